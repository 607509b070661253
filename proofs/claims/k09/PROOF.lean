import PyProof.Rows.All
import Wide.All
import OpenK.AllK
import Wide.FinOn
import Lean
import PyProof.EqAt
import PyProof.EqKinds
import PyProof.TupleCall
import KE.KIntText
import PyProof.EnumFor
import PyProof.EnumMake
import PyProof.ZipIter
import PyProof.LayNew
import KE.KTurns
import PyProof.Rows.Range3
import KE.KRevSl
import KE.KDictList
import PyProof.Draws
import PyProof.Rows.RuleM_int
import PyProof.Rows.BitMore
import PyProof.NeKinds
import KE.KRevIter
import PyProof.JoinWalk
import KE.KTryMore
import PyProof.ExcArgs
import OpenK.KOwn
import PyProof.ExcBaseAll.ValueError
import KE.KLam
import KE.KNestM
import PyProof.AttrMissHeap
import KE.KDictOf
import PySem.Challenge.RW_loomwright_k09_cloths_made_or_refused
set_option Elab.async false
set_option linter.all false
set_option maxRecDepth 100000
set_option genSizeOf false
set_option bootstrap.genMatcherCode false
set_option compiler.extract_closed false
set_option maxHeartbeats 4000000
noncomputable section
namespace L2
open PySem
def Av (s:Stmt) (j:Nat):Stmt:=match s with
  | .ClassDef _ _ _ body _ _ _ _ _ _ _=>body.getD j (.Pass ⟨0,0,0,0⟩)
  | _=> .Pass ⟨0,0,0,0⟩
def DD (s:Stmt):Arguments:=match s with
  | .FunctionDef _ a _ _ _ _ _ _ _ _=>a
  | _=>{ posonlyargs:=[],args:=[],vararg:=none,kwonlyargs:=[],kw_defaults:=[],kwarg:=none,defaults:=[] }
def Ce (s:Stmt):List Stmt:=match s with
  | .FunctionDef _ _ b _ _ _ _ _ _ _=>b
  | _=>[]
def Ah (s:Stmt):Scope:=match s with
  | .FunctionDef _ _ _ _ _ _ sc _ _ _=>sc
  | _=>{ kind:= .function,names:=[],isGenerator:=false,isCoroutine:=false }
end L2
namespace K09
open PySem
def top (i:Nat):Stmt:=PySem.Challenge.pw_loomwright_k09_cloths_made_or_refused.main.body.getD i (.Pass ⟨0,0,0,0⟩)
end K09
namespace HX
open PySem PySem.W PySem.Calls PyProof.Rows
def topT (tb:String->Option Builtin) (p:Program) (w:World) (n₀:Nat) (ann:Option Value):Nat->SharedT->Thread->Option SharedT
  | 0,_,_=>none
  | n+1,s,t=>match through t with
    | true=>some s
    | false=>match stepOk n₀ ann t with
      | false=>none
      | true=>match stepT (denote tb) p w s t with
        | some (s',t')=>topT tb p w n₀ ann n s' t'
        | none=>none
theorem topT_of {tb:String->Option Builtin} {p:Program} {w:World} {n₀:Nat} {ann:Option Value}:∀ {n:Nat} {s s':SharedT} {t:Thread},topT tb p w n₀ ann n s t=some s'->topRun tb p w n₀ ann n s.abs t=some s'.abs
  | 0,_,_,_,h=>by cases h
  | n+1,s,s',t,h=>by
    unfold topT at h;unfold topRun;cases ht:through t with
    | true=>rw [ht] at h;cases h;rfl
    | false=>
      rw [ht] at h;cases hk:stepOk n₀ ann t with
      | false=>rw [hk] at h;cases h
      | true=>
        rw [hk] at h;cases hs:stepT (denote tb) p w s t with
        | none=>rw [hs] at h;cases h
        | some x=>
          obtain ⟨s2,t2⟩:=x;rw [hs] at h;dsimp only;rw [stepT_spec hs];exact topT_of h
def ofL:List Obj->Nat->BT->BT
  | [],_,t=>t
  | o::r,i,t=>ofL r (i+1) (t.ins i o)
def bootT (P:Params):BT:=ofL (boot_heap P).objs.toList 0 .nil
theorem left_run {p q:Program} {loose:List Str} {Xt:Shared->Bool} {α:Type} {Yf:Shared->α} {Ya:World->α} {N:Nat} {g0:Bool}
    (e:opening p=plainProg p.main.scope.names) (hN:Nat.ble 600 N=true) (f:∀ s,fenceModules? p s=some s)
    (hb:∀ P:Params,(absHeap (bootT P) 11 {},boot_drawn,(boot_heap P).isNs mainGlobals,(boot_heap P).objs.size,(boot_heap P).nsMap mainGlobals "__annotations__")=(boot_heap P,boot_drawn,true,11,some (.ref 6)))
    (run:∀ (w:World) (os:OsState),∃ s:Shared,topRun treeTable p w 11 (some (.ref 6)) N (⟨bootT w.params,11,{},Array.mk [],boot_drawn,boot_toks,os⟩:SharedT).abs (topStub p)=some s/\((staticsOk (importedModules p.main.body) (boot_heap w.params) s.heap&&namesBound p s.heap&&gensDone s&&laidKept (boot_heap w.params) s.heap),openSeen q loose (importedModules p.main.body) Xt g0 s,Yf s)=(true,openGood q loose,Ya w)):LeftO p q loose Xt Yf Ya N g0:=λ w=>by
  obtain ⟨⟨h,gs,d,k,os⟩,e1,e'⟩:=Option.map_eq_some_iff.mp (boot_open (p:=p) (N:=N) e hN f w);obtain ⟨rfl,rfl,rfl,rfl⟩:h=boot_heap w.params/\gs=Array.mk []/\d=boot_drawn/\k=boot_toks:=by simpa using e'
  have hb':=hb w.params;simp only [Prod.mk.injEq] at hb';obtain ⟨b1,_,b2,b3,b4⟩:=hb';obtain ⟨s,r,l⟩:=run w os;obtain ⟨l1,l2,l3⟩:_/\_/\_:=by simpa only [Prod.mk.injEq] using l
  have b0:(⟨bootT w.params,11,{},Array.mk [],boot_drawn,boot_toks,os⟩:SharedT).abs=⟨boot_heap w.params,Array.mk [],boot_drawn,boot_toks,os⟩:=by
    show (⟨absHeap (bootT w.params) 11 {},_,_,_,_⟩:Shared)=_;rw [b1]
  rw [b0] at r;have t:topFrom treeTable p w N ⟨boot_heap w.params,Array.mk [],boot_drawn,boot_toks,os⟩=some s:=by
    unfold topFrom;dsimp only;rw [b2,b3,b4];show Option.bind (topRun treeTable p w 11 (some (.ref 6)) N ⟨boot_heap w.params,Array.mk [],boot_drawn,boot_toks,os⟩ (topStub p)) _=_;rw [r];show (match staticsOk (importedModules p.main.body) (boot_heap w.params) s.heap&&namesBound p s.heap&&gensDone s&&laidKept (boot_heap w.params) s.heap with | true=>_ | false=>_)=_;rw [l1]
  unfold openEnds;rw [e1];show (topFrom treeTable p w N _).map _=_;rw [t];exact congrArg some (Prod.ext l2 l3)
theorem three {α β γ:Type} {a a':α} {b b':β} {c c':γ} (h:(a,c)=(a',c')) (k:b=b'):(a,b,c)=(a',b',c'):=by
  cases h;cases k;rfl
theorem hb (P:Params):(absHeap (bootT P) 11 {},boot_drawn,(boot_heap P).isNs mainGlobals,(boot_heap P).objs.size,(boot_heap P).nsMap mainGlobals "__annotations__")=(boot_heap P,boot_drawn,true,11,some (.ref 6)):=by kernel_rfl
end HX
namespace K09
open PySem L2 PySem.W PySem.Calls PyProof.Rows
abbrev Ob:=Params->Obj
abbrev dE (P:Params) (s:Str) (t:Tok) (v:Value):DictEntry:=⟨PyData.keyHash P s, .str s t,v⟩
abbrev dR (P:Params) (s:Str) (t:Tok) (a:Addr):DictEntry:=⟨PyData.keyHash P s, .str s t, .ref a⟩
abbrev tu (xs:Array Value):Obj:=⟨.type "tuple",none, .seq xs 0, #[]⟩
abbrev di (es:Array DictEntry) (n:Nat):Obj:=⟨.type "dict",none, .dict es n, #[]⟩
abbrev fo (n q:Str) (st:Stmt) (m:Str) (t:Tok) (c:Addr):Obj:=⟨.type "function",none, .func (fnOf n q (DD st) (Ce st) (Ah st) .none .none .none (.str m t) none (.ref c) .none), #[]⟩
abbrev co (n q:Str) (t:Tok) (l ac nl:Int) (a:Addr) (b:Bool) (r:Addr) (c d e:Value) (k:Int) (t4:Tok):Obj:=⟨.type "code",none, .fields #[.str n t, .str q (t+1), .str "/claim/cut.py" (t+2), .int l 0, .int ac 0, .int 0 0, .int 0 0, .int nl 0, .ref a, .bool b, .int 181 0, .ref r, .none,c,d,e, .int k 0, .int l 0, .str "/claim/cut.py" t4], #[]⟩
def o3:Ob:=λ P=>di #[dE P "__name__" 165 (.str "law_loomwright_k09_cloths_made_or_refused" 552),dE P "__doc__" 166 .none,dE P "__package__" 167 .none,dE P "__loader__" 168 (.builtin "__main__.__loader__#opaque"),dE P "__spec__" 169 .none,dR P "__annotations__" 170 6,dR P "__builtins__" 171 4,dE P "__file__" 173 (.str "/claim/cut.py" 172),dE P "__cached__" 174 .none,dE P "MOST_ENDS" 188 (.int 60 187),dE P "MOST_PICKS" 190 (.int 60 189),dR P "LoomError" 210 24,dR P "BadRow" 237 44,dR P "BadWord" 262 63,dR P "TooMany" 289 82,dR P "NotPlain" 316 101,dR P "NotGrown" 343 120,dR P "BadDraft" 359 132,dR P "BadCloth" 375 144,dR P "OutOfPlace" 391 156,dR P "bit_of" 400 165,dR P "mask_of" 409 172,dR P "mask_to" 416 179,dR P "has_number" 424 186,dR P "numbers_of" 430 191,dR P "other_mask" 438 198,dR P "turned_mask" 444 203,dR P "is_whole" 453 210,dR P "is_among" 462 217,dR P "need_cloth" 470 222,dR P "Cloth" 545 279,dR P "from_behind" 551 288,dR P "_law_at" 561 295,dR P "_law_mask" 572 302,dR P "_law_masks" 578 307,dR P "_law_whole" 586 314,dR P "_law_bit" 594 321,dR P "_law_column" 605 328,dR P "_law_kind" 613 335,dR P "_law_refused" 623 342,dR P "_law_told_right" 635 349,dR P "_law_crossings_right" 647 356,dR P "_law_behind" 657 363,dR P "_law_odd_refused" 669 370,dR P "law" 675 375] 45
def o15:Ob:=λ P=>tu #[(.type "ValueError")]
def o22:Ob:=λ P=>tu #[]
def o23:Ob:=λ P=>di #[dE P "__module__" 200 (.str "loomwright.errors" 191),dE P "__firstlineno__" 204 (.int 4 203),dR P "__static_attributes__" 205 22,dR P "__weakref__" 207 25,dE P "__doc__" 208 .none] 3
def o24:Ob:=λ P=>⟨(.type "type"),none,(.cls ⟨"LoomError",[(.type "ValueError")],[(.ref 24),(.type "ValueError"),(.type "Exception"),(.type "BaseException"),(.type "object")],23,"LoomError",true,[],[(.ref 44),(.ref 63),(.ref 82),(.ref 101),(.ref 120),(.ref 132),(.ref 144),(.ref 156)],false,none,false⟩), #[(some (.ref 15)),none,(some (.str "LoomError" 193)),(some (.str "LoomError" 201)),(some (.builtin "ValueError.__new__")),(some (.bool true))]⟩
def o25:Ob:=λ P=>⟨(.type "getset_descriptor"),none,(.fields #[(.str "__weakref__" 206),(.ref 24),(.builtin "ExceptionGroup.__weakref__"), .none]), #[]⟩
def o28:Ob:=λ P=>tu #[(.ref 24)]
def o40:Ob:=λ P=>co "__init__" "BadRow.__init__" 223 8 3 3 35 true 36 (.ref 37) (.ref 38) (.ref 39) 229 230
def o41:Ob:=λ P=>fo "__init__" "BadRow.__init__" (Av (top 4) 0) "loomwright.errors" 191 40
def o42:Ob:=λ P=>tu #[(.str "row" 232),(.str "word" 233)]
def o43:Ob:=λ P=>di #[dE P "__module__" 218 (.str "loomwright.errors" 191),dE P "__firstlineno__" 222 (.int 6 221),dR P "__init__" 231 41,dR P "__static_attributes__" 234 42,dE P "__doc__" 235 .none] 2
def o44:Ob:=λ P=>⟨(.type "type"),none,(.cls ⟨"BadRow",[(.ref 24)],[(.ref 44),(.ref 24),(.type "ValueError"),(.type "Exception"),(.type "BaseException"),(.type "object")],43,"BadRow",true,[],[],false,none,false⟩), #[(some (.ref 28)),none,(some (.str "BadRow" 211)),(some (.str "BadRow" 219)),(some (.builtin "ValueError.__new__")),(some (.bool true))]⟩
def o47:Ob:=λ P=>tu #[(.ref 24)]
def o59:Ob:=λ P=>co "__init__" "BadWord.__init__" 250 14 2 3 54 true 55 (.ref 56) (.ref 57) (.ref 58) 255 256
def o60:Ob:=λ P=>fo "__init__" "BadWord.__init__" (Av (top 5) 0) "loomwright.errors" 191 59
def o61:Ob:=λ P=>tu #[(.str "place" 258)]
def o62:Ob:=λ P=>di #[dE P "__module__" 245 (.str "loomwright.errors" 191),dE P "__firstlineno__" 249 (.int 12 248),dR P "__init__" 257 60,dR P "__static_attributes__" 259 61,dE P "__doc__" 260 .none] 2
def o63:Ob:=λ P=>⟨(.type "type"),none,(.cls ⟨"BadWord",[(.ref 24)],[(.ref 63),(.ref 24),(.type "ValueError"),(.type "Exception"),(.type "BaseException"),(.type "object")],62,"BadWord",true,[],[],false,none,false⟩), #[(some (.ref 47)),none,(some (.str "BadWord" 238)),(some (.str "BadWord" 246)),(some (.builtin "ValueError.__new__")),(some (.bool true))]⟩
def o66:Ob:=λ P=>tu #[(.ref 24)]
def o78:Ob:=λ P=>co "__init__" "TooMany.__init__" 275 19 3 3 73 true 74 (.ref 75) (.ref 76) (.ref 77) 281 282
def o79:Ob:=λ P=>fo "__init__" "TooMany.__init__" (Av (top 6) 0) "loomwright.errors" 191 78
def o80:Ob:=λ P=>tu #[(.str "many" 284),(.str "what" 285)]
def o81:Ob:=λ P=>di #[dE P "__module__" 270 (.str "loomwright.errors" 191),dE P "__firstlineno__" 274 (.int 17 273),dR P "__init__" 283 79,dR P "__static_attributes__" 286 80,dE P "__doc__" 287 .none] 2
def o82:Ob:=λ P=>⟨(.type "type"),none,(.cls ⟨"TooMany",[(.ref 24)],[(.ref 82),(.ref 24),(.type "ValueError"),(.type "Exception"),(.type "BaseException"),(.type "object")],81,"TooMany",true,[],[],false,none,false⟩), #[(some (.ref 66)),none,(some (.str "TooMany" 263)),(some (.str "TooMany" 271)),(some (.builtin "ValueError.__new__")),(some (.bool true))]⟩
def o85:Ob:=λ P=>tu #[(.ref 24)]
def o97:Ob:=λ P=>co "__init__" "NotPlain.__init__" 302 25 3 3 92 true 93 (.ref 94) (.ref 95) (.ref 96) 308 309
def o98:Ob:=λ P=>fo "__init__" "NotPlain.__init__" (Av (top 7) 0) "loomwright.errors" 191 97
def o99:Ob:=λ P=>tu #[(.str "number" 311),(.str "what" 312)]
def M5:Ob:=λ P=>di #[dE P "__module__" 297 (.str "loomwright.errors" 191),dE P "__firstlineno__" 301 (.int 23 300),dR P "__init__" 310 98,dR P "__static_attributes__" 313 99,dE P "__doc__" 314 .none] 2
def NU:Ob:=λ P=>⟨(.type "type"),none,(.cls ⟨"NotPlain",[(.ref 24)],[(.ref 101),(.ref 24),(.type "ValueError"),(.type "Exception"),(.type "BaseException"),(.type "object")],100,"NotPlain",true,[],[],false,none,false⟩), #[(some (.ref 85)),none,(some (.str "NotPlain" 290)),(some (.str "NotPlain" 298)),(some (.builtin "ValueError.__new__")),(some (.bool true))]⟩
def MH:Ob:=λ P=>tu #[(.ref 24)]
def Nk:Ob:=λ P=>co "__init__" "NotGrown.__init__" 329 31 3 3 111 true 112 (.ref 113) (.ref 114) (.ref 115) 335 336
def N9:Ob:=λ P=>fo "__init__" "NotGrown.__init__" (Av (top 8) 0) "loomwright.errors" 191 116
def NN:Ob:=λ P=>tu #[(.str "column" 338),(.str "row" 339)]
def M7:Ob:=λ P=>di #[dE P "__module__" 324 (.str "loomwright.errors" 191),dE P "__firstlineno__" 328 (.int 29 327),dR P "__init__" 337 117,dR P "__static_attributes__" 340 118,dE P "__doc__" 341 .none] 2
def N0:Ob:=λ P=>⟨(.type "type"),none,(.cls ⟨"NotGrown",[(.ref 24)],[(.ref 120),(.ref 24),(.type "ValueError"),(.type "Exception"),(.type "BaseException"),(.type "object")],119,"NotGrown",true,[],[],false,none,false⟩), #[(some (.ref 104)),none,(some (.str "NotGrown" 317)),(some (.str "NotGrown" 325)),(some (.builtin "ValueError.__new__")),(some (.bool true))]⟩
def My:Ob:=λ P=>tu #[(.ref 24)]
def M0:Ob:=λ P=>tu #[]
def Nm:Ob:=λ P=>di #[dE P "__module__" 351 (.str "loomwright.errors" 191),dE P "__firstlineno__" 355 (.int 35 354),dR P "__static_attributes__" 356 130,dE P "__doc__" 357 .none] 2
def NX:Ob:=λ P=>⟨(.type "type"),none,(.cls ⟨"BadDraft",[(.ref 24)],[(.ref 132),(.ref 24),(.type "ValueError"),(.type "Exception"),(.type "BaseException"),(.type "object")],131,"BadDraft",true,[],[],false,none,false⟩), #[(some (.ref 123)),none,(some (.str "BadDraft" 344)),(some (.str "BadDraft" 352)),(some (.builtin "ValueError.__new__")),(some (.bool true))]⟩
def NY:Ob:=λ P=>tu #[(.ref 24)]
def MC:Ob:=λ P=>tu #[]
def Nw:Ob:=λ P=>di #[dE P "__module__" 367 (.str "loomwright.errors" 191),dE P "__firstlineno__" 371 (.int 37 370),dR P "__static_attributes__" 372 142,dE P "__doc__" 373 .none] 2
def Ng:Ob:=λ P=>⟨(.type "type"),none,(.cls ⟨"BadCloth",[(.ref 24)],[(.ref 144),(.ref 24),(.type "ValueError"),(.type "Exception"),(.type "BaseException"),(.type "object")],143,"BadCloth",true,[],[],false,none,false⟩), #[(some (.ref 135)),none,(some (.str "BadCloth" 360)),(some (.str "BadCloth" 368)),(some (.builtin "ValueError.__new__")),(some (.bool true))]⟩
def N5:Ob:=λ P=>tu #[(.ref 24)]
def Ny:Ob:=λ P=>tu #[]
def Nf:Ob:=λ P=>di #[dE P "__module__" 383 (.str "loomwright.errors" 191),dE P "__firstlineno__" 387 (.int 39 386),dR P "__static_attributes__" 388 154,dE P "__doc__" 389 .none] 2
def Nu:Ob:=λ P=>⟨(.type "type"),none,(.cls ⟨"OutOfPlace",[(.ref 24)],[(.ref 156),(.ref 24),(.type "ValueError"),(.type "Exception"),(.type "BaseException"),(.type "object")],155,"OutOfPlace",true,[],[],false,none,false⟩), #[(some (.ref 147)),none,(some (.str "OutOfPlace" 376)),(some (.str "OutOfPlace" 384)),(some (.builtin "ValueError.__new__")),(some (.bool true))]⟩
def Nt:Ob:=λ P=>co "bit_of" "bit_of" 394 42 1 3 159 true 160 (.ref 161) (.ref 162) (.ref 163) 398 399
def N1:Ob:=λ P=>fo "bit_of" "bit_of" (top 13) "loomwright.masks" 392 164
def Of:Ob:=λ P=>co "mask_of" "mask_of" 401 44 1 3 166 true 167 (.ref 168) (.ref 169) (.ref 170) 407 408
def Nv:Ob:=λ P=>fo "mask_of" "mask_of" (top 14) "loomwright.masks" 392 171
def M3:Ob:=λ P=>co "mask_to" "mask_to" 410 49 1 3 173 true 174 (.ref 175) (.ref 176) (.ref 177) 414 415
def MV:Ob:=λ P=>fo "mask_to" "mask_to" (top 15) "loomwright.masks" 392 178
def MQ:Ob:=λ P=>co "has_number" "has_number" 417 51 2 3 180 true 181 (.ref 182) (.ref 183) (.ref 184) 422 423
def Nc:Ob:=λ P=>fo "has_number" "has_number" (top 16) "loomwright.masks" 392 185
def MA:Ob:=λ P=>co "numbers_of" "numbers_of" 425 53 1 3 187 true 188 .none .none (.ref 189) 428 429
def M9:Ob:=λ P=>fo "numbers_of" "numbers_of" (top 17) "loomwright.masks" 392 190
def Mw:Ob:=λ P=>co "other_mask" "other_mask" 431 55 2 3 192 true 193 (.ref 194) (.ref 195) (.ref 196) 436 437
def NP:Ob:=λ P=>fo "other_mask" "other_mask" (top 18) "loomwright.masks" 392 197
def N3:Ob:=λ P=>co "turned_mask" "turned_mask" 439 57 2 3 199 true 200 .none .none (.ref 201) 442 443
def Nd:Ob:=λ P=>fo "turned_mask" "turned_mask" (top 19) "loomwright.masks" 392 202
def NS:Ob:=λ P=>co "is_whole" "is_whole" 447 60 1 3 204 true 205 (.ref 206) (.ref 207) (.ref 208) 451 452
def Oc:Ob:=λ P=>fo "is_whole" "is_whole" (top 21) "loomwright.words" 445 209
def MD:Ob:=λ P=>co "is_among" "is_among" 454 62 3 3 211 true 212 (.ref 213) (.ref 214) (.ref 215) 460 461
def MX:Ob:=λ P=>fo "is_among" "is_among" (top 22) "loomwright.words" 445 216
def Na:Ob:=λ P=>co "need_cloth" "need_cloth" 465 65 2 3 218 true 219 .none .none (.ref 220) 468 469
def Od:Ob:=λ P=>fo "need_cloth" "need_cloth" (top 24) "loomwright.cloth" 463 221
def ME:Ob:=λ P=>co "__init__" "Cloth.__init__" 483 74 3 3 230 true 231 (.ref 232) (.ref 233) (.ref 234) 489 490
def ND:Ob:=λ P=>fo "__init__" "Cloth.__init__" (Av (top 25) 0) "loomwright.cloth" 463 235
def Nh:Ob:=λ P=>co "told" "Cloth.told" 492 79 1 3 237 true 238 (.ref 239) (.ref 240) (.ref 241) 496 497
def Og:Ob:=λ P=>fo "told" "Cloth.told" (Av (top 25) 1) "loomwright.cloth" 463 242
def Nj:Ob:=λ P=>co "ends" "Cloth.ends" 499 82 1 3 244 true 245 (.ref 246) (.ref 247) (.ref 248) 503 504
def Nx:Ob:=λ P=>fo "ends" "Cloth.ends" (Av (top 25) 2) "loomwright.cloth" 463 249
def NC:Ob:=λ P=>co "picks" "Cloth.picks" 506 85 1 3 251 true 252 (.ref 253) (.ref 254) (.ref 255) 510 511
def Mx:Ob:=λ P=>fo "picks" "Cloth.picks" (Av (top 25) 3) "loomwright.cloth" 463 256
def MR:Ob:=λ P=>co "row_at" "Cloth.row_at" 513 88 2 3 258 true 259 (.ref 260) (.ref 261) (.ref 262) 518 519
def NZ:Ob:=λ P=>fo "row_at" "Cloth.row_at" (Av (top 25) 4) "loomwright.cloth" 463 263
def MY:Ob:=λ P=>co "column_at" "Cloth.column_at" 521 91 2 3 265 true 266 .none .none (.ref 267) 524 525
def MU:Ob:=λ P=>fo "column_at" "Cloth.column_at" (Av (top 25) 5) "loomwright.cloth" 463 268
def Nb:Ob:=λ P=>co "is_up" "Cloth.is_up" 527 94 3 3 270 true 271 (.ref 272) (.ref 273) (.ref 274) 533 534
def Nz:Ob:=λ P=>fo "is_up" "Cloth.is_up" (Av (top 25) 6) "loomwright.cloth" 463 275
def N6:Ob:=λ P=>tu #[(.str "rows" 536),(.str "width" 537)]
def MF:Ob:=λ P=>di #[dE P "__module__" 478 (.str "loomwright.cloth" 463),dE P "__firstlineno__" 482 (.int 72 481),dR P "__init__" 491 236,dR P "told" 498 243,dR P "ends" 505 250,dR P "picks" 512 257,dR P "row_at" 520 264,dR P "column_at" 526 269,dR P "is_up" 535 276,dR P "__static_attributes__" 538 277,dR P "__dict__" 540 280,dR P "__weakref__" 542 281,dE P "__doc__" 543 .none] 4
def NI:Ob:=λ P=>⟨(.type "type"),none,(.cls ⟨"Cloth",[(.type "object")],[(.ref 279),(.type "object")],278,"Cloth",true,[],[],false,none,false⟩), #[none,none,(some (.str "Cloth" 471)),(some (.str "Cloth" 479)),(some (.builtin "object.__new__")),(some (.bool true))]⟩
def M8:Ob:=λ P=>⟨(.type "getset_descriptor"),none,(.fields #[(.str "__dict__" 539),(.ref 279),(.builtin "function.__dict__"),(.builtin "function.__dict__#set")]), #[]⟩
def MB:Ob:=λ P=>⟨(.type "getset_descriptor"),none,(.fields #[(.str "__weakref__" 541),(.ref 279),(.builtin "ExceptionGroup.__weakref__"), .none]), #[]⟩
def NH:Ob:=λ P=>co "from_behind" "from_behind" 546 96 1 3 284 true 285 .none .none (.ref 286) 549 550
def NB:Ob:=λ P=>fo "from_behind" "from_behind" (top 26) "loomwright.cloth" 463 287
def M6:Ob:=λ P=>co "_law_at" "_law_at" 554 100 2 3 289 true 290 (.ref 291) (.ref 292) (.ref 293) 559 560
def NQ:Ob:=λ P=>fo "_law_at" "_law_at" (top 28) "law_loomwright_k09_cloths_made_or_refused" 552 294
def N7:Ob:=λ P=>co "_law_mask" "_law_mask" 562 104 4 3 296 true 297 (.ref 298) (.ref 299) (.ref 300) 570 571
def NM:Ob:=λ P=>fo "_law_mask" "_law_mask" (top 29) "law_loomwright_k09_cloths_made_or_refused" 552 301
def Nl:Ob:=λ P=>co "_law_masks" "_law_masks" 573 109 2 3 303 true 304 .none .none (.ref 305) 576 577
def MK:Ob:=λ P=>fo "_law_masks" "_law_masks" (top 30) "law_loomwright_k09_cloths_made_or_refused" 552 306
def N8:Ob:=λ P=>co "_law_whole" "_law_whole" 579 117 2 3 308 true 309 (.ref 310) (.ref 311) (.ref 312) 584 585
def NE:Ob:=λ P=>fo "_law_whole" "_law_whole" (top 31) "law_loomwright_k09_cloths_made_or_refused" 552 313
def N4:Ob:=λ P=>co "_law_bit" "_law_bit" 587 119 2 3 315 true 316 (.ref 317) (.ref 318) (.ref 319) 592 593
def MT:Ob:=λ P=>fo "_law_bit" "_law_bit" (top 32) "law_loomwright_k09_cloths_made_or_refused" 552 320
def MJ:Ob:=λ P=>co "_law_column" "_law_column" 595 121 2 3 322 true 323 (.ref 324) (.ref 325) (.ref 326) 603 604
def MI:Ob:=λ P=>fo "_law_column" "_law_column" (top 33) "law_loomwright_k09_cloths_made_or_refused" 552 327
def Ni:Ob:=λ P=>co "_law_kind" "_law_kind" 606 129 1 3 329 true 330 (.ref 331) (.ref 332) (.ref 333) 611 612
def MP:Ob:=λ P=>fo "_law_kind" "_law_kind" (top 34) "law_loomwright_k09_cloths_made_or_refused" 552 334
def MG:Ob:=λ P=>co "_law_refused" "_law_refused" 614 136 2 3 336 true 337 (.ref 338) (.ref 339) (.ref 340) 621 622
def ML:Ob:=λ P=>fo "_law_refused" "_law_refused" (top 35) "law_loomwright_k09_cloths_made_or_refused" 552 341
def M4:Ob:=λ P=>co "_law_told_right" "_law_told_right" 624 143 3 3 343 true 344 (.ref 345) (.ref 346) (.ref 347) 633 634
def Oh:Ob:=λ P=>fo "_law_told_right" "_law_told_right" (top 36) "law_loomwright_k09_cloths_made_or_refused" 552 348
def MZ:Ob:=λ P=>co "_law_crossings_right" "_law_crossings_right" 636 154 3 3 350 true 351 (.ref 352) (.ref 353) (.ref 354) 645 646
def Nr:Ob:=λ P=>fo "_law_crossings_right" "_law_crossings_right" (top 37) "law_loomwright_k09_cloths_made_or_refused" 552 355
def NR:Ob:=λ P=>co "_law_behind" "_law_behind" 648 163 2 3 357 true 358 (.ref 359) (.ref 360) (.ref 361) 655 656
def N2:Ob:=λ P=>fo "_law_behind" "_law_behind" (top 38) "law_loomwright_k09_cloths_made_or_refused" 552 362
def NG:Ob:=λ P=>co "_law_odd_refused" "_law_odd_refused" 658 168 3 3 364 true 365 (.ref 366) (.ref 367) (.ref 368) 667 668
def MW:Ob:=λ P=>fo "_law_odd_refused" "_law_odd_refused" (top 39) "law_loomwright_k09_cloths_made_or_refused" 552 369
def NA:Ob:=λ P=>co "law" "law" 670 177 1 3 371 true 372 .none .none (.ref 373) 673 674
def Np:Ob:=λ P=>fo "law" "law" (top 40) "law_loomwright_k09_cloths_made_or_refused" 552 374
def frag (P:Params):Frag:=(nat_lit 2,boot_o_2 P)::(nat_lit 3,o3 P)::(nat_lit 15,o15 P)::(nat_lit 22,o22 P)::(nat_lit 23,o23 P)::(nat_lit 24,o24 P)::(nat_lit 25,o25 P)::(nat_lit 28,o28 P)::(nat_lit 40,o40 P)::(nat_lit 41,o41 P)::(nat_lit 42,o42 P)::(nat_lit 43,o43 P)::(nat_lit 44,o44 P)::(nat_lit 47,o47 P)::(nat_lit 59,o59 P)::(nat_lit 60,o60 P)::(nat_lit 61,o61 P)::(nat_lit 62,o62 P)::(nat_lit 63,o63 P)::(nat_lit 66,o66 P)::(nat_lit 78,o78 P)::(nat_lit 79,o79 P)::(nat_lit 80,o80 P)::(nat_lit 81,o81 P)::(nat_lit 82,o82 P)::(nat_lit 85,o85 P)::(nat_lit 97,o97 P)::(nat_lit 98,o98 P)::(nat_lit 99,o99 P)::(nat_lit 100,M5 P)::(nat_lit 101,NU P)::(nat_lit 104,MH P)::(nat_lit 116,Nk P)::(nat_lit 117,N9 P)::(nat_lit 118,NN P)::(nat_lit 119,M7 P)::(nat_lit 120,N0 P)::(nat_lit 123,My P)::(nat_lit 130,M0 P)::(nat_lit 131,Nm P)::(nat_lit 132,NX P)::(nat_lit 135,NY P)::(nat_lit 142,MC P)::(nat_lit 143,Nw P)::(nat_lit 144,Ng P)::(nat_lit 147,N5 P)::(nat_lit 154,Ny P)::(nat_lit 155,Nf P)::(nat_lit 156,Nu P)::(nat_lit 164,Nt P)::(nat_lit 165,N1 P)::(nat_lit 171,Of P)::(nat_lit 172,Nv P)::(nat_lit 178,M3 P)::(nat_lit 179,MV P)::(nat_lit 185,MQ P)::(nat_lit 186,Nc P)::(nat_lit 190,MA P)::(nat_lit 191,M9 P)::(nat_lit 197,Mw P)::(nat_lit 198,NP P)::(nat_lit 202,N3 P)::(nat_lit 203,Nd P)::(nat_lit 209,NS P)::(nat_lit 210,Oc P)::(nat_lit 216,MD P)::(nat_lit 217,MX P)::(nat_lit 221,Na P)::(nat_lit 222,Od P)::(nat_lit 235,ME P)::(nat_lit 236,ND P)::(nat_lit 242,Nh P)::(nat_lit 243,Og P)::(nat_lit 249,Nj P)::(nat_lit 250,Nx P)::(nat_lit 256,NC P)::(nat_lit 257,Mx P)::(nat_lit 263,MR P)::(nat_lit 264,NZ P)::(nat_lit 268,MY P)::(nat_lit 269,MU P)::(nat_lit 275,Nb P)::(nat_lit 276,Nz P)::(nat_lit 277,N6 P)::(nat_lit 278,MF P)::(nat_lit 279,NI P)::(nat_lit 280,M8 P)::(nat_lit 281,MB P)::(nat_lit 287,NH P)::(nat_lit 288,NB P)::(nat_lit 294,M6 P)::(nat_lit 295,NQ P)::(nat_lit 301,N7 P)::(nat_lit 302,NM P)::(nat_lit 306,Nl P)::(nat_lit 307,MK P)::(nat_lit 313,N8 P)::(nat_lit 314,NE P)::(nat_lit 320,N4 P)::(nat_lit 321,MT P)::(nat_lit 327,MJ P)::(nat_lit 328,MI P)::(nat_lit 334,Ni P)::(nat_lit 335,MP P)::(nat_lit 341,MG P)::(nat_lit 342,ML P)::(nat_lit 348,M4 P)::(nat_lit 349,Oh P)::(nat_lit 355,MZ P)::(nat_lit 356,Nr P)::(nat_lit 362,NR P)::(nat_lit 363,N2 P)::(nat_lit 369,NG P)::(nat_lit 370,MW P)::(nat_lit 374,NA P)::(nat_lit 375,Np P)::[]
def addrs:List Addr:=[2,3,15,22,23,24,25,28,40,41,42,43,44,47,59,60,61,62,63,66,78,79,80,81,82,85,97,98,99,100,101,104,116,117,118,119,120,123,130,131,132,135,142,143,144,147,154,155,156,164,165,171,172,178,179,185,186,190,191,197,198,202,203,209,210,216,217,221,222,235,236,242,243,249,250,256,257,263,264,268,269,275,276,277,278,279,280,281,287,288,294,295,301,302,306,307,313,314,320,321,327,328,334,335,341,342,348,349,355,356,362,363,369,370,374,375]
def view:Program:={ PySem.Challenge.pw_loomwright_k09_cloths_made_or_refused with main:={ PySem.Challenge.pw_loomwright_k09_cloths_made_or_refused.main with body:=[top 0,top 1,top 3,top 4,top 5,top 6,top 7,top 8,top 9,top 10,top 11,top 13,top 14,top 15,top 16,top 17,top 18,top 19,top 21,top 22,top 24,top 25,top 26,top 28,top 29,top 30,top 31,top 32,top 33,top 34,top 35,top 36,top 37,top 38,top 39,top 40] } }
abbrev Xt:Shared->Bool:=λ s=>xlAt view [] s&&recOk (RowW.records PySem.Challenge.rw_loomwright_k09_cloths_made_or_refused.row.toRowW) s
theorem addrs_eq:∀ P:Params,addrs=(frag P).map (·.1):=λ _=>by kernel_rfl
abbrev hook:Hook:=kHook frag addrs addrs_eq
abbrev fuel:Nat:=6622
def _root_.PySem.W.Fast.tw8919233563250620300:Program:=PySem.Challenge.pw_loomwright_k09_cloths_made_or_refused
theorem _root_.PySem.W.Fast.te8919233563250620300:PySem.Challenge.pw_loomwright_k09_cloths_made_or_refused=PySem.W.Fast.tw8919233563250620300:=rfl
theorem LW:(λ _=>true) (HX.topT treeTable)=true:=by k_qdec
theorem wsaid:PySem.Challenge.rw_loomwright_k09_cloths_made_or_refused.wellSaid=true:=by k_qdec
theorem Nq (w:World) (os:OsState):(HX.topT treeTable PySem.Challenge.pw_loomwright_k09_cloths_made_or_refused w 11 (some (.ref 6)) fuel ⟨HX.bootT w.params,11,{},Array.mk [],boot_drawn,boot_toks,os⟩ (topStub PySem.Challenge.pw_loomwright_k09_cloths_made_or_refused)).map (λ s=>((staticsOk (importedModules PySem.Challenge.pw_loomwright_k09_cloths_made_or_refused.main.body) (boot_heap w.params) s.abs.heap&&namesBound PySem.Challenge.pw_loomwright_k09_cloths_made_or_refused s.abs.heap&&gensDone s.abs&&laidKept (boot_heap w.params) s.abs.heap),addrs.map s.abs.heap.get?))=some (true,((frag w.params).map λ p=>some p.2)):=by
  have _tw:=LW;rw [PySem.W.Fast.te5923862056798008813,PySem.W.Fast.te14364793385576792824,PySem.W.Fast.te9621378704136392807];kernel_rfl
theorem NV (w:World) (os:OsState):(HX.topT treeTable PySem.Challenge.pw_loomwright_k09_cloths_made_or_refused w 11 (some (.ref 6)) fuel ⟨HX.bootT w.params,11,{},Array.mk [],boot_drawn,boot_toks,os⟩ (topStub PySem.Challenge.pw_loomwright_k09_cloths_made_or_refused)).map (λ s=>(openSeen view [] (importedModules PySem.Challenge.pw_loomwright_k09_cloths_made_or_refused.main.body) Xt true s.abs))=some (openGood view []):=by
  unfold Xt;rw [PySem.W.Fast.te5923862056798008813,PySem.W.Fast.te4187177175401517315,PySem.W.Fast.te2368527892694137696,PySem.W.Fast.te14364793385576792824,PySem.W.Fast.te9621378704136392807];kernel_rfl
theorem left:LeftO PySem.Challenge.pw_loomwright_k09_cloths_made_or_refused view [] Xt hook.obs hook.val fuel:=HX.left_run (by kernel_rfl) (by decide) (λ s=>by kernel_rfl) HX.hb λ w os=>by
  obtain ⟨s,r,l⟩:=Option.map_eq_some_iff.mp (Nq w os);obtain ⟨s2,r2,l2⟩:=Option.map_eq_some_iff.mp (NV w os);cases r.symm.trans r2;exact ⟨s.abs,HX.topT_of r,HX.three l l2⟩
end K09
namespace L2
open PySem PySem.Spec PyProof.Rows
abbrev Key:=Sum Int Str
def Kf:Key->Value->Bool
  | .inl k,v=>Value.isInt k v
  | .inr x,v=>Value.isStrOf x v
def Oa (w:World):Key->Int
  | .inl k=>hashInt k
  | .inr x=>hashStr w x
theorem Ax:∀ {k:Key} {v:Value},Kf k v=true->(∃ i t,k=Sum.inl i/\v=Value.int i t)\/(∃ x t,k=Sum.inr x/\v=Value.str x t)
  | .inl i,v,h=>by
    obtain ⟨t,e⟩:=Value.isInt_shape (k:=i) (v:=v) h;exact .inl ⟨i,t,rfl,e⟩
  | .inr x,v,h=>by
    obtain ⟨t,e⟩:=Value.isStrOf_shape (x:=x) (v:=v) h;exact .inr ⟨x,t,rfl,e⟩
theorem KH (a b:Int):decide ((Sum.inl a:Key)=Sum.inl b)=(a == b):=by
  by_cases e:a=b
  · subst e;simp
  · have h:¬ (Sum.inl a:Key)=Sum.inl b:=λ q=>e (Sum.inl.inj q);rw [decide_eq_false h];exact (beq_eq_false_iff_ne.mpr e).symm
theorem Ly (a b:Str):decide ((Sum.inr a:Key)=Sum.inr b)=decide (a=b):=by
  by_cases e:a=b
  · subst e;simp
  · have h:¬ (Sum.inr a:Key)=Sum.inr b:=λ q=>e (Sum.inr.inj q);rw [decide_eq_false h,decide_eq_false e]
theorem Kq (a:Int) (b:Str):decide ((Sum.inl a:Key)=Sum.inr b)=false:=decide_eq_false (λ q=>nomatch q)
theorem Kr (a:Str) (b:Int):decide ((Sum.inr a:Key)=Sum.inl b)=false:=decide_eq_false (λ q=>nomatch q)
def Fh (prog:Program) (w:World):PySem.KeyKind prog w Key where
  is:=Kf
  hash:=Oa w
  inj:=λ v a b ha hb=>by
    rcases Ax ha with ⟨i,t,rfl,rfl⟩ | ⟨x,t,rfl,rfl⟩
    · rcases Ax hb with ⟨j,u,rfl,e⟩ | ⟨y,u,rfl,e⟩
      · injection e with e1 _;rw [e1]
      · exact nomatch e
    · rcases Ax hb with ⟨j,u,rfl,e⟩ | ⟨y,u,rfl,e⟩
      · exact nomatch e
      · injection e with e1 _;rw [e1]
  byValue:=λ k v h=>by
    rcases Ax h with ⟨i,t,rfl,rfl⟩ | ⟨x,t,rfl,rfl⟩ <;> rfl
  pyHash:=λ hv h=>by
    rcases Ax hv with ⟨i,t,rfl,rfl⟩ | ⟨x,t,rfl,rfl⟩
    · exact wpAny_pyHash_int h
    · exact wpAny_pyHash_str h
  eqBool:=λ hu hv h=>by
    rcases Ax hu with ⟨i,t,rfl,rfl⟩ | ⟨x,t,rfl,rfl⟩
    · rcases Ax hv with ⟨j,u,rfl,rfl⟩ | ⟨y,u,rfl,rfl⟩
      · rw [KH] at h;exact wpAny_eqBool_int h
      · rw [Kq] at h;exact SeqAt.EqAt.int_str i t y u _ _ _ _ h
    · rcases Ax hv with ⟨j,u,rfl,rfl⟩ | ⟨y,u,rfl,rfl⟩
      · rw [Kr] at h;exact SeqAt.EqAt.str_int x t j u _ _ _ _ h
      · rw [Ly] at h;exact wpAny_eqBool_str h
  «strs» := λ k x t v h=>by
    rcases Ax h with ⟨i,u,rfl,e⟩ | ⟨y,u,rfl,e⟩
    · exact nomatch e
    · injection e with e1 _;subst e1;cases v <;> rfl
inductive V where
  | non | bl (b:Bool) | int (i:Int) | str (x:Str) | byt (b:Array UInt8) | flt (b:UInt64) | ref (a:Addr) | ty (n:String)
  deriving DecidableEq
def RelV:V->Value->Prop
  | .non,u=>u=Value.none
  | .bl b,u=>u=Value.bool b
  | .int i,u=>∃ t,u=Value.int i t
  | .str x,u=>∃ t,u=Value.str x t
  | .byt b,u=>∃ t,u=Value.bytes b t
  | .flt b,u=>∃ t,u=Value.float b t
  | .ref a,u=>u=Value.ref a
  | .ty n,u=>u=Value.type n
abbrev Vals:List V->List Value->Prop:=Paired RelV
theorem Vals.length {xs:List V} {us:List Value} (r:Vals xs us):xs.length=us.length:=Paired.length r
theorem Vals.get:∀ {xs:List V} {us:List Value} {i:Nat} {x:V},Vals xs us->xs[i]?=some x->∃ u,us[i]?=some u/\RelV x u
  | _,_,_,_, .nil,e=>by simp at e
  | _,_,0,_, .cons r _,e=>by simp at e;subst e;exact ⟨_,rfl,r⟩
  | _,_,i+1,x, .cons _ t,e=>by
    obtain ⟨u,h1,h2⟩:=Vals.get (i:=i) (x:=x) t (by simpa using e);exact ⟨u,by simpa using h1,h2⟩
theorem Vals.append:∀ {xs ys:List V} {us ws:List Value},Vals xs us->Vals ys ws->Vals (xs++ys) (us++ws)
  | _,_,_,_, .nil,s=>s
  | _,_,_,_, .cons r t,s=> .cons r (Vals.append t s)
theorem Vals.take:∀ {xs:List V} {us:List Value} (n:Nat),Vals xs us->Vals (xs.take n) (us.take n)
  | _,_,0,_=> .nil
  | _,_,_+1, .nil=> .nil
  | _,_,n+1, .cons r t=> .cons r (Vals.take n t)
theorem Vals.drop:∀ {xs:List V} {us:List Value} (n:Nat),Vals xs us->Vals (xs.drop n) (us.drop n)
  | _,_,0,r=>r
  | _,_,_+1, .nil=> .nil
  | _,_,n+1, .cons _ t=>Vals.drop n t
def RelO:Option V->Option Value->Prop
  | some v,some u=>RelV v u
  | none,none=>True
  | _,_=>False
def KV {κ:Type}:List (κ × V)->List (κ × Value)->Prop:=Paired λ (p:κ × V) (q:κ × Value)=>p.1=q.1/\RelV p.2 q.2
def kV:Key->V
  | .inl i=> .int i
  | .inr x=> .str x
inductive HO where
  | lst (xs:List V)
  | tup (xs:List V)
  | dK (kvs:List (Key × V)) | dT (kvs:List (List Key × V))
  | set (S:Int->Bool) (n:Nat)
  | ins (C dx:Addr) (fs:List (Str × V))
  | own (x:Addr)
  | xd (fs:List (Str × V))
  | met (f x:Addr)
  | rng (lo hi:Int)
  | frz (o:Obj) (u:HO)
  | tbl (ps:Array Value)
  | ext (φ:Heap->Prop)
abbrev Hp:=Addr->Option HO
def upd (H:Hp) (a:Addr) (o:HO):Hp:=λ b=>if b=a then some o else H b
theorem Ae {H:Hp} {a:Addr} {o:HO}:upd H a o a=some o:=by unfold upd;rw [if_pos rfl]
theorem Am {H:Hp} {a b:Addr} {o:HO} (h:b≠a):upd H a o b=H b:=by unfold upd;rw [if_neg h]
theorem HV {H:Hp} {a b:Addr} {o u:HO} (h:H a=some o) (h':H b=some u) (d:o≠u):a≠b:=by
  intro e;subst e;rw [h] at h';exact d (Option.some.inj h')
theorem As {H:Hp} {a b:Addr} {o:HO} (h:H a=some o) (h':H b=none):a≠b:=by
  intro e;subst e;rw [h] at h';cases h'
section
variable (P:Program) (w:World)
def ObjOk (H:Hp) (h:Heap) (a:Addr):HO->Prop
  | .lst xs=>xs.length<=sizeLine/\∃ (its:List Value) (n:Nat),Vals xs its/\h.get? a=some { cls:= .type "list",data:= .seq its.toArray n }
  | .tup xs=>xs.length<=sizeLine/\∃ its:List Value,Vals xs its/\IsTup h a its.toArray
  | .dK kvs=>kvs.length<=sizeLine/\(a == sysModules)=false/\∃ vs,KV kvs vs/\h.DictOf (Fh P w) a vs
  | .dT kvs=>kvs.length<=sizeLine/\(a == sysModules)=false/\∃ xs:List (List Key × Addr × Value),
      Paired (λ (p:List Key × V) (q:List Key × Addr × Value)=>p.1=q.1/\H q.2.1=some (.tup (p.1.map kV))/\RelV p.2 q.2.2) kvs xs/\
      ∃ o es ep,h.get? a=some o/\o.ExactDict/\o.data= .dict es ep/\es.toList=xs.map (entryOfKey (tupleKind (Fh P w)))/\(xs.map (·.1)).Nodup
  | .set S n=>h.SetOf (intKind P w) a S n
  | .ins C dx fs=>H dx=some (.own a)/\fs.length<=1000/\dx≠a/\h.get? a=some (PySem.W.instObj C dx)/\
      ∃ mA,h.Ns1 dx mA/\(∀ f,RelO (fs.lookup f) (mA f))/\PySem.Within mA (fs.map (·.1))
  | .own _=>∃ o,h.get? a=some o
  | .xd fs=>∃ mA,h.Ns1 a mA/\∀ f,RelO (fs.lookup f) (mA f)
  | .rng lo hi=>∃ t u v,h.get? a=some { cls:= .type "range",data:= .fields #[.int lo t, .int hi u, .int 1 v] }
  | .frz o u=>h.get? a=some o/\ObjOk H h a u
  | .tbl ps=>h.get? a=some { cls:= .none,data:= .fields ps }
  | .met f x=>h.get? a=some (PySem.W.methodObj (.ref f) (.ref x))
  | .ext φ=>φ h/\(∃ o,h.get? a=some o)/\∀ h1 h2:Heap,φ h1->(∀ o,h1.get? a=some o->h2.get? a=some o)->φ h2
def HOk (H:Hp) (h:Heap):Prop:=∀ a o,H a=some o->ObjOk P w H h a o
end
section
variable {P:Program} {w:World} {H H':Hp} {h h':Heap} {a:Addr} {o:HO}
theorem ObjOk.lt (x:ObjOk P w H h a o):a<h.objs.size:=by
  cases o with
  | lst xs=>obtain ⟨_,_,_,_,e⟩:=x;exact Heap.lt_size e
  | tup xs=>obtain ⟨_,_,_,p⟩:=x;exact p.lt
  | dK kvs=>obtain ⟨_,_,_,_,o,_,_,e,_⟩:=x;exact Heap.lt_size e
  | dT kvs=>obtain ⟨_,_,_,_,o,_,_,e,_⟩:=x;exact Heap.lt_size e
  | set S n=>obtain ⟨o,_,_,_,e,_⟩:=x;exact Heap.lt_size e
  | ins C dx fs=>obtain ⟨_,_,_,e,_⟩:=x;exact Heap.lt_size e
  | own y=>obtain ⟨_,e⟩:=x;exact Heap.lt_size e
  | xd fs=>obtain ⟨_,⟨_,_,_,e,_⟩,_⟩:=x;exact Heap.lt_size e
  | rng lo hi=>obtain ⟨_,_,_,e⟩:=x;exact Heap.lt_size e
  | frz ob u=>obtain ⟨e,_⟩:=x;exact Heap.lt_size e
  | tbl ps=>exact Heap.lt_size (show h.get? a=some _ from x)
  | met f y=>exact Heap.lt_size (show h.get? a=some _ from x)
  | ext φ=>obtain ⟨_,⟨_,e⟩,_⟩:=x;exact Heap.lt_size e
theorem Paired.mapP {α β:Type} {F G:α->β->Prop}:∀ {l₁:List α} {l₂:List β},Paired F l₁ l₂->(∀ a b,F a b->G a b)->Paired G l₁ l₂
  | _,_, .nil,_=> .nil
  | _,_, .cons r t,f=> .cons (f _ _ r) (Paired.mapP t f)
theorem ObjOk.stay (x:ObjOk P w H h a o) (k:∀ b u,(b=a\/H b=some (.own a))->h.get? b=some u->h'.get? b=some u)
    (ho:∀ b,H b=some (.own a)->H' b=some (.own a)) (ht:∀ b xs,H b=some (.tup xs)->H' b=some (.tup xs)):ObjOk P w H' h' a o:=by
  induction o with
  | lst xs=>obtain ⟨z,its,n,r,e⟩:=x;exact ⟨z,its,n,r,k _ _ (.inl rfl) e⟩
  | tup xs=>obtain ⟨z,its,r,ob,e,c⟩:=x;exact ⟨z,its,r,ob,k _ _ (.inl rfl) e,c⟩
  | dK kvs=>obtain ⟨z,y,vs,r,ob,es,ep,e,c⟩:=x;exact ⟨z,y,vs,r,ob,es,ep,k _ _ (.inl rfl) e,c⟩
  | dT kvs=>
    obtain ⟨z,y,xs,r,ob,es,ep,e,c⟩:=x;exact ⟨z,y,xs,Paired.mapP r λ p q z=>⟨z.1,ht _ _ z.2.1,z.2.2⟩,ob,es,ep,k _ _ (.inl rfl) e,c⟩
  | set S n=>obtain ⟨ob,es,ep,t,e,c⟩:=x;exact ⟨ob,es,ep,t,k _ _ (.inl rfl) e,c⟩
  | ins C dx fs=>
    obtain ⟨d,z,ne,e,mA,⟨od,es,ep,e2,c⟩,r⟩:=x;exact ⟨ho _ d,z,ne,k _ _ (.inl rfl) e,mA,⟨od,es,ep,k _ _ (.inr d) e2,c⟩,r⟩
  | own y=>obtain ⟨ob,e⟩:=x;exact ⟨ob,k _ _ (.inl rfl) e⟩
  | xd fs=>obtain ⟨mA,⟨od,es,ep,e,c⟩,r⟩:=x;exact ⟨mA,⟨od,es,ep,k _ _ (.inl rfl) e,c⟩,r⟩
  | rng lo hi=>obtain ⟨t,u,v,e⟩:=x;exact ⟨t,u,v,k _ _ (.inl rfl) e⟩
  | frz ob u ih=>obtain ⟨e,q⟩:=x;exact ⟨k _ _ (.inl rfl) e,ih q⟩
  | tbl ps=>
    have e:h.get? a=some { cls:= .none,data:= .fields ps }:=x;show h'.get? a=some { cls:= .none,data:= .fields ps };exact k a _ (.inl rfl) e
  | met f y=>
    have e:h.get? a=some (PySem.W.methodObj (.ref f) (.ref y)):=x;show h'.get? a=some (PySem.W.methodObj (.ref f) (.ref y));exact k a _ (.inl rfl) e
  | ext φ=>obtain ⟨p,⟨o,e⟩,st⟩:=x;exact ⟨st _ _ p λ o q=>k _ _ (.inl rfl) q,⟨o,k _ _ (.inl rfl) e⟩,st⟩
theorem HOk.lt (x:HOk P w H h) (e:H a=some o):a<h.objs.size:=(x a o e).lt
theorem HOk.fresh (x:HOk P w H h) (e:h.objs.size<=a):H a=none:=by
  cases q:H a with
  | none=>rfl
  | some u=>exact absurd (Nat.lt_of_lt_of_le (x.lt q) e) (Nat.lt_irrefl _)
theorem HOk.kept (x:HOk P w H h) (k:∀ b u,h.get? b=some u->h'.get? b=some u):HOk P w H h':=λ a o e=>
  (x a o e).stay (λ b u _ q=>k b u q) (λ _ q=>q) λ _ _ q=>q
theorem HOk.laid (x:HOk P w H h) (k:∀ b u,h.get? b=some u->h'.get? b=some u) (hp:h.objs.size<=a) (new:ObjOk P w (upd H a o) h' a o):HOk P w (upd H a o) h':=λ b u e=>by
  have hn:=x.fresh hp;by_cases hb:b=a
  · subst hb;rw [Ae] at e;cases e;exact new
  · rw [Am hb] at e;exact (x b u e).stay (λ c v _ q=>k c v q) (λ c q=>by rw [Am (As q hn)];exact q) λ c xs q=>by rw [Am (As q hn)];exact q
end
def Rd (H:Hp) (a:Addr) (u:HO):Prop:=H a=some u\/∃ o,H a=some (.frz o u)
theorem Rd.of {H:Hp} {a:Addr} {u:HO} (h:H a=some u):Rd H a u:= .inl h
theorem Rd.ok {P:Program} {w:World} {H:Hp} {h:Heap} {a:Addr} {u:HO} (r:Rd H a u) (x:HOk P w H h):ObjOk P w H h a u:=by
  rcases r with r | ⟨o,r⟩
  · exact x a u r
  · obtain ⟨_,q⟩:=x a _ r;exact q
def Mut:Option HO->Prop
  | some (.lst _)=>True
  | some (.dK _)=>True
  | some (.dT _)=>True
  | some (.set _ _)=>True
  | some (.ins _ _ _)=>True
  | some (.ext _)=>True
  | _=>False
section
variable {P:Program} {w:World} {H:Hp} {h h':Heap} {x e:Addr} {o':HO}
theorem HOk.write (ok:HOk P w H h) (mu:Mut (H x)) (he:e=x\/H e=some (.own x)) (k:∀ b u,b≠e->h.get? b=some u->h'.get? b=some u) (heo:∃ u,h'.get? e=some u)
    (new:ObjOk P w (upd H x o') h' x o'):HOk P w (upd H x o') h':=λ b u q=>by
  have nown:∀ c y,H c=some (.own y)->c≠x:=λ c y r z=>by subst z;rw [r] at mu;exact mu
  have ntup:∀ c xs,H c=some (.tup xs)->c≠x:=λ c xs r z=>by subst z;rw [r] at mu;exact mu
  by_cases hb:b=x
  · subst hb;rw [Ae] at q;cases q;exact new
  · rw [Am hb] at q;by_cases hbe:b=e
    · have q':H b=some (.own x):=by
        rcases he with z | z
        · exact absurd (hbe.trans z) hb
        · rw [hbe];exact z
      rw [q] at q';cases q';obtain ⟨v,hv⟩:=heo;exact ⟨v,by rw [hbe];exact hv⟩
    · refine (ok b u q).stay (λ c v hc r=>k c v ?_ r) (λ c r=>by rw [Am (nown c b r)];exact r) λ c xs r=>by rw [Am (ntup c xs r)];exact r
      rcases hc with rfl | hc
      · exact hbe
      · rintro rfl;rcases he with z | z
        · exact nown c b hc z
        · rw [hc] at z;cases z;exact hb rfl
end
structure Un (fs ex:List Addr) (H H':Hp) (h h':Heap):Prop where
  keep:∀ b o,h.get? b=some o->H b=none->b∉fs->b∉ex->h'.get? b=some o
  slot:∀ b o,h.get? b=some o->H b=none->b∈fs->b∉ex->∃ sl,h'.get? b=some { o with slots:=sl }
  free:∀ b o,h.get? b=some o->H b=none->b∉ex->H' b=none
  there:∀ b o,h.get? b=some o->b∉ex->∃ o',h'.get? b=some o'
  tups:∀ b xs,H b=some (.tup xs)->H' b=some (.tup xs)
  frzs:∀ b o u,H b=some (.frz o u)->H' b=some (.frz o u)
  tbls:∀ b ps,H b=some (.tbl ps)->∃ more,H' b=some (.tbl (ps++more))
section
variable {fs fs' ex ex':List Addr} {H H1 H2:Hp} {h h1 h2 h':Heap} {a x e:Addr} {o:HO}
theorem Un.any (u:Un fs ex H H1 h h1) {b:Addr} {ob:Obj} (q:h.get? b=some ob) (n:H b=none) (hx:b∉ex):∃ sl,h1.get? b=some { ob with slots:=sl }:=by
  by_cases hb:b∈fs
  · exact u.slot b ob q n hb hx
  · exact ⟨ob.slots,u.keep b ob q n hb hx⟩
theorem Un.kept (k:∀ b u,h.get? b=some u->h'.get? b=some u):Un fs ex H H h h':=
  ⟨λ b ob q _ _ _=>k b ob q,λ b ob q _ _ _=>⟨ob.slots,k b ob q⟩,λ _ _ _ n _=>n,λ b ob q _=>⟨ob,k b ob q⟩,λ _ _ q=>q,λ _ _ _ q=>q,λ _ ps q=>⟨#[],by rw [q];simp⟩⟩
theorem Un.refl:Un fs ex H H h h:=Un.kept λ _ _ q=>q
theorem Un.laid (k:∀ b u,h.get? b=some u->h'.get? b=some u) (hp:h.objs.size<=a) (hn:H a=none):Un fs ex H (upd H a o) h h' where
  keep:=λ b u q _ _ _=>k b u q
  slot:=λ b u q _ _ _=>⟨u.slots,k b u q⟩
  free:=λ b u q n _=>by rw [Am (Nat.ne_of_lt (Nat.lt_of_lt_of_le (Heap.lt_size q) hp))];exact n
  there:=λ b u q _=>⟨u,k b u q⟩
  tups:=λ b xs q=>by rw [Am (As q hn)];exact q
  frzs:=λ b u xs q=>by rw [Am (As q hn)];exact q
  tbls:=λ b ps q=>⟨#[],by rw [Am (As q hn),q];simp⟩
theorem Un.write (mu:Mut (H x)) (he:e=x\/H e=some (.own x)) (k:∀ b u,b≠e->h.get? b=some u->h'.get? b=some u) (heo:∃ u,h'.get? e=some u):Un fs ex H (upd H x o) h h':=by
  have hx:∀ b,H b=none->b≠x:=λ b n z=>by subst z;rw [n] at mu;exact mu
  have hb:∀ b,H b=none->b≠e:=λ b n z=>by
    subst z;rcases he with r | r
    · exact hx b n r
    · rw [n] at r;cases r
  have hm:∀ b u,H b=some u->¬ Mut (some u)->b≠x:=λ b u q nm z=>by subst z;rw [q] at mu;exact nm mu
  refine ⟨λ b u q n _ _=>k b u (hb b n) q,λ b u q n _ _=>⟨u.slots,k b u (hb b n) q⟩,λ b u q n _=>by rw [Am (hx b n)];exact n,λ b u q _=> ?_,
    λ b xs q=>by rw [Am (hm b _ q λ z=>z)];exact q,λ b u xs q=>by rw [Am (hm b _ q λ z=>z)];exact q,λ b ps q=>⟨#[],by rw [Am (hm b _ q λ z=>z),q];simp⟩⟩
  by_cases hbe:b=e
  · subst hbe;exact heo
  · exact ⟨u,k b u hbe q⟩
end
def trk (h:Heap) (H:Hp):List Addr:=(List.range h.objs.size).filter λ a=>(H a).isSome
def Fv (h:Heap) (H:Hp):Heap:=PySem.W.hideAll h (trk h H)
theorem G4 (h:Heap) (H:Hp):(Fv h H).objs.size=h.objs.size:=PySem.W.hideAll_size _ _
theorem Ig {h:Heap} {H:Hp} {b:Addr} {o:Obj} (e:h.get? b=some o) (n:H b=none):(Fv h H).get? b=some o:=
  PySem.W.hideAll_get _ e λ hm=>by
    have q:(H b).isSome=true:=(List.mem_filter.mp hm).2;rw [n] at q;simp at q
theorem JT {h:Heap} {H:Hp} {b:Addr} {o:Obj} (e:(Fv h H).get? b=some o):h.get? b=some o/\H b=none:=by
  have e':h.get? b=some o:=PySem.W.of_hideAll (trk h H) e;refine ⟨e',?_⟩;cases q:H b with
  | none=>rfl
  | some x=>
    have hm:b∈trk h H:=List.mem_filter.mpr ⟨List.mem_range.mpr (Heap.lt_size e'),by simp [q]⟩;have z:(Fv h H).get? b=none:=PySem.W.hideAll_none (trk h H) hm;rw [z] at e;cases e
structure Mod (K:PySem.W.Frag) (mg:Str->Option Value) (base:Heap):Prop where
  kin:K.In base
  glob:base.Ns mainGlobals mg
  blt:∃ mb,base.Ns builtinsNs mb/\∀ x:Str,x≠"__name__"->mb x=bootBuiltins x
  nolimit:base.NoLimit
structure Cx where
  prog:Program
  w:World
  K:PySem.W.Frag
  mg:Str->Option Value
  base:Heap
  A:Around
  N:List Str
  s₀:Shared
  H₀:Hp
  env:Env
  outer:List Env
  stack:List Env
  ex:List Addr
  fn:Str->Bool
  calm:Bool
  pn:List (Addr × Obj)
  xe:Value->Shared->Prop
def frs (l:List Env):List Addr:=l.filterMap (·.frame)
abbrev Cx.fs (X:Cx):List Addr:=frs X.outer
def Vis (sc:Scope) (x:Str):Prop:=sc.names.lookup x=some .local\/sc.names.lookup x=some .cell\/sc.names.lookup x=some .free
def Loc (sc:Scope) (x:Str):Prop:=sc.names.lookup x=some .local\/sc.names.lookup x=some .cell
def NJ (env:Env) (h:Heap) (m:Str->Option Value) (x:Str) (u:Value):Prop:=
  (env.kindOf x=some .local/\m x=some u)\/((env.kindOf x=some .cell\/env.kindOf x=some .free)/\∃ c,env.cells.lookup x=some c/\h.IsCell c (some u))
structure Cx.Ok (X:Cx):Prop where
  mod:Mod X.K X.mg X.base
  kind:X.env.scope.kind= .function
  glob:X.env.globals=mainGlobals
  blt:X.env.builtins=builtinsNs
  above:X.s₀.heap.objs.size<=X.env.locals
  inj:∀ x y c,X.env.cells.lookup x=some c->X.env.cells.lookup y=some c->x=y
  has:∀ x,(X.env.kindOf x=some .cell\/X.env.kindOf x=some .free)->∃ c,X.env.cells.lookup x=some c
  cab:∀ x c,X.fn x=true->X.env.cells.lookup x=some c->X.s₀.heap.objs.size<=c
  hd:X.calm=true->X.A.handled=none
  frames:X.A.frames=some X.stack
  stk:X.stack=X.outer\/(X.stack=X.env::X.outer/\X.env.frame=some X.env.locals)
  exf:∀ b∈X.ex,b≠X.env.locals/\∀ x c,X.env.cells.lookup x=some c->c≠b
  bs:∀ b o,X.base.get? b=some o->X.s₀.heap.get? b=some o/\X.H₀ b=none
  bsz:X.base.objs.size<=X.s₀.heap.objs.size
  noex:∀ b o,X.base.get? b=some o->b∉X.ex
  exfs:∀ b∈X.ex,b∉X.fs
  funs:X.s₀.heap.FunFrames X.base X.outer
  frf:∀ b∈X.fs,X.H₀ b=none
structure Inv (X:Cx) (pins:List (Addr × Obj)) (σ:List (Option V)) (H:Hp) (s:Shared):Prop where
  ok:X.Ok
  os:s.os=X.s₀.os
  bare:AllBare s.gens
  base:Un X.fs X.ex X.H₀ H X.s₀.heap s.heap
  loc:∃ m,s.heap.Ns X.env.locals m/\∀ (i:Nat) (x:Str) (v:V),X.N[i]?=some x->σ[i]?=some (some v)->Vis X.env.scope x->∃ u,RelV v u/\NJ X.env s.heap m x u
  cell:∀ x c,X.env.cells.lookup x=some c->∃ v,s.heap.IsCell c v
  free:H X.env.locals=none
  freeC:∀ x c,X.env.cells.lookup x=some c->H c=none
  pin:∀ p∈X.pn++pins,s.heap.get? p.1=some p.2/\H p.1=none/\p.1≠X.env.locals/\p.1∉X.fs/\∀ v,p.2.data≠ .cell v
  hok:HOk X.prog X.w H s.heap
  len:σ.length=X.N.length
section
variable {X:Cx} {pins:List (Addr × Obj)} {σ:List (Option V)} {H H':Hp} {s:Shared} {h':Heap}
theorem Cx.Ok.nofr (ok:X.Ok) {b:Addr} {o:Obj} (e:X.base.get? b=some o):b∉X.fs:=λ hb=>by
  have:=(ok.funs.mem hb).1;rw [e] at this;cases this
theorem Inv.bs (I:Inv X pins σ H s):∀ b o,X.base.get? b=some o->s.heap.get? b=some o/\H b=none:=λ b o e=>
  ⟨I.base.keep b o (I.ok.bs b o e).1 (I.ok.bs b o e).2 (I.ok.nofr e) (I.ok.noex b o e),I.base.free b o (I.ok.bs b o e).1 (I.ok.bs b o e).2 (I.ok.noex b o e)⟩
theorem Inv.bk (I:Inv X pins σ H s):∀ b o,X.base.get? b=some o->s.heap.get? b=some o:=λ b o e=>(I.bs b o e).1
theorem Inv.mod (I:Inv X pins σ H s):Mod X.K X.mg X.base:=I.ok.mod
theorem Inv.kIn (I:Inv X pins σ H s):X.K.In s.heap:=I.ok.mod.kin.keeps I.bk
theorem Inv.fr (I:Inv X pins σ H s):∃ m,Fr X.base X.env.locals s.heap m:=
  let ⟨m,hn,_⟩:=I.loc
  ⟨m,hn,I.bk,Nat.le_trans I.ok.bsz I.ok.above⟩
theorem Inv.lt (I:Inv X pins σ H s):X.env.locals<s.heap.objs.size:=let ⟨_,hn,_⟩:=I.loc;hn.lt
theorem Inv.sz (I:Inv X pins σ H s):X.s₀.heap.objs.size<=s.heap.objs.size:=Nat.le_trans I.ok.above (Nat.le_of_lt I.lt)
theorem Inv.nofs (I:Inv X pins σ H s) {a:Addr} (h:s.heap.objs.size<=a):a∉X.fs:=λ hb=>by
  obtain ⟨_,o,ho,_⟩:=I.ok.funs.mem hb;exact absurd (Nat.lt_of_lt_of_le (Heap.lt_size ho) (Nat.le_trans I.sz h)) (Nat.lt_irrefl _)
theorem Inv.cne (I:Inv X pins σ H s):∀ x c,X.env.cells.lookup x=some c->c≠X.env.locals:=λ x c e z=>by
  obtain ⟨v,o,ho,hd⟩:=I.cell x c e;obtain ⟨m,⟨o',es,ep,ho',hd',_⟩,_⟩:=I.loc;rw [z,ho'] at ho;cases ho;rw [hd'] at hd;cases hd
theorem Inv.funs (I:Inv X pins σ H s):s.heap.FunFrames X.base X.outer:=by
  have all:∀ (l:List Env),(∀ b∈frs l,b∈X.fs)->X.s₀.heap.FunFrames X.base l->s.heap.FunFrames X.base l:=by
    intro l
    induction l with
    | nil=>intro _ _;trivial
    | cons env r ih=>
      intro hs hl;obtain ⟨hk,⟨L,o,hf,hn,ho,hd⟩,hr⟩:=hl;have hL:L∈X.fs:=hs L (by unfold frs;rw [List.filterMap_cons,hf];exact List.mem_cons_self);obtain ⟨sl,e⟩:=I.base.slot L o ho (I.ok.frf L hL) hL λ z=>I.ok.exfs L z hL;exact ⟨hk,⟨L,_,hf,hn,e,hd⟩,ih (λ b hb=>hs b (by unfold frs;rw [List.filterMap_cons,hf];exact List.mem_cons_of_mem _ hb)) hr⟩
  exact all X.outer (λ _ hb=>hb) I.ok.funs
theorem Inv.stack (I:Inv X pins σ H s):s.heap.FunFrames X.base X.stack:=by
  rcases I.ok.stk with e | ⟨e,hf⟩
  · rw [e];exact I.funs
  · rw [e];obtain ⟨m,hn,_⟩:=I.loc;refine .cons (by rw [I.ok.kind];decide) hf hn ?_ I.funs;exact Heap.get?_none_of_le (Nat.le_trans I.ok.bsz I.ok.above)
theorem Inv.stkSub (I:Inv X pins σ H s):∀ b∈frs X.stack,b∈X.env.locals::X.fs:=λ b hb=>by
  rcases I.ok.stk with e | ⟨e,hf⟩
  · rw [e] at hb;exact List.mem_cons_of_mem _ hb
  · rw [e] at hb;unfold frs at hb;rw [List.filterMap_cons,hf] at hb;exact hb
theorem Inv.stkFree (I:Inv X pins σ H s):∀ b∈frs X.stack,H b=none:=λ b hb=>by
  rcases List.mem_cons.mp (I.stkSub b hb) with e | hb
  · rw [e];exact I.free
  · obtain ⟨_,o,ho,_⟩:=I.ok.funs.mem hb;exact I.base.free b o ho (I.ok.frf b hb) λ z=>I.ok.exfs b z hb
theorem Inv.step {g':Array GenState} {t':Nat} {d':Drawn} {ch:List Addr} (I:Inv X pins σ H s)
    (hch:∀ b∈ch,(b∈X.ex\/X.s₀.heap.objs.size<=b)/\b≠X.env.locals/\(∀ x c,X.env.cells.lookup x=some c->c≠b)/\∀ p∈X.pn++pins,p.1≠b)
    (keep:∀ b o,b≠X.env.locals->b∉X.fs->b∉ch->s.heap.get? b=some o->H b=none->h'.get? b=some o)
    (slot:∀ b o,b≠X.env.locals->b∈X.fs->b∉ch->s.heap.get? b=some o->H b=none->∃ sl,h'.get? b=some { o with slots:=sl }) (free:∀ b o,b∉ch->s.heap.get? b=some o->H b=none->H' b=none)
    (there:∀ b o,b∉ch->s.heap.get? b=some o->∃ o',h'.get? b=some o')
    (tups:∀ b xs,H b=some (.tup xs)->H' b=some (.tup xs)) (frzs:∀ b o u,H b=some (.frz o u)->H' b=some (.frz o u)) (tbls:∀ b ps,H b=some (.tbl ps)->∃ more,H' b=some (.tbl (ps++more)))
    (ns:∀ m,s.heap.Ns X.env.locals m->h'.Ns X.env.locals m) (hok:HOk X.prog X.w H' h') (hg:AllBare g'):
    Inv X pins σ H' { s with heap:=h',gens:=g',drawn:=d',toks:=t' }:=by
  have neL:∀ b o,X.s₀.heap.get? b=some o->b≠X.env.locals:=λ b o e=>Nat.ne_of_lt (Nat.lt_of_lt_of_le (Heap.lt_size e) I.ok.above);have neC:∀ b o,X.s₀.heap.get? b=some o->b∉X.ex->b∉ch:=λ b o e hx hb=>by
    rcases (hch b hb).1 with z | z
    · exact hx z
    · exact absurd (Nat.lt_of_lt_of_le (Heap.lt_size e) z) (Nat.lt_irrefl _)
  have cellK:∀ x c,X.env.cells.lookup x=some c->∀ v,s.heap.IsCell c v->h'.IsCell c v:=λ x c e v ⟨o,ho,hd⟩=>by
    have nch:c∉ch:=λ z=>(hch c z).2.2.1 x c e rfl;by_cases hc:c∈X.fs
    · obtain ⟨sl,q⟩:=slot c o (I.cne x c e) hc nch ho (I.freeC x c e);exact ⟨_,q,hd⟩
    · exact ⟨o,keep c o (I.cne x c e) hc nch ho (I.freeC x c e),hd⟩
  refine ⟨I.ok,I.os,hg,⟨λ b o e n hb hx=> ?_,λ b o e n hb hx=> ?_,λ b o e n hx=> ?_,λ b o e hx=> ?_,λ b xs e=>tups b xs (I.base.tups b xs e),λ b o xs e=>frzs b o xs (I.base.frzs b o xs e),λ b ps e=> ?_⟩,?_,λ x c e=> ?_,?_,λ x c e=> ?_,λ p hp=> ?_,hok,I.len⟩
  · exact keep b o (neL b o e) hb (neC b o e hx) (I.base.keep b o e n hb hx) (I.base.free b o e n hx)
  · obtain ⟨sl,e1⟩:=I.base.slot b o e n hb hx;obtain ⟨sl',e2⟩:=slot b _ (neL b o e) hb (neC b o e hx) e1 (I.base.free b o e n hx);exact ⟨sl',e2⟩
  · obtain ⟨o',e1⟩:=I.base.there b o e hx;exact free b o' (neC b o e hx) e1 (I.base.free b o e n hx)
  · obtain ⟨o',e1⟩:=I.base.there b o e hx;exact there b o' (neC b o e hx) e1
  · obtain ⟨m1,e1⟩:=I.base.tbls b ps e;obtain ⟨m2,e2⟩:=tbls b _ e1;exact ⟨m1++m2,by rw [e2,Array.append_assoc]⟩
  · obtain ⟨m,hn,hl⟩:=I.loc;refine ⟨m,ns m hn,λ i x v e1 e2 e3=> ?_⟩;obtain ⟨u,r,l⟩:=hl i x v e1 e2 e3;refine ⟨u,r,?_⟩;rcases l with l | ⟨k,c,e,z⟩
    · exact .inl l
    · exact .inr ⟨k,c,e,cellK x c e _ z⟩
  · obtain ⟨v,z⟩:=I.cell x c e;exact ⟨v,cellK x c e v z⟩
  · obtain ⟨m,⟨o,_,_,ho,_⟩,_⟩:=I.loc;exact free _ o (λ z=>(hch _ z).2.1 rfl) ho I.free
  · obtain ⟨v,o,ho,hd⟩:=I.cell x c e;exact free c o (λ z=>(hch c z).2.2.1 x c e rfl) ho (I.freeC x c e)
  · obtain ⟨e,n,ne,nf,d⟩:=I.pin p hp;have nch:p.1∉ch:=λ z=>(hch p.1 z).2.2.2 p hp rfl;exact ⟨keep p.1 p.2 ne nf nch e n,free p.1 p.2 nch e n,ne,nf,d⟩
theorem Inv.un {t':Nat} (I:Inv X pins σ H s) (u:Un X.fs [] H H' s.heap h') (hok:HOk X.prog X.w H' h'):Inv X pins σ H' { s with heap:=h',toks:=t' }:=by
  obtain ⟨m,⟨o,es,ep,ho,r⟩,_⟩:=id I.loc;obtain ⟨sl,hL⟩:=u.any ho I.free (by simp);exact I.step (g':=s.gens) (d':=s.drawn) (ch:=[]) (λ _ z=>nomatch z) (λ b o _ hb _ e n=>u.keep b o e n hb (by simp)) (λ b o _ hb _ e n=>u.slot b o e n hb (by simp)) (λ b o _ e n=>u.free b o e n (by simp)) (λ b o _ e=>u.there b o e (by simp)) u.tups u.frzs u.tbls (λ m' hm=>by
    obtain ⟨o',es',ep',ho',r'⟩:=hm;rw [ho] at ho';cases ho';exact ⟨_,es',ep',hL,r'⟩) hok I.bare
theorem Inv.call {g':Array GenState} {t':Nat} {d':Drawn} {ch:List Addr} (I:Inv X pins σ H s) (u:Un (frs X.stack) ch H H' s.heap h') (hok:HOk X.prog X.w H' h') (hg:AllBare g')
    (hch:∀ b∈ch,(b∈X.ex\/X.s₀.heap.objs.size<=b)/\b≠X.env.locals/\(∀ x c,X.env.cells.lookup x=some c->c≠b)/\∀ p∈X.pn++pins,p.1≠b):
    Inv X pins σ H' { s with heap:=h',gens:=g',drawn:=d',toks:=t' }:=by
  obtain ⟨m,⟨o,es,ep,ho,r⟩,_⟩:=id I.loc;obtain ⟨sl,hL⟩:=u.any ho I.free λ z=>(hch _ z).2.1 rfl;exact I.step (ch:=ch) hch (λ b o hL hb hc e n=>u.keep b o e n (λ z=>(List.mem_cons.mp (I.stkSub b z)).elim hL hb) hc) (λ b o _ _ hc e n=>u.any e n hc) (λ b o hc e n=>u.free b o e n hc) (λ b o hc e=>u.there b o e hc) u.tups u.frzs u.tbls (λ m' hm=>by
    obtain ⟨o',es',ep',ho',r'⟩:=hm;rw [ho] at ho';cases ho';exact ⟨_,es',ep',hL,r'⟩) hok hg
theorem Inv.turned {t':Nat} {it:Addr} (I:Inv X pins σ H s) (k:∀ b o,b≠it->s.heap.get? b=some o->h'.get? b=some o) (hn:H it=none) (hL:it≠X.env.locals)
    (h1:it∈X.ex\/X.s₀.heap.objs.size<=it) (h2:∀ x c,X.env.cells.lookup x=some c->c≠it) (h3:∀ p∈X.pn++pins,p.1≠it):Inv X pins σ H { s with heap:=h',toks:=t' }:=by
  have nit:∀ b u,H b=some u->b≠it:=λ b u e z=>by rw [z,hn] at e;cases e
  refine I.step (g':=s.gens) (d':=s.drawn) (ch:=[it]) (λ b hb=> ?_) (λ b o _ _ hc e _=>k b o (λ z=>hc (by simp [z])) e) (λ b o _ _ hc e _=>⟨o.slots,k b o (λ z=>hc (by simp [z])) e⟩) (λ _ _ _ _ n=>n)
    (λ b o hc e=>⟨o,k b o (λ z=>hc (by simp [z])) e⟩) (λ _ _ e=>e) (λ _ _ _ e=>e) (λ b ps e=>⟨#[],by rw [e];simp⟩) (λ m hm=> ?_) (λ b u e=> ?_) I.bare
  · have e:b=it:=by simpa using hb
    subst e;exact ⟨h1,hL,h2,h3⟩
  · obtain ⟨o,es,ep,ho,r⟩:=hm;exact ⟨o,es,ep,k _ o (Ne.symm hL) ho,r⟩
  · refine (I.hok b u e).stay (λ c v hc q=>k c v ?_ q) (λ _ q=>q) λ _ _ q=>q;rcases hc with z | z
    · rw [z];exact nit b u e
    · exact nit c _ z
theorem Inv.tok (I:Inv X pins σ H s) (t:Nat):Inv X pins σ H { s with toks:=t }:=I.un (h':=s.heap) (t':=t) Un.refl I.hok
theorem Inv.kept {t':Nat} (I:Inv X pins σ H s) (k:∀ b u,s.heap.get? b=some u->h'.get? b=some u):Inv X pins σ H { s with heap:=h',toks:=t' }:=I.un (Un.kept k) (I.hok.kept k)
theorem Inv.laid {a:Addr} {o:HO} {t':Nat} (I:Inv X pins σ H s) (k:∀ b u,s.heap.get? b=some u->h'.get? b=some u) (hp:s.heap.objs.size<=a) (new:ObjOk X.prog X.w (upd H a o) h' a o):
    Inv X pins σ (upd H a o) { s with heap:=h',toks:=t' }:=I.un (Un.laid k hp (I.hok.fresh hp)) (I.hok.laid k hp new)
theorem Inv.write {x e:Addr} {o:HO} {t':Nat} (I:Inv X pins σ H s) (mu:Mut (H x)) (he:e=x\/H e=some (.own x)) (k:∀ b u,b≠e->s.heap.get? b=some u->h'.get? b=some u) (heo:∃ u,h'.get? e=some u)
    (new:ObjOk X.prog X.w (upd H x o) h' x o):Inv X pins σ (upd H x o) { s with heap:=h',toks:=t' }:=I.un (Un.write mu he k heo) (I.hok.write mu he k heo new)
theorem Inv.weak {σ':List (Option V)} (I:Inv X pins σ H s) (hl:σ'.length=σ.length) (w:∀ (i:Nat) v,σ'[i]?=some (some v)->σ[i]?=some (some v)):Inv X pins σ' H s:=
  ⟨I.ok,I.os,I.bare,I.base,let ⟨m,hn,hl'⟩:=I.loc;⟨m,hn,λ i x v e1 e2 e3=>hl' i x v e1 (w i v e2) e3⟩,I.cell,I.free,I.freeC,I.pin,I.hok,hl.trans I.len⟩
theorem Inv.pins_of {pins':List (Addr × Obj)} (I:Inv X pins σ H s) (h:∀ p∈pins',s.heap.get? p.1=some p.2/\H p.1=none/\p.1≠X.env.locals/\p.1∉X.fs/\∀ v,p.2.data≠ .cell v):Inv X pins' σ H s:=
  ⟨I.ok,I.os,I.bare,I.base,I.loc,I.cell,I.free,I.freeC,λ p hp=>(List.mem_append.mp hp).elim (λ z=>I.pin p (List.mem_append_left _ z)) (h p),I.hok,I.len⟩
theorem Eh {N:List Str} (hN:N.Nodup) {i j:Nat} {x:Str} (a:N[i]?=some x) (b:N[j]?=some x):i=j:=by
  obtain ⟨h1,e1⟩:=List.getElem?_eq_some_iff.mp a;obtain ⟨h2,e2⟩:=List.getElem?_eq_some_iff.mp b;exact (List.getElem_inj hN).mp (e1.trans e2.symm)
theorem Ha {M:Model} {A:Around} {E:Value->Shared->Prop} {i:Nat} {x:Str} {v:V} {u:Value} {Q:Unit->Shared->Prop} (I:Inv X pins σ H s) (hN:X.N.Nodup) (hi:X.N[i]?=some x) (hx:Loc X.env.scope x) (r:RelV v u)
    (h:∀ s',Inv X pins (σ.set i (some v)) H s'->(∃ a,Heap.SameBut a s.heap s'.heap/\(a=X.env.locals\/X.env.cells.lookup x=some a))->Q () s') (hf:X.fn x=true\/X.env.scope.names.lookup x=some .local:=by first | exact .inl rfl | exact .inr rfl | assumption):wpAny M A (storeName X.env x u) Q E s:=by
  obtain ⟨m,hn,hl⟩:=id I.loc;have hcls:(X.env.scope.kind == .class||(X.env.scope.kind == .module&&X.env.locals != X.env.globals))=false:=by rw [I.ok.kind];rfl
  have hiσ:i<σ.length:=by rw [I.len];exact (List.getElem?_eq_some_iff.mp hi).1
  have cne:=I.cne;have tracked:∀ {a:Addr} {h':Heap},(∃ o,s.heap.get? a=some o/\H a=none)->Heap.SameBut a s.heap h'->HOk X.prog X.w H h':=λ {a h'} ha hs b ob e=>by
    obtain ⟨_,_,hfree⟩:=ha;refine (I.hok b ob e).stay (λ c w' hc q=>(hs.2 c ?_).trans q) (λ _ q=>q) λ _ _ q=>q;rintro rfl;rcases hc with rfl | hc
    · rw [hfree] at e;cases e
    · rw [hfree] at hc;cases hc
  rcases hx with hk | hk
  · refine wpAny_storeName_local hk hn (λ h' hn' hs=> ?_) hcls;obtain ⟨oL,_,_,hoL,_⟩:=id hn;refine h _ ⟨I.ok,I.os,I.bare,⟨λ b o e n hb hx=> ?_,λ b o e n hb hx=> ?_,I.base.free,λ b o e hx=> ?_,I.base.tups,I.base.frzs,I.base.tbls⟩,⟨_,hn',λ j y v' e1 e2 e3=> ?_⟩,λ y c e=> ?_,I.free,I.freeC,λ p hp=> ?_,tracked ⟨oL,hoL,I.free⟩ hs,by simpa using I.len⟩ ⟨_,hs, .inl rfl⟩
    · exact (hs.2 b (Nat.ne_of_lt (Nat.lt_of_lt_of_le (Heap.lt_size e) I.ok.above))).trans (I.base.keep b o e n hb hx)
    · obtain ⟨sl,e1⟩:=I.base.slot b o e n hb hx;exact ⟨sl,(hs.2 b (Nat.ne_of_lt (Nat.lt_of_lt_of_le (Heap.lt_size e) I.ok.above))).trans e1⟩
    · obtain ⟨o',e1⟩:=I.base.there b o e hx;exact ⟨o',(hs.2 b (Nat.ne_of_lt (Nat.lt_of_lt_of_le (Heap.lt_size e) I.ok.above))).trans e1⟩
    · by_cases hj:j=i
      · subst hj;rw [hi] at e1;cases e1;rw [List.getElem?_set_self hiσ] at e2;cases e2;exact ⟨u,r, .inl ⟨hk,by simp⟩⟩
      · rw [List.getElem?_set_ne (Ne.symm hj)] at e2;obtain ⟨u',r',q⟩:=hl j y v' e1 e2 e3;refine ⟨u',r',?_⟩;rcases q with ⟨k,e⟩ | ⟨k,c,e,z⟩
        · refine .inl ⟨k,?_⟩;have:y≠x:=λ e=>hj (Eh hN e1 (e▸hi));simp [this,e]
        · exact .inr ⟨k,c,e,z.sameBut hs (cne y c e)⟩
    · obtain ⟨w',z⟩:=I.cell y c e;exact ⟨w',z.sameBut hs (cne y c e)⟩
    · obtain ⟨e,n,ne,nf,d⟩:=I.pin p hp;exact ⟨(hs.2 p.1 ne).trans e,n,ne,nf,d⟩
  · have hfn:X.fn x=true:=by
      rcases hf with z | z
      · exact z
      · rw [z] at hk;cases hk
    obtain ⟨c,hc⟩:=I.ok.has x (.inl hk);obtain ⟨w',z⟩:=I.cell x c hc;refine wpAny_storeName_cell I.ok.kind hk hc z (λ h' hc' hs=> ?_);obtain ⟨oc,hoc,hocd⟩:=id z;refine h { s with heap:=h' } ⟨I.ok,I.os,I.bare,⟨λ b o e n hb hx=> ?_,λ b o e n hb hx=> ?_,I.base.free,λ b o e hx=> ?_,I.base.tups,I.base.frzs,I.base.tbls⟩,⟨m,hn.sameBut hs (Ne.symm (cne x c hc)),λ j y v' e1 e2 e3=> ?_⟩,λ y c' e=> ?_,I.free,I.freeC,λ p hp=> ?_,tracked ⟨oc,hoc,I.freeC x c hc⟩ hs,by simpa using I.len⟩ ⟨c,hs, .inr hc⟩
    · exact (hs.2 b (Nat.ne_of_lt (Nat.lt_of_lt_of_le (Heap.lt_size e) (I.ok.cab x c hfn hc)))).trans (I.base.keep b o e n hb hx)
    · obtain ⟨sl,e1⟩:=I.base.slot b o e n hb hx;exact ⟨sl,(hs.2 b (Nat.ne_of_lt (Nat.lt_of_lt_of_le (Heap.lt_size e) (I.ok.cab x c hfn hc)))).trans e1⟩
    · obtain ⟨o',e1⟩:=I.base.there b o e hx;exact ⟨o',(hs.2 b (Nat.ne_of_lt (Nat.lt_of_lt_of_le (Heap.lt_size e) (I.ok.cab x c hfn hc)))).trans e1⟩
    · by_cases hj:j=i
      · subst hj;rw [hi] at e1;cases e1;rw [List.getElem?_set_self hiσ] at e2;cases e2;exact ⟨u,r, .inr ⟨.inl hk,c,hc,hc'⟩⟩
      · rw [List.getElem?_set_ne (Ne.symm hj)] at e2;obtain ⟨u',r',q⟩:=hl j y v' e1 e2 e3;refine ⟨u',r',?_⟩;rcases q with q | ⟨k,c',e,z'⟩
        · exact .inl q
        · refine .inr ⟨k,c',e,z'.sameBut hs ?_⟩;rintro rfl;exact hj (Eh hN e1 (I.ok.inj _ _ _ e hc▸hi))
    · by_cases hcc:c'=c
      · subst hcc;exact ⟨_,hc'⟩
      · obtain ⟨w2,z2⟩:=I.cell y c' e;exact ⟨w2,z2.sameBut hs hcc⟩
    · obtain ⟨e,n,ne,nf,d⟩:=I.pin p hp;refine ⟨(hs.2 p.1 ?_).trans e,n,ne,nf,d⟩;intro q;rw [q,hoc] at e;have q':oc=p.2:=Option.some.inj e;exact d w' (by rw [<-q'];exact hocd)
theorem BV {M:Model} {A:Around} {E:Value->Shared->Prop} {i:Nat} {x:Str} {v:V} {u:Value} {Q:Unit->Shared->Prop} (I:Inv X pins σ H s) (hN:X.N.Nodup) (hi:X.N[i]?=some x) (hx:Loc X.env.scope x) (r:RelV v u)
    (h:∀ s',Inv X pins (σ.set i (some v)) H s'->Q () s') (hf:X.fn x=true\/X.env.scope.names.lookup x=some .local:=by first | exact .inl rfl | exact .inr rfl | assumption):wpAny M A (storeName X.env x u) Q E s:=
  Ha I hN hi hx r (λ s' I' _=>h s' I') hf
theorem Inv.call' {s':Shared} {ch:List Addr} (I:Inv X pins σ H s) (ho:s'.os=s.os) (u:Un (frs X.stack) ch H H' s.heap s'.heap) (hok:HOk X.prog X.w H' s'.heap) (hg:AllBare s'.gens)
    (hch:∀ b∈ch,(b∈X.ex\/X.s₀.heap.objs.size<=b)/\b≠X.env.locals/\(∀ x c,X.env.cells.lookup x=some c->c≠b)/\∀ p∈X.pn++pins,p.1≠b):Inv X pins σ H' s':=by
  obtain ⟨h',g',d',t',o'⟩:=s';have e:o'=s.os:=ho;subst e;exact I.call (g':=g') (t':=t') (d':=d') u hok hg hch
end
abbrev XK:=Value->Option Addr->Hp->Prop
abbrev St:=List (Option V)
abbrev VK:=V->Hp->Prop
abbrev TE:=St->Hp->VK->Prop
abbrev TT:=St->Hp->(Bool->Hp->Prop)->Prop
abbrev TA:=St->Hp->(List V->Hp->Prop)->Prop
structure Ends where
  nx:St->Hp->Prop
  rt:VK
  bk:St->Hp->Prop:=λ _ _=>False
  ct:St->Hp->Prop:=λ _ _=>False
abbrev TS:=Ends->St->Hp->Prop
def EP (X:Cx) (pins:List (Addr × Obj)) (σ:St) (Q:VK) (u:Value) (s':Shared):Prop:=∃ v H',Inv X pins σ H' s'/\RelV v u/\Q v H'
def TP (X:Cx) (pins:List (Addr × Obj)) (σ:St) (Q:Bool->Hp->Prop) (b:Bool) (s':Shared):Prop:=∃ H',Inv X pins σ H' s'/\Q b H'
def AP (X:Cx) (pins:List (Addr × Obj)) (σ:St) (Q:List V->Hp->Prop) (us:List Value) (s':Shared):Prop:=∃ vs H',Inv X pins σ H' s'/\Vals vs us/\Q vs H'
def SP (X:Cx) (pins:List (Addr × Obj)) (D:Ends) (f:Flow) (s':Shared):Prop:=
  match f with
  | .next=>∃ σ' H',Inv X pins σ' H' s'/\D.nx σ' H'
  | .brk=>∃ σ' H',Inv X pins σ' H' s'/\D.bk σ' H'
  | .cont=>∃ σ' H',Inv X pins σ' H' s'/\D.ct σ' H'
  | .ret u=>∃ v σ' H',Inv X pins σ' H' s'/\RelV v u/\D.rt v H'
def PE (X:Cx) (e:Expr) (t:TE):Prop:=
  ∀ (pins:List (Addr × Obj)) (s:Shared) (σ:St) (H:Hp) (Q:VK),Inv X pins σ H s->t σ H Q->wpAny (model X.prog X.w) X.A (eval e X.env) (EP X pins σ Q) X.xe s
def PT (X:Cx) (e:Expr) (t:TT):Prop:=
  ∀ (pins:List (Addr × Obj)) (s:Shared) (σ:St) (H:Hp) (Q:Bool->Hp->Prop),Inv X pins σ H s->t σ H Q->wpAny (model X.prog X.w) X.A (isTrue e X.env (eval e X.env)) (TP X pins σ Q) X.xe s
def PW (X:Cx) (e:Expr) (t:TT):Prop:=
  ∀ (whole:Sem Value) (pins:List (Addr × Obj)) (s:Shared) (σ:St) (H:Hp) (Q:Bool->Hp->Prop),Inv X pins σ H s->t σ H Q->wpAny (model X.prog X.w) X.A (isTrue e X.env whole) (TP X pins σ Q) X.xe s
theorem PW.pt {X:Cx} {e:Expr} {t:TT} (h:PW X e t):PT X e t:=h _
def PA (X:Cx) (es:List Expr) (t:TA):Prop:=
  ∀ (pos:Pos) (pins:List (Addr × Obj)) (s:Shared) (σ:St) (H:Hp) (Q:List V->Hp->Prop),Inv X pins σ H s->t σ H Q->wpAny (model X.prog X.w) X.A (spliced (backTo pos (starEach es X.env))) (AP X pins σ Q) X.xe s
def PS (X:Cx) (st:Stmt) (t:TS):Prop:=
  ∀ (pins:List (Addr × Obj)) (s:Shared) (σ:St) (H:Hp) (D:Ends),Inv X pins σ H s->t D σ H->wpAny (model X.prog X.w) X.A (exec st X.env) (SP X pins D) X.xe s
def PSs (X:Cx) (st:List Stmt) (t:TS):Prop:=
  ∀ (pins:List (Addr × Obj)) (s:Shared) (σ:St) (H:Hp) (D:Ends),Inv X pins σ H s->t D σ H->wpAny (model X.prog X.w) X.A (execs st X.env) (SP X pins D) X.xe s
theorem thn {α:Type} {t:Sem α} {Q Q':α->Shared->Prop} {M:Model} {A:Around} {E:Value->Shared->Prop} {s:Shared} (h:wpAny M A t Q E s) (hQ:∀ a s,Q a s->Q' a s):wpAny M A t Q' E s:=wpAny_mono h hQ λ _ _ x=>x
section
variable {X:Cx}
theorem bin {a b:Expr} {ta tb:TE} (ha:PE X a ta) (hb:PE X b tb) {pins:List (Addr × Obj)} {s:Shared} {σ:St} {H:Hp} {R:V->V->Hp->Prop} (I:Inv X pins σ H s) (h:ta σ H λ x H1=>tb σ H1 λ y H2=>R x y H2)
    {α:Type} {Q:α->Shared->Prop} {f:Value->Value->Sem α}
    (hf:∀ v u s2 x y H2,Inv X pins σ H2 s2->RelV x v->RelV y u->R x y H2->wpAny (model X.prog X.w) X.A (f v u) Q X.xe s2):
    wpAny (model X.prog X.w) X.A (eval a X.env) (λ v s₁=>wpAny (model X.prog X.w) X.A (eval b X.env) (λ u s₂=>wpAny (model X.prog X.w) X.A (f v u) Q X.xe s₂) X.xe s₁) X.xe s:=by
  refine thn (ha pins s σ H _ I h) λ v s1 ⟨x,H1,I1,r1,q1⟩=> ?_;refine thn (hb pins s1 σ H1 _ I1 q1) λ u s2 ⟨y,H2,I2,r2,q2⟩=> ?_;exact hf v u s2 x y H2 I2 r1 r2 q2
def Lk (i:Nat):TE:=λ σ H Q=>∃ v,σ[i]?=some (some v)/\Q v H
def tC (v:V):TE:=λ _ H Q=>Q v H
theorem Ld {i:Nat} {x:Str} {pos:Pos} (hN:X.N[i]?=some x) (hv:Vis X.env.scope x) (hd:(x == ("__debug__":Str))=false:=by decide) (hcd:(x == ("__classdict__":Str))=false:=by decide):PE X (.Name x pos) (Lk i):=by
  intro pins s σ H Q I h;obtain ⟨v,e,h⟩:=h;obtain ⟨m,hn,hl⟩:=I.loc;obtain ⟨u,r,l⟩:=hl i x v hN e hv;have fin:EP X pins σ Q u s:=⟨v,H,I,r,h⟩;rcases l with ⟨hk,hm⟩ | ⟨hk,c,hc,hcell⟩
  · exact wpAny_Name (wpAny_loadName_local I.ok.kind hk hn hm fin) hd
  · rcases hk with hk | hk
    · exact wpAny_Name (wpAny_loadName_cell I.ok.kind hk hc hcell fin) hd
    · exact wpAny_Name (wpAny_loadName_free I.ok.kind hk hc hcell fin hcd) hd
theorem Ac {i j pos}:PE X (.Constant (.int i) j pos) (tC (.int i)):=λ _ _ _ H _ I h=>wpAny_Constant_int ⟨.int i,H,I.tok _,⟨_,rfl⟩,h⟩
theorem AZ {b j pos}:PE X (.Constant (.bool b) j pos) (tC (.bl b)):=λ _ _ _ H _ I h=>Constant_bool ⟨.bl b,H,I,rfl,h⟩
theorem Fp {j pos}:PE X (.Constant .none j pos) (tC .non):=λ _ _ _ H _ I h=>Constant_none ⟨.non,H,I,rfl,h⟩
theorem AF {x j pos}:PE X (.Constant (.str x) j pos) (tC (.str x)):=λ _ _ _ H _ I h=>Calls.Constant_str ⟨.str x,H,I.tok _,⟨_,rfl⟩,h⟩
def Gl (X:Cx) (x:Str):Prop:=X.env.kindOf x=some .globalImplicit
theorem DB {E:Value->Shared->Prop} {pins:List (Addr × Obj)} {s:Shared} {σ:St} {H:Hp} {x:Str} {u:Value} {pos:Pos} {Q:Value->Shared->Prop} (I:Inv X pins σ H s) (hg:Gl X x) (hm:X.mg x=some u) (h:Q u s)
    (hd:(x == ("__debug__":Str))=false:=by decide):wpAny (model X.prog X.w) X.A (eval (.Name x pos) X.env) Q E s:=
  Calls.Name_function_global I.ok.kind hg (Calls.loadGlobal_global (by rw [I.ok.glob];exact I.mod.glob.keeps I.bk) hm h) hd
theorem Da {E:Value->Shared->Prop} {pins:List (Addr × Obj)} {s:Shared} {σ:St} {H:Hp} {x:Str} {u:Value} {pos:Pos} {Q:Value->Shared->Prop} (I:Inv X pins σ H s) (hg:Gl X x) (hm:X.mg x=none) (hv:bootBuiltins x=some u) (h:Q u s)
    (hn:x≠"__name__":=by decide) (hd:(x == ("__debug__":Str))=false:=by decide):wpAny (model X.prog X.w) X.A (eval (.Name x pos) X.env) Q E s:=by
  obtain ⟨mb,h1,h2⟩:=I.mod.blt;exact Calls.Name_function_global I.ok.kind hg (Calls.loadGlobal_builtin (by rw [I.ok.glob];exact I.mod.glob.keeps I.bk) hm (by rw [I.ok.blt];exact h1.keeps I.bk) ((h2 x hn).trans hv) h) hd
theorem GL {x:Str} {v:V} {u:Value} {pos:Pos} (hg:Gl X x) (hm:X.mg x=some u) (r:RelV v u) (hd:(x == ("__debug__":Str))=false:=by decide):PE X (.Name x pos) (tC v):=
  λ _ _ _ H _ I h=>DB I hg hm ⟨v,H,I,r,h⟩ hd
theorem Je {x:Str} {v:V} {u:Value} {pos:Pos} (hg:Gl X x) (hm:X.mg x=none) (hv:bootBuiltins x=some u) (r:RelV v u) (hn:x≠"__name__":=by decide) (hd:(x == ("__debug__":Str))=false:=by decide):PE X (.Name x pos) (tC v):=
  λ _ _ _ H _ I h=>Da I hg hm hv ⟨v,H,I,r,h⟩ hn hd
variable {a b:Expr} {ta tb:TE} {pos:Pos}
def PC (X:Cx) (op:CmpOp) (a b:Expr) (t:TE):Prop:=
  ∀ (pins:List (Addr × Obj)) (s:Shared) (σ:St) (H:Hp) (Q:VK),Inv X pins σ H s->t σ H Q->
    wpAny (model X.prog X.w) X.A (eval a X.env) (λ v s₁=>wpAny (model X.prog X.w) X.A (eval b X.env) (λ u s₂=>wpAny (model X.prog X.w) X.A (compareOp op v u) (EP X pins σ Q) X.xe s₂) X.xe s₁) X.xe s
theorem IR (b:Expr) {op:CmpOp} (h:op≠ .In) (h2:op≠ .NotIn):behindInMarks op b=false:=by
  have e1:(op == CmpOp.In)=false:=by cases op <;> first | rfl | exact absurd rfl h
  have e2:(op == CmpOp.NotIn)=false:=by cases op <;> first | rfl | exact absurd rfl h2
  cases b <;> simp [behindInMarks,e1,e2]
def tB (t:TE):TT:=λ σ H Q=>t σ H λ x H1=>∃ c,x= .bl c/\Q c H1
theorem NW {op:CmpOp} {t:TE} (h:PC X op a b t) (h1:behindInMarks op b=false:=by first | exact IR _ (by decide) (by decide) | rfl):PT X (.Compare a [op] [b] pos) (tB t):=by
  intro pins s σ H Q I hw;refine wpAny_isTrue_Compare1 (thn (h pins s σ H _ I hw) λ v s1 h1=>thn h1 λ u s2 h2=>thn h2 λ c s3 ⟨x,H1,I1,r1,q1⟩=> ?_) h1;obtain ⟨d,rfl,q⟩:=q1;cases r1;exact wpAny_truthy_bool ⟨H1,I1,q⟩
theorem Ay {e:Expr} {t:TE} (h:PE X e t) (he:∀ whole,isTrue e X.env whole=(do let v <-whole;standAt e.pos;holding [v] (truthy v)):=by intro _;rfl):PT X e (tB t):=by
  intro pins s σ H Q I hw;refine isTrue_plain (thn (h pins s σ H _ I hw) λ v s1 ⟨x,H1,I1,r1,q1⟩=> ?_) (he _);obtain ⟨d,rfl,q⟩:=q1;cases r1;exact wpAny_truthy_bool ⟨H1,I1,q⟩
variable {tA tB':TT} {rest:List Expr}
def tOr (t u:TT):TT:=λ σ H Q=>t σ H λ c H1=>if c=true then Q true H1 else u σ H1 Q
def Mt (t:TT):TT:=λ σ H Q=>t σ H λ c H1=>Q (!c) H1
theorem Cy (ha:PT X a tA):PW X (.BoolOp .Or [a] pos) tA:=by
  intro wh pins s σ H Q I h;refine isTrue_or (thn (ha pins s σ H Q I h) λ c s1 e=> ?_);cases c with
  | false=>exact isTrue_or_nil e
  | true=>exact e
theorem Dj (ha:PT X a tA) (hb:PW X (.BoolOp .Or (b::rest) pos) tB'):PW X (.BoolOp .Or (a::b::rest) pos) (tOr tA tB'):=by
  intro wh pins s σ H Q I h;refine isTrue_or (thn (ha pins s σ H _ I h) λ c s1 ⟨H1,I1,q1⟩=> ?_);cases c with
  | true=>exact ⟨H1,I1,q1⟩
  | false=>exact hb wh pins s1 σ H1 Q I1 q1
theorem AB (ha:PT X a tA):PT X (.UnaryOp .Not a pos) (Mt tA):=by
  intro pins s σ H Q I h;exact isTrue_not (ha pins s σ H (λ c H1=>Q (!c) H1) I h)
def Kc (ta tb:TE):TE:=λ σ H Q=>ta σ H λ x H1=>∃ c,x= .bl c/\if c=true then tb σ H1 Q else Q (.bl false) H1
def J3 (ta:TE):TE:=λ σ H Q=>ta σ H λ x H1=>∃ c,x= .bl c/\Q (.bl (!c)) H1
theorem Ft {op} {t:TE} (h:PE X a t):PE X (.BoolOp op [a] pos) t:=λ pins s σ H Q I hw=>BoolOp_one (h pins s σ H Q I hw)
theorem DO (ha:PE X a ta) (hb:PE X (.BoolOp .And (b::rest) pos) tb):PE X (.BoolOp .And (a::b::rest) pos) (Kc ta tb):=by
  intro pins s σ H Q I h;refine BoolOp_and (thn (ha pins s σ H _ I h) λ v s1 ⟨x,H1,I1,r1,q1⟩=> ?_);obtain ⟨c,rfl,q1⟩:=q1;cases r1;refine wpAny_truthy_bool ?_;cases c with
  | true=>exact hb pins s1 σ H1 Q I1 q1
  | false=>exact ⟨.bl false,H1,I1,rfl,q1⟩
theorem Ge (ha:PE X a ta):PE X (.UnaryOp .Not a pos) (J3 ta):=by
  intro pins s σ H Q I h;refine UnaryOp_ (thn (ha pins s σ H _ I h) λ v s1 ⟨x,H1,I1,r1,q1⟩=> ?_);obtain ⟨c,rfl,q1⟩:=q1;cases r1;exact not_of (wpAny_truthy_bool ⟨.bl (!c),H1,I1,rfl,q1⟩)
end
def SqL (K:PySem.W.Frag) (H:Hp) (a:Addr) (xs:List V):Prop:=
  Rd H a (.lst xs)\/
    ∃ (o:Obj) (its:Array Value) (n:Nat),K.lookup a=some o/\o.cls= .type "list"/\o.dict=none/\o.data= .seq its n/\its.size<=sizeLine/\Vals xs its.toList
def SqT (K:PySem.W.Frag) (H:Hp) (a:Addr) (xs:List V):Prop:=
  Rd H a (.tup xs)\/
    ∃ (o:Obj) (its:Array Value) (n:Nat),K.lookup a=some o/\o.cls= .type "tuple"/\o.data= .seq its n/\its.size<=sizeLine/\Vals xs its.toList
def MO:Value->Option V
  | .none=>some .non
  | .bool b=>some (.bl b)
  | .int i _=>some (.int i)
  | .str x _=>some (.str x)
  | .bytes b _=>some (.byt b)
  | .float b _=>some (.flt b)
  | .ref a=>some (.ref a)
  | .type n=>some (.ty n)
  | _=>none
theorem RelV.abs {x:V} {u:Value} (r:RelV x u):MO u=some x:=by
  cases x with
  | non=>cases r;rfl
  | bl _=>cases r;rfl
  | int _=>obtain ⟨t,rfl⟩:=r;rfl
  | str _=>obtain ⟨t,rfl⟩:=r;rfl
  | byt _=>obtain ⟨t,rfl⟩:=r;rfl
  | flt _=>obtain ⟨t,rfl⟩:=r;rfl
  | ref _=>cases r;rfl
  | ty _=>cases r;rfl
theorem RelV.inj {x y:V} {u:Value} (r:RelV x u) (q:RelV y u):x=y:=Option.some.inj (r.abs.symm.trans q.abs)
theorem Vals.inj:∀ {xs ys:List V} {us:List Value},Vals xs us->Vals ys us->xs=ys
  | _,_,_, .nil, .nil=>rfl
  | _,_,_, .cons r t, .cons r' t'=>by rw [r.inj r',Vals.inj t t']
section
variable {X:Cx} {pins:List (Addr × Obj)} {σ:St} {H:Hp} {s:Shared} {a:Addr} {xs ys:List V}
theorem SqL.of {K:PySem.W.Frag} (h:H a=some (.lst xs)):SqL K H a xs:= .inl (.inl h)
theorem SqT.of {K:PySem.W.Frag} (h:H a=some (.tup xs)):SqT K H a xs:= .inl (.inl h)
theorem Inv.list (I:Inv X pins σ H s) (h:SqL X.K H a xs):∃ its:List Value,Vals xs its/\PlainL s.heap a its.toArray/\xs.length<=sizeLine:=by
  rcases h with h | ⟨o,its,n,hk,hc,hd,hs,hz,r⟩
  · obtain ⟨z,its,n,r,e⟩:=h.ok I.hok;exact ⟨its,r,⟨_,n,e,rfl,rfl,rfl⟩,z⟩
  · refine ⟨its.toList,r,⟨o,n,I.kIn a o hk,hc,hd,by simpa using hs⟩,?_⟩;have e:=r.length;simp only [Array.length_toList] at e;omega
theorem Inv.tuple (I:Inv X pins σ H s) (h:SqT X.K H a xs):∃ its:List Value,Vals xs its/\IsTup s.heap a its.toArray/\xs.length<=sizeLine:=by
  rcases h with h | ⟨o,its,n,hk,hc,hs,hz,r⟩
  · obtain ⟨z,its,r,p⟩:=h.ok I.hok;exact ⟨its,r,p,z⟩
  · refine ⟨its.toList,r,⟨o,I.kIn a o hk,hc,n,by simpa using hs⟩,?_⟩;have e:=r.length;simp only [Array.length_toList] at e;omega
theorem Inv.list_inj (I:Inv X pins σ H s) (h:SqL X.K H a xs) (h':SqL X.K H a ys):xs=ys:=by
  obtain ⟨its,r,⟨o,n,e,_,_,d⟩,_⟩:=I.list h;obtain ⟨its',r',⟨o',n',e',_,_,d'⟩,_⟩:=I.list h';rw [e] at e';cases e';rw [d] at d';injection d' with d1 _;have:its=its':=by simpa using congrArg Array.toList d1
  subst this;exact r.inj r'
theorem Inv.tuple_inj (I:Inv X pins σ H s) (h:SqT X.K H a xs) (h':SqT X.K H a ys):xs=ys:=by
  obtain ⟨its,r,⟨o,e,_,n,d⟩,_⟩:=I.tuple h;obtain ⟨its',r',⟨o',e',_,n',d'⟩,_⟩:=I.tuple h';rw [e] at e';cases e';rw [d] at d';injection d' with d1 _;have:its=its':=by simpa using congrArg Array.toList d1
  subst this;exact r.inj r'
end
abbrev Cx.wish (X:Cx) (E:Value->Shared->Prop):Cx:={ X with xe:=E }
abbrev Cx.nox (X:Cx):Cx:=X.wish λ _ _=>False
theorem Cx.Ok.wish {X:Cx} (ok:X.Ok) (E:Value->Shared->Prop):(X.wish E).Ok:=
  ⟨ok.mod,ok.kind,ok.glob,ok.blt,ok.above,ok.inj,ok.has,ok.cab,ok.hd,ok.frames,ok.stk,ok.exf,ok.bs,ok.bsz,ok.noex,ok.exfs,ok.funs,ok.frf⟩
theorem Cx.Ok.unwish {X:Cx} {E:Value->Shared->Prop} (ok:(X.wish E).Ok):X.Ok:=
  ⟨ok.mod,ok.kind,ok.glob,ok.blt,ok.above,ok.inj,ok.has,ok.cab,ok.hd,ok.frames,ok.stk,ok.exf,ok.bs,ok.bsz,ok.noex,ok.exfs,ok.funs,ok.frf⟩
section
variable {X:Cx} {pins:List (Addr × Obj)} {σ:St} {H:Hp} {s:Shared} {E:Value->Shared->Prop}
theorem Inv.wish (I:Inv X pins σ H s) (E:Value->Shared->Prop):Inv (X.wish E) pins σ H s:=⟨I.ok.wish E,I.os,I.bare,I.base,I.loc,I.cell,I.free,I.freeC,I.pin,I.hok,I.len⟩
theorem Inv.unwish (I:Inv (X.wish E) pins σ H s):Inv X pins σ H s:=⟨I.ok.unwish,I.os,I.bare,I.base,I.loc,I.cell,I.free,I.freeC,I.pin,I.hok,I.len⟩
theorem SP.unwish {D:Ends} {f:Flow} {s':Shared} (h:SP (X.wish E) pins D f s'):SP X pins D f s':=by
  cases f with
  | next=>obtain ⟨σ',H',I,q⟩:=h;exact ⟨σ',H',I.unwish,q⟩
  | brk=>obtain ⟨σ',H',I,q⟩:=h;exact ⟨σ',H',I.unwish,q⟩
  | cont=>obtain ⟨σ',H',I,q⟩:=h;exact ⟨σ',H',I.unwish,q⟩
  | ret u=>obtain ⟨v,σ',H',I,r,q⟩:=h;exact ⟨v,σ',H',I.unwish,r,q⟩
theorem PSs.nox {st:List Stmt} {t:TS} (h:PSs X.nox st t):PSs X st t:=λ pins s σ H D I hw=>
  wpAny_mono (h pins s σ H D (I.wish _) hw) (λ _ _ q=>q.unwish) λ _ _ z=>False.elim z
end
section
variable {X:Cx} {st:Stmt} {rest:List Stmt} {t u:TS} {e:Expr} {te:TE} {pos:Pos}
def Kk:TS:=λ D σ H=>D.nx σ H
def Mn (t u:TS):TS:=λ D σ H=>t { D with nx:=u D } σ H
theorem Aq:PSs X [] Kk:=λ _ _ σ H _ I h=>wpAny_execs_nil ⟨σ,H,I,h⟩
theorem Ad (h1:PS X st t) (h2:PSs X rest u):PSs X (st::rest) (Mn t u):=by
  intro pins s σ H D I h;refine wpAny_execs_cons (thn (h1 pins s σ H { D with nx:=u D } I h) λ f s1 q=> ?_);cases f with
  | next=>
    obtain ⟨σ',H',I',q⟩:=q;exact h2 pins s1 σ' H' D I' q
  | ret v=>exact q
  | brk=>exact q
  | cont=>exact q
theorem Af (h1:PS X st t):PSs X [st] t:=by
  intro pins s σ H D I h;refine wpAny_execs_cons (thn (h1 pins s σ H D I h) λ f s1 q=> ?_);cases f with
  | next=>exact wpAny_execs_nil q
  | ret v=>exact q
  | brk=>exact q
  | cont=>exact q
theorem Inv.quiet {pins:List (Addr × Obj)} {σ:St} {H:Hp} {s:Shared} (I:Inv X pins σ H s):interactive X.env=false:=by simp [interactive,I.ok.kind]
def Ke (te:TE):TS:=λ D σ H=>te σ H λ _ H1=>D.nx σ H1
theorem DE (he:PE X e te) (hs:swapsWith e none pos.line X.env=pure false:=by rfl):PS X (.Expr e pos) (Ke te):=by
  intro pins s σ H D I h;exact wpAny_Expr_any (thn (he pins s σ H _ I h) λ v s1 ⟨x,H1,I1,r1,q1⟩=>⟨σ,H1,I1,q1⟩) I.quiet hs
def Mr (te:TE):TS:=λ D σ H=>te σ H D.rt
theorem Al (he:PE X e te):PS X (.Return (some e) pos) (Mr te):=by
  intro pins s σ H D I h;exact wpAny_Return_some (thn (he pins s σ H _ I h) λ v s1 ⟨x,H1,I1,r1,q1⟩=>⟨x,σ,H1,I1,r1,q1⟩)
def Mm (c:TT) (t u:TS):TS:=λ D σ H=>c σ H λ b H1=>if b=true then t D σ H1 else u D σ H1
theorem AN {c:Expr} {a b:List Stmt} {tc:TT} (hc:PT X c tc) (ha:PSs X a t) (hb:PSs X b u):PS X (.If c a b pos) (Mm tc t u):=by
  intro pins s σ H D I h;refine wpAny_If (thn (hc pins s σ H _ I h) λ d s1 ⟨H1,I1,q1⟩=> ?_);cases d with
  | true=>exact ha pins s1 σ H1 D I1 q1
  | false=>exact hb pins s1 σ H1 D I1 q1
end
abbrev TG:=V->St->Hp->(St->Hp->Prop)->Prop
abbrev TGs:=List V->St->Hp->(St->Hp->Prop)->Prop
def PG (X:Cx) (target:Expr) (t:TG):Prop:=
  ∀ (pins:List (Addr × Obj)) (s:Shared) (σ:St) (H:Hp) (v:V) (u:Value) (Q:St->Hp->Prop),Inv X pins σ H s->RelV v u->t v σ H Q->
    wpAny (model X.prog X.w) X.A (assign target X.env u) (λ _ s'=>∃ σ' H',Inv X pins σ' H' s'/\Q σ' H') X.xe s
def PGs (X:Cx) (ts:List Expr) (t:TGs):Prop:=
  ∀ (pins:List (Addr × Obj)) (s:Shared) (σ:St) (H:Hp) (vs:List V) (us:List Value) (Q:St->Hp->Prop),Inv X pins σ H s->Vals vs us->t vs σ H Q->
    wpAny (model X.prog X.w) X.A (assignInOrder ((assignEach ts X.env).map (·.2)) us) (λ _ s'=>∃ σ' H',Inv X pins σ' H' s'/\Q σ' H') X.xe s
abbrev TIp:=V->V->Hp->VK->Prop
def PIp (X:Cx) (op:Operator) (t:TIp):Prop:=
  ∀ (pins:List (Addr × Obj)) (s:Shared) (σ:St) (H:Hp) (x y:V) (v u:Value) (Q:VK),Inv X pins σ H s->RelV x v->RelV y u->t x y H Q->
    wpAny (model X.prog X.w) X.A (inplaceOp op v u) (EP X pins σ Q) X.xe s
section
variable {X:Cx} {pos:Pos}
def AC (i:Nat):TG:=λ v σ H Q=>Q (σ.set i (some v)) H
theorem Bg {i:Nat} {x:Str} (hN:X.N.Nodup) (hi:X.N[i]?=some x) (hx:Loc X.env.scope x) (hf:X.fn x=true\/X.env.scope.names.lookup x=some .local:=by first | exact .inl rfl | exact .inr rfl | assumption):PG X (.Name x pos) (AC i):=by
  intro pins s σ H v u Q I r h;exact wpAny_assign_Name (BV I hN hi hx r (λ s' I'=>⟨_,H,I',h⟩) hf)
def Gv:TGs:=λ vs σ H Q=>vs=[]/\Q σ H
def Bu (t:TG) (u:TGs):TGs:=λ vs σ H Q=>∃ v r,vs=v::r/\t v σ H λ σ' H'=>u r σ' H' Q
theorem GK:PGs X [] Gv:=by
  intro pins s σ H vs us Q I r h;obtain ⟨e,h⟩:=h;subst e;cases r;exact assignInOrder_nil ⟨σ,H,I,h⟩
theorem CM {e:Expr} {es:List Expr} {t:TG} {u:TGs} (h1:PG X e t) (h2:PGs X es u)
    (hs:(assignEach (e::es) X.env).map (·.2)=assign e X.env::(assignEach es X.env).map (·.2):=by rfl):PGs X (e::es) (Bu t u):=by
  intro pins s σ H vs us Q I r h;obtain ⟨v,vr,e1,h⟩:=h;subst e1;cases r with
  | cons r rr=>
    rw [hs];refine assignInOrder_cons (thn (h1 pins s σ H _ _ _ I r h) λ _ s1 ⟨σ1,H1,I1,q1⟩=> ?_);exact h2 pins s1 σ1 H1 _ _ Q I1 rr q1
def FL (K:PySem.W.Frag) (n:Nat) (t:TGs):TG:=λ v σ H Q=>∃ a xs,v= .ref a/\SqT K H a xs/\xs.length=n/\t xs σ H Q
theorem Im {es:List Expr} {k:Nat} {t:TGs} {n:Nat} (hc:X.calm=true) (h:PGs X es t)
    (hn:(assignEach es X.env).length=n:=by rfl) (hst:(assignEach es X.env).findIdx? (·.1)=none:=by rfl):PG X (.Tuple es k pos) (FL X.K n t):=by
  intro pins s σ H v u Q I r hw;obtain ⟨a,xs,e1,hq,hl,hw⟩:=hw;subst e1;cases r;obtain ⟨its,rv,ht,hz⟩:=I.tuple hq;refine assign_Tuple_tuple (I.ok.hd hc) ht (by simp [hn, <-hl,rv.length]) hst λ h' hx=> ?_;have I1:Inv X pins σ H { s with heap:=h' }:=I.kept (t':=s.toks) λ b o e=>hx b o (Nat.ne_of_lt (Heap.lt_size e)) e;exact h pins _ σ H xs _ Q I1 (by simpa using rv) hw
def Mv (te:TE) (g:TG):TS:=λ D σ H=>te σ H λ x H1=>g x σ H1 D.nx
theorem Ap {i:Nat} {x:Str} {e:Expr} {te:TE} {pos':Pos} (hN:X.N.Nodup) (hi:X.N[i]?=some x) (hx:Loc X.env.scope x) (he:PE X e te) (hs:swapsWith e (some (.Name x pos')) pos.line X.env=pure false:=by rfl) (hf:X.fn x=true\/X.env.scope.names.lookup x=some .local:=by first | exact .inl rfl | exact .inr rfl | assumption):
    PS X (.Assign [.Name x pos'] e pos) (Mv te (AC i)):=by
  intro pins s σ H D I h;refine wpAny_Assign_Name (thn (he pins s σ H _ I h) λ v s1 ⟨y,H1,I1,r1,q1⟩=> ?_) hs;exact BV I1 hN hi hx r1 (λ s2 I2=>⟨_,H1,I2,q1⟩) hf
def Ms (i:Nat) (te:TE) (ti:TIp):TS:=λ D σ H=>∃ x,σ[i]?=some (some x)/\te σ H λ y H1=>ti x y H1 λ z H2=>D.nx (σ.set i (some z)) H2
theorem Lf {i:Nat} {x:Str} {e:Expr} {te:TE} {op:Operator} {ti:TIp} {pos':Pos} (hN:X.N.Nodup) (hi:X.N[i]?=some x) (hx:Loc X.env.scope x) (he:PE X e te) (ho:PIp X op ti) (hf:X.fn x=true\/X.env.scope.names.lookup x=some .local:=by first | exact .inl rfl | exact .inr rfl | assumption):
    PS X (.AugAssign (.Name x pos') op e pos) (Ms i te ti):=by
  intro pins s σ H D I h;obtain ⟨v,e1,h⟩:=h;obtain ⟨m,hn,hl⟩:=I.loc;have vis:Vis X.env.scope x:=by rcases hx with k | k;exact .inl k;exact .inr (.inl k)
  obtain ⟨u,r,l⟩:=hl i x v hi e1 vis;refine wpAny_AugAssign_Name ?_;have go:wpAny (model X.prog X.w) X.A (eval e X.env) (λ w s₂=>wpAny (model X.prog X.w) X.A (inplaceOp op u w) (λ r s₃=>wpAny (model X.prog X.w) X.A (storeName X.env x r) (λ _=>SP X pins D .next) X.xe s₃) X.xe s₂) X.xe s:=by
    refine thn (he pins s σ H _ I h) λ w s1 ⟨y,H1,I1,r1,q1⟩=> ?_;refine thn (ho pins s1 σ H1 v y u w _ I1 r r1 q1) λ z s2 ⟨zv,H2,I2,r2,q2⟩=> ?_;exact BV I2 hN hi hx r2 (λ s3 I3=>⟨_,H2,I3,q2⟩) hf
  rcases l with ⟨hk,hm⟩ | ⟨hk,c,hc,hcell⟩
  · exact wpAny_loadName_local I.ok.kind hk hn hm go
  · rcases hk with hk | hk
    · exact wpAny_loadName_cell I.ok.kind hk hc hcell go
    · rcases hx with k | k
      · have:X.env.scope.names.lookup x=some .free:=hk;rw [k] at this;cases this
      · have:X.env.scope.names.lookup x=some .free:=hk;rw [k] at this;cases this
end
section
variable {X:Cx} {pos:Pos}
end
structure It where
  go:Nat->Hp->Prop
  yld:Nat->Hp->V->Hp->Prop
  stop:Nat->Hp->Prop
def Cj (X:Cx) (pins:List (Addr × Obj)) (H:Hp) (b:Addr):Prop:=
  H b=none/\b≠X.env.locals/\b∉X.fs/\(b∈X.ex\/X.s₀.heap.objs.size<=b)/\(∀ x c,X.env.cells.lookup x=some c->c≠b)/\∀ p∈X.pn++pins,p.1≠b
theorem Inv.fpOk {X:Cx} {pins:List (Addr × Obj)} {σ:St} {H H':Hp} {s:Shared} {b:Addr} (I:Inv X pins σ H s) (hb:s.heap.objs.size<=b) (hn:H' b=none):Cj X pins H' b:=by
  refine ⟨hn,Nat.ne_of_gt (Nat.lt_of_lt_of_le I.lt hb),I.nofs hb, .inr (Nat.le_trans I.sz hb),λ x c e z=> ?_,λ p hp z=> ?_⟩
  · obtain ⟨v,q⟩:=I.cell x c e;exact absurd (Nat.lt_of_lt_of_le q.lt (by rw [z];exact hb)) (Nat.lt_irrefl _)
  · exact absurd (Nat.lt_of_lt_of_le (Heap.lt_size (I.pin p hp).1) (by rw [z];exact hb)) (Nat.lt_irrefl _)
structure Turn (P:Program) (w:World) (K:PySem.W.Frag) (tg:Expr) (J:It) (fp:List Addr) (it:Addr) (tn:Nat->Heap->Prop):Prop where
  mem:it∈fp
  obj:∀ i h,tn i h->∀ b∈fp,∃ o,h.get? b=some o/\∀ v,o.data≠ .cell v
  keep:∀ i h h',tn i h->(∀ b∈fp,∀ o,h.get? b=some o->h'.get? b=some o)->tn i h'
  item:∀ (X:Cx),X.prog=P->X.w=w->X.K=K->X.calm=true->∀ (i:Nat) (pins:List (Addr × Obj)) (s:Shared) (σ:St) (H:Hp) (E:Value->Shared->Prop),Inv X pins σ H s->(∀ b∈fp,Cj X pins H b)->tn i s.heap->J.go i H->
    wpAny (model P w) X.A (pyNext (.ref it)) (λ r s1=>∃ u,r=some u/\
      wpAny (model P w) X.A (letOwnedTupleGo tg (.ref it) u) (λ _ s2=>∃ x H',Inv X pins σ H' s2/\RelV x u/\J.yld i H x H'/\tn (i+1) s2.heap/\∀ b∈fp,H' b=none) E s1) E s
  done:∀ (X:Cx),X.prog=P->X.w=w->X.K=K->X.calm=true->∀ (i:Nat) (pins:List (Addr × Obj)) (s:Shared) (σ:St) (H:Hp) (E:Value->Shared->Prop),Inv X pins σ H s->(∀ b∈fp,Cj X pins H b)->tn i s.heap->J.stop i H->
    wpAny (model P w) X.A (pyNext (.ref it)) (λ r s1=>r=none/\Inv X pins σ H s1) E s
  self:∀ (A:Around) (i:Nat) (s:Shared) (Q:Value->Shared->Prop) (E:Value->Shared->Prop),tn i s.heap->Q (.ref it) s->wpAny (model P w) A (pyIter (.ref it)) Q E s
abbrev TI:=St->Hp->(It->Hp->Prop)->Prop
def PIE (X:Cx) (pins:List (Addr × Obj)) (σ:St) (tg:Expr) (R:It->Hp->Prop) (itv:Value) (s2:Shared):Prop:=
  ∃ (it:Addr) (fp:List Addr) (tn:Nat->Heap->Prop) (J:It) (H':Hp),itv= .ref it/\Inv X pins σ H' s2/\Turn X.prog X.w X.K tg J fp it tn/\tn 0 s2.heap/\(∀ b∈fp,Cj X pins H' b)/\R J H'
def PI (X:Cx) (tg iter:Expr) (wi:TI):Prop:=
  ∀ (pins:List (Addr × Obj)) (s:Shared) (σ:St) (H:Hp) (R:It->Hp->Prop),Inv X pins σ H s->wi σ H R->
    wpAny (model X.prog X.w) X.A (eval iter X.env) (λ v s1=>wpAny (model X.prog X.w) X.A (pyIter v) (PIE X pins σ tg R) X.xe s1) X.xe s
theorem IM {M:Model} {A:Around} {E:Value->Shared->Prop} {s:Shared} {tg:Expr} {it:Addr} {u:Value} {o:Obj} {n:String} {vs:Array Value} {Q:Unit->Shared->Prop} (ho:s.heap.get? it=some o) (hc:o.cls= .type n) (hd:o.data= .fields vs)
    (hn:["enumerate","zip","dict_itemiterator","dict_reverseitemiterator","odict_iterator","itertools.zip_longest","itertools.pairwise"].contains n=false) (hQ:Q () s):wpAny M A (letOwnedTupleGo tg (.ref it) u) Q E s:=by
  unfold letOwnedTupleGo;cases tg <;> first
    | exact wpAny_pure hQ
    | (cases u <;> first
        | exact wpAny_pure hQ
        | (refine wpAny_bind (wpAny_load ho ?_)
           rw [hc,hd];show wpAny M A (if (["enumerate","zip","dict_itemiterator","dict_reverseitemiterator","odict_iterator","itertools.zip_longest","itertools.pairwise"].contains n&&vs[0]? == some (rawInt _))=true then _ else _) Q E s;rw [if_neg (by intro h;rw [hn,Bool.false_and] at h;cases h)];exact wpAny_pure hQ))
def Itl (K:PySem.W.Frag) (a:Addr):It:=
  ⟨λ i H=>∃ xs x,SqL K H a xs/\xs[i]?=some x,λ i H x H'=>H'=H/\∀ xs,SqL K H a xs->xs[i]?=some x,λ i H=>∃ xs,SqL K H a xs/\xs.length<=i⟩
def Itt (K:PySem.W.Frag) (a:Addr):It:=
  ⟨λ i H=>∃ xs x,SqT K H a xs/\xs[i]?=some x,λ i H x H'=>H'=H/\∀ xs,SqT K H a xs->xs[i]?=some x,λ i H=>∃ xs,SqT K H a xs/\xs.length<=i⟩
def Itr (lo:Int) (n:Nat):It:=⟨λ i _=>i<n,λ i H x H'=>H'=H/\x= .int (lo+i),λ i _=>n<=i⟩
theorem ER {P:Program} {w:World} {K:PySem.W.Frag} {tg:Expr} (a it:Addr):Turn P w K tg (Itl K a) [it] it (λ i h=>h.IsListIter it a i) where
  mem:=by simp
  obj:=λ i h st b hb=>by
    have e:b=it:=by simpa using hb
    subst e;obtain ⟨o,e,c,d⟩:=st;exact ⟨o,e,λ v z=>by rw [d] at z;cases z⟩
  keep:=λ i h h' st k=>st.at λ o e=>k it (by simp) o e
  item:=by
    intro X hP hw hK hc i pins s σ H E I hf st hg;subst hP hw hK;obtain ⟨xs,x,hq,hx⟩:=hg;obtain ⟨its,rv,p,hz⟩:=I.list hq;obtain ⟨u,hu,ru⟩:=rv.get hx;obtain ⟨f0,f1,f2,f3,f4,f5⟩:=hf it (by simp);refine wpAny_pyNext_list_item st p.isList (x:=u) (by simpa using hu) λ h' st' sb=> ?_;have I1:Inv X pins σ H { s with heap:=h' }:=I.turned (t':=s.toks) (λ b o hb e=>(sb.2 b hb).trans e) f0 f1 f3 f4 f5;obtain ⟨o,e,c,d⟩:=id st';exact ⟨u,rfl,IM (s:={ s with heap:=h' }) e c d (by decide) ⟨x,H,I1,ru,⟨rfl,λ ys hy=>by rw [I.list_inj hy hq];exact hx⟩,st',λ b hb=>(hf b hb).1⟩⟩
  done:=by
    intro X hP hw hK hc i pins s σ H E I hf st hg;subst hP hw hK;obtain ⟨xs,hq,hx⟩:=hg;obtain ⟨its,rv,p,hz⟩:=I.list hq;obtain ⟨f0,f1,f2,f3,f4,f5⟩:=hf it (by simp);have hl:=rv.length;exact wpAny_pyNext_list_end (I.ok.hd hc) st p.isList (by simp;omega) λ h' eb=>⟨rfl,I.turned (t':=s.toks) (λ b o hb e=>eb b o hb e) f0 f1 f3 f4 f5⟩
  self:=λ _ _ _ _ _ st h=>wpAny_pyIter_listiter st h
theorem Ea {P:Program} {w:World} {K:PySem.W.Frag} {tg:Expr} (a it:Addr):Turn P w K tg (Itt K a) [it] it (λ i h=>h.IsTupleIter it a i) where
  mem:=by simp
  obj:=λ i h st b hb=>by
    have e:b=it:=by simpa using hb
    subst e;obtain ⟨o,e,c,d⟩:=st;exact ⟨o,e,λ v z=>by rw [d] at z;cases z⟩
  keep:=λ i h h' st k=>st.at λ o e=>k it (by simp) o e
  item:=by
    intro X hP hw hK hc i pins s σ H E I hf st hg;subst hP hw hK;obtain ⟨xs,x,hq,hx⟩:=hg;obtain ⟨its,rv,p,hz⟩:=I.tuple hq;obtain ⟨u,hu,ru⟩:=rv.get hx;obtain ⟨f0,f1,f2,f3,f4,f5⟩:=hf it (by simp);refine wpAny_pyNext_tuple_item st (show s.heap.IsTuple a its.toArray from p) (x:=u) (by simpa using hu) λ h' st' sb=> ?_;have I1:Inv X pins σ H { s with heap:=h' }:=I.turned (t':=s.toks) (λ b o hb e=>(sb.2 b hb).trans e) f0 f1 f3 f4 f5;obtain ⟨o,e,c,d⟩:=id st';exact ⟨u,rfl,IM (s:={ s with heap:=h' }) e c d (by decide) ⟨x,H,I1,ru,⟨rfl,λ ys hy=>by rw [I.tuple_inj hy hq];exact hx⟩,st',λ b hb=>(hf b hb).1⟩⟩
  done:=by
    intro X hP hw hK hc i pins s σ H E I hf st hg;subst hP hw hK;obtain ⟨xs,hq,hx⟩:=hg;obtain ⟨its,rv,p,hz⟩:=I.tuple hq;obtain ⟨f0,f1,f2,f3,f4,f5⟩:=hf it (by simp);have hl:=rv.length;exact wpAny_pyNext_tuple_end (I.ok.hd hc) st (show s.heap.IsTuple a its.toArray from p) (by simp;omega) λ h' eb=>⟨rfl,I.turned (t':=s.toks) (λ b o hb e=>eb b o hb e) f0 f1 f3 f4 f5⟩
  self:=λ _ _ _ _ _ st h=>wpAny_pyIter_tupleiter st h
theorem Ga {P:Program} {w:World} {K:PySem.W.Frag} {tg:Expr} (it:Addr) (lo:Int) (n:Nat):Turn P w K tg (Itr lo n) [it] it (λ i h=>IsRangeIter h it (lo+(i:Nat)*1) ((n:Int) - (i:Nat)) 1) where
  mem:=by simp
  obj:=λ i h st b hb=>by
    have e:b=it:=by simpa using hb
    subst e;exact ⟨_,st,λ v z=>by
      have z':Data.fields _=Data.cell v:=z;cases z'⟩
  keep:=λ i h h' st k=>k it (by simp) _ st
  item:=by
    intro X hP hw hK hc i pins s σ H E I hf st hg;subst hP hw hK;obtain ⟨f0,f1,f2,f3,f4,f5⟩:=hf it (by simp);have W:=Walks.range (prog:=X.prog) (w:=X.w) (I.ok.hd hc) it lo 1 n;refine W.item i s _ _ hg st λ v h' tk hv st' kk=> ?_;obtain ⟨t,rfl⟩:=hv;have I1:Inv X pins σ H { s with heap:=h',toks:=tk }:=I.turned (λ b o hb e=>kk b o (by simpa using hb) e) f0 f1 f3 f4 f5;refine ⟨_,rfl,IM (s:={ s with heap:=h',toks:=tk }) (n:="range_iterator") st' rfl rfl (by decide) ⟨.int (lo+i),H,I1,⟨t,?_⟩,⟨rfl,rfl⟩,st',λ b hb=>(hf b hb).1⟩⟩;rw [Int.mul_one]
  done:=by
    intro X hP hw hK hc i pins s σ H E I hf st hg;subst hP hw hK;obtain ⟨f0,f1,f2,f3,f4,f5⟩:=hf it (by simp);exact wpAny_pyNext_range_end (I.ok.hd hc) st (by have:n<=i:=hg;omega) λ h' eb=>⟨rfl,I.turned (t':=s.toks) (λ b o hb e=>eb b o hb e) f0 f1 f3 f4 f5⟩
  self:=λ _ _ _ _ _ st h=>wpAny_pyIter_rangeiter st h
section
variable {X:Cx} {tg:Expr}
def ID (K:PySem.W.Frag) (tl:TE):TI:=λ σ H R=>tl σ H λ x H1=>∃ a,x= .ref a/\(∃ xs,SqL K H1 a xs)/\R (Itl K a) H1
def KZ (K:PySem.W.Frag) (tl:TE):TI:=λ σ H R=>tl σ H λ x H1=>∃ a,x= .ref a/\(∃ xs,SqT K H1 a xs)/\R (Itt K a) H1
theorem JP {l:Expr} {tl:TE} (hl:PE X l tl):PI X tg l (ID X.K tl):=by
  intro pins s σ H R I h;refine thn (hl pins s σ H _ I h) λ v s1 ⟨x,H1,I1,r1,q1⟩=> ?_;obtain ⟨a,e,⟨xs,hq⟩,q⟩:=q1;subst e;cases r1;obtain ⟨its,rv,p,hz⟩:=I1.list hq;refine wpAny_pyIter_list p.isList ?_;refine ⟨s1.heap.objs.size,[s1.heap.objs.size],_,_,H1,rfl,I1.kept (t':=s1.toks) λ b o e=>Heap.get?_push_of_some _ e,ER a _,⟨_,Heap.get?_push_size _ rfl,rfl,rfl⟩,λ b hb=> ?_,q⟩;have e:b=s1.heap.objs.size:=by simpa using hb
  subst e;exact I1.fpOk (Nat.le_refl _) (I1.hok.fresh (Nat.le_refl _))
theorem KI {l:Expr} {tl:TE} (hl:PE X l tl):PI X tg l (KZ X.K tl):=by
  intro pins s σ H R I h;refine thn (hl pins s σ H _ I h) λ v s1 ⟨x,H1,I1,r1,q1⟩=> ?_;obtain ⟨a,e,⟨xs,hq⟩,q⟩:=q1;subst e;cases r1;obtain ⟨its,rv,p,hz⟩:=I1.tuple hq;refine wpAny_pyIter_tuple (show s1.heap.IsTuple a its.toArray from p) ?_;refine ⟨s1.heap.objs.size,[s1.heap.objs.size],_,_,H1,rfl,I1.kept (t':=s1.toks) λ b o e=>Heap.get?_push_of_some _ e,Ea a _,⟨_,Heap.get?_push_size _ rfl,rfl,rfl⟩,λ b hb=> ?_,q⟩;have e:b=s1.heap.objs.size:=by simpa using hb
  subst e;exact I1.fpOk (Nat.le_refl _) (I1.hok.fresh (Nat.le_refl _))
theorem IC {pins:List (Addr × Obj)} {σ:St} {H:Hp} {s:Shared} {R:It->Hp->Prop} {E:Value->Shared->Prop} {lo hi:Int} {t u v:Tok} {tk:Nat} (I:Inv X pins σ H s) (h1: -(2 ^ 62)<=lo) (h2:lo<2 ^ 62) (h3: -(2 ^ 62)<=hi) (h4:hi<2 ^ 62)
    (q:R (Itr lo (hi - lo).toNat) H):wpAny (model X.prog X.w) X.A (pyIter (.ref s.heap.objs.size)) (PIE X pins σ tg R) E { s with heap:=s.heap.push { cls:= .type "range",data:= .fields #[.int lo t, .int hi u, .int 1 v] },toks:=tk }:=by
  refine wpAny_pyIter_range (IsRange.new ..) (small_one h1 h2 h3 h4) ?_;have I1:Inv X pins σ H { s with heap:=s.heap.push { cls:= .type "range",data:= .fields #[.int lo t, .int hi u, .int 1 v] },toks:=tk }:=I.kept λ b o e=>Heap.get?_push_of_some _ e;refine ⟨(s.heap.push { cls:= .type "range",data:= .fields #[.int lo t, .int hi u, .int 1 v] }).objs.size,[(s.heap.push { cls:= .type "range",data:= .fields #[.int lo t, .int hi u, .int 1 v] }).objs.size],_,_,H,rfl,
    I1.kept (t':=tk) λ b o e=>Heap.get?_push_of_some _ e,Ga _ lo (hi - lo).toNat,?_,λ b hb=> ?_,q⟩
  · have e1:lo+((0:Nat):Int)*1=lo:=by simp
    have e2:(((hi - lo).toNat:Nat):Int) - ((0:Nat):Int)=Builtin.Range.rangeSize lo hi 1:=by rw [rangeSize_one];split <;> omega
    show IsRangeIter _ _ (lo+((0:Nat):Int)*1) ((((hi - lo).toNat:Nat):Int) - ((0:Nat):Int)) 1;rw [e1,e2];exact Heap.get?_push_size _ rfl
  · have e:b=(s.heap.push { cls:= .type "range",data:= .fields #[.int lo t, .int hi u, .int 1 v] }).objs.size:=by simpa using hb
    subst e;exact I1.fpOk (Nat.le_refl _) (I1.hok.fresh (Nat.le_refl _))
def Kn (ta:TA):TI:=λ σ H R=>ta σ H λ vs H1=>∃ i j:Int,vs=[.int i, .int j]/\(-(2 ^ 62)<=i/\i<2 ^ 62/\ -(2 ^ 62)<=j/\j<2 ^ 62)/\R (Itr i (j - i).toNat) H1
theorem Df {a b:Expr} {ta:TA} {p pos:Pos} (hg:Gl X "range") (hm:X.mg "range"=none) (ha:PA X [a,b] ta) (hs:starEach [a,b] X.env=[(false,eval a X.env),(false,eval b X.env)]:=by rfl) (hs2:starEach [b] X.env=[(false,eval b X.env)]:=by rfl):
    PI X tg (.Call (.Name "range" p) [a,b] [] pos) (Kn ta):=by
  intro pins s σ H R I h;refine Call_ (Da I hg hm boot_range (PyProof.Rows.callWith_type1 (thn (ha pos pins s σ H _ I h) λ us s1 ⟨vs,H1,I1,r1,q1⟩=> ?_) (by rw [hs,hs2]) (by rw [hs2];rfl)));obtain ⟨i,j,e,⟨q1,q2,q3,q4⟩,q⟩:=q1;subst e;cases r1 with
  | cons r rr=>
    cases rr with
    | cons r' rr=>
      cases rr;obtain ⟨t,rfl⟩:=r;obtain ⟨t',rfl⟩:=r';exact call_range_2 (IC I1 q1 q2 q3 q4 q)
def LK (wi:TI) (g:TG) (tb:TS):TS:=λ D σ H=>wi σ H λ J H1=>∃ W:Nat->Nat->St->Hp->Prop,(∃ m,W 0 m σ H1)/\∀ i m σ H,W i m σ H->
  (J.stop i H/\D.nx σ H)\/(J.go i H/\∃ N:St->Hp->Prop,(∀ σ' H',N σ' H'->∃ m',m'<m/\W (i+1) m' σ' H')/\∀ x H',J.yld i H x H'->g x σ H' λ σ2 H2=>tb { D with nx:=N,ct:=N,bk:=D.nx } σ2 H2)
def Ee (fp:List Addr) (h:Heap):List (Addr × Obj):=fp.filterMap λ b=>(h.get? b).map λ o=>(b,o)
theorem BH {fp:List Addr} {h:Heap} {b:Addr} {o:Obj} (hb:b∈fp) (e:h.get? b=some o):(b,o)∈Ee fp h:=List.mem_filterMap.mpr ⟨b,hb,by rw [e];rfl⟩
theorem Hh {fp:List Addr} {h:Heap} {p:Addr × Obj} (hp:p∈Ee fp h):p.1∈fp/\h.get? p.1=some p.2:=by
  obtain ⟨b,hb,e⟩:=List.mem_filterMap.mp hp;cases q:h.get? b with
  | none=>rw [q] at e;cases e
  | some o=>
    rw [q] at e;have e':(b,o)=p:=Option.some.inj e;subst e';exact ⟨hb,q⟩
theorem Inv.pinned {pins:List (Addr × Obj)} {σ:St} {H:Hp} {s:Shared} {fp:List Addr} (I:Inv X pins σ H s) (hf:∀ b∈fp,Cj X pins H b) (ho:∀ b∈fp,∃ o,s.heap.get? b=some o/\∀ v,o.data≠ .cell v):Inv X (pins++Ee fp s.heap) σ H s:=
  I.pins_of λ p hp=>(List.mem_append.mp hp).elim (λ z=>I.pin p (List.mem_append_right _ z)) λ z=>by
    obtain ⟨hb,e⟩:=Hh z;obtain ⟨f0,f1,f2,_⟩:=hf p.1 hb;obtain ⟨o,e',d⟩:=ho p.1 hb;rw [e] at e';cases e';exact ⟨e,f0,f1,f2,d⟩
theorem Inv.unpinned {pins pl:List (Addr × Obj)} {σ:St} {H:Hp} {s:Shared} (I:Inv X (pins++pl) σ H s):Inv X pins σ H s:=I.pins_of λ p hp=>I.pin p (List.mem_append_right _ (List.mem_append_left _ hp))
theorem C5 {iter:Expr} {body:List Stmt} {wi:TI} {g:TG} {tb:TS} {pos:Pos} (hp:PassesOwn (model X.prog X.w) X.A X.env X.xe) (hc:X.calm=true) (hi:PI X tg iter wi) (hg:PG X tg g) (hb:PSs X body tb)
    (hs:∀ x,foldedSetIterable iter X.env x=pure x:=by intro _;rfl):PS X (.For tg iter body [] pos) (LK wi g tb):=by
  intro pins s σ H D I h;refine wpAny_For (thn (hi pins s σ H _ I h) λ v s1 h1=>thn h1 λ itv s2 h2=> ?_) hs;obtain ⟨it,fp,tn,J,H2,e,I2,T,st2,f2,W,⟨m0,w0⟩,turn⟩:=h2;subst e;have stat:∀ {H':Hp},(∀ b∈fp,H' b=none)->∀ b∈fp,Cj X pins H' b:=λ hn b hb=>⟨hn b hb,(f2 b hb).2⟩;refine codeAny_forLoop_any (λ n s'=>∃ i σ' H',Inv X pins σ' H' s'/\tn i s'.heap/\(∀ b∈fp,H' b=none)/\W i n σ' H') ?_ m0 ⟨0,σ,H2,I2,st2,λ b hb=>(f2 b hb).1,w0⟩;rintro n s3 ⟨i,σ3,H3,I3,st3,fr3,w3⟩;rcases turn i n σ3 H3 w3 with ⟨stop,qn⟩ | ⟨go,N,hN,step⟩
  · refine wpAny_passesOwn hp (thn (T.done X rfl rfl rfl hc i pins s3 σ3 H3 X.xe I3 (stat fr3) st3 stop) λ r s4 ⟨hr,I4⟩=> ?_);subst hr;exact wpAny_execs_nil ⟨σ3,H3,I4,qn⟩
  · refine wpAny_passesOwn hp (thn (T.item X rfl rfl rfl hc i pins s3 σ3 H3 X.xe I3 (stat fr3) st3 go) λ r s4 ⟨u,hr,h4⟩=> ?_);subst hr;refine wpAny_passesOwn hp (thn h4 λ _ s5 ⟨x,H5,I5,r5,y5,st5,fr5⟩=> ?_);have I5':=I5.pinned (stat fr5) (T.obj _ _ st5);refine wpAny_passesOwn hp (thn (hg _ s5 σ3 H5 x u _ I5' r5 (step x H5 y5)) λ _ s6 ⟨σ6,H6,I6,q6⟩=> ?_);refine wpAny_passesOwn hp (thn (hb _ s6 σ6 H6 _ I6 q6) λ f s7 q7=> ?_);have again:∀ {σ7:St} {H7:Hp},Inv X (pins++Ee fp s5.heap) σ7 H7 s7->N σ7 H7->∃ m,m<n/\∃ i σ' H',Inv X pins σ' H' s7/\tn i s7.heap/\(∀ b∈fp,H' b=none)/\W i m σ' H':=λ {σ7 H7} I7 n7=>by
      obtain ⟨m',hm,w7⟩:=hN σ7 H7 n7;refine ⟨m',hm,i+1,σ7,H7,I7.unpinned,T.keep _ _ _ st5 λ b hb o e=>(I7.pin (b,o) (List.mem_append_right _ (List.mem_append_right _ (BH hb e)))).1,λ b hb=> ?_,w7⟩;obtain ⟨o,e,d⟩:=T.obj _ _ st5 b hb;exact (I7.pin (b,o) (List.mem_append_right _ (List.mem_append_right _ (BH hb e)))).2.1
    cases f with
    | next=>obtain ⟨σ7,H7,I7,n7⟩:=q7;exact again I7 n7
    | cont=>obtain ⟨σ7,H7,I7,n7⟩:=q7;exact again I7 n7
    | brk=>obtain ⟨σ7,H7,I7,q7⟩:=q7;exact ⟨σ7,H7,I7.unpinned,q7⟩
    | ret v=>obtain ⟨x7,σ7,H7,I7,r7,q7⟩:=q7;exact ⟨x7,σ7,H7,I7.unpinned,r7,q7⟩
end
abbrev R2:=V->V->Hp->VK->Prop
def OpR (X:Cx) (f:Value->Value->Sem Value) (r:R2):Prop:=
  ∀ (pins:List (Addr × Obj)) (s:Shared) (σ:St) (H:Hp) (x y:V) (v u:Value) (Q:VK),Inv X pins σ H s->RelV x v->RelV y u->r x y H Q->
    wpAny (model X.prog X.w) X.A (f v u) (EP X pins σ Q) X.xe s
def UnR (X:Cx) (f:Value->Sem Value) (r:V->Hp->VK->Prop):Prop:=
  ∀ (pins:List (Addr × Obj)) (s:Shared) (σ:St) (H:Hp) (x:V) (v:Value) (Q:VK),Inv X pins σ H s->RelV x v->r x H Q->
    wpAny (model X.prog X.w) X.A (f v) (EP X pins σ Q) X.xe s
def Bb (X:Cx) (f:Value) (r:List V->Hp->VK->Prop):Prop:=
  ∀ (pins:List (Addr × Obj)) (s:Shared) (σ:St) (H:Hp) (xs:List V) (us:List Value) (Q:VK),Inv X pins σ H s->Vals xs us->r xs H Q->
    wpAny (model X.prog X.w) X.A (call f us) (EP X pins σ Q) X.xe s
def NK (X:Cx) (r:V->Hp->(Bool->Hp->Prop)->Prop):Prop:=
  ∀ (pins:List (Addr × Obj)) (s:Shared) (σ:St) (H:Hp) (x:V) (v:Value) (Q:Bool->Hp->Prop),Inv X pins σ H s->RelV x v->r x H Q->
    wpAny (model X.prog X.w) X.A (truthy v) (TP X pins σ Q) X.xe s
def tOp (r:R2) (ta tb:TE):TE:=λ σ H Q=>ta σ H λ x H1=>tb σ H1 λ y H2=>r x y H2 Q
def tUn (r:V->Hp->VK->Prop) (ta:TE):TE:=λ σ H Q=>ta σ H λ x H1=>r x H1 Q
def rI (C:Int->Int->Prop) (g:Int->Int->V):R2:=λ x y H Q=>∃ i j,x= .int i/\y= .int j/\C i j/\Q (g i j) H
def rI0 (g:Int->Int->V):R2:=λ x y H Q=>∃ i j,x= .int i/\y= .int j/\Q (g i j) H
def rU (g:Int->V):V->Hp->VK->Prop:=λ x H Q=>∃ i,x= .int i/\Q (g i) H
section
variable {X:Cx} {a b c:Expr} {ta tb tc:TE} {pos:Pos}
theorem Lc (ha:PE X a ta) (hb:PE X b tb) {pins:List (Addr × Obj)} {s:Shared} {σ:St} {H:Hp} {R:V->V->Hp->Prop} (I:Inv X pins σ H s)
    (h:ta σ H λ x H1=>tb σ H1 λ y H2=>R x y H2) {Q:Value->Shared->Prop} {f:Value->Value->Sem Value}
    (hf:∀ v u s2 x y H2,Inv X pins σ H2 s2->RelV x v->RelV y u->R x y H2->wpAny (model X.prog X.w) X.A (f v u) Q X.xe s2):
    wpAny (model X.prog X.w) X.A (eval a X.env) (λ v s₁=>wpAny (model X.prog X.w) X.A (eval b X.env) (λ u s₂=>wpAny (model X.prog X.w) X.A (f v u) Q X.xe s₂) X.xe s₁) X.xe s:=by
  refine thn (ha pins s σ H _ I h) λ v s1 ⟨x,H1,I1,r1,q1⟩=> ?_;refine thn (hb pins s1 σ H1 _ I1 q1) λ u s2 ⟨y,H2,I2,r2,q2⟩=> ?_;exact hf v u s2 x y H2 I2 r1 r2 q2
theorem Aj {op:Operator} {r:R2} (ho:OpR X (binaryOp op) r) (ha:PE X a ta) (hb:PE X b tb):PE X (.BinOp a op b pos) (tOp r ta tb):=by
  intro pins s σ H Q I h;exact wpAny_BinOp (Lc ha hb I h λ v u s2 x y H2 I2 rx ry q=>ho pins s2 σ H2 x y v u Q I2 rx ry q)
theorem IP {op:UnaryOp} {r:V->Hp->VK->Prop} (ho:UnR X (unaryOp op) r) (ha:PE X a ta):PE X (.UnaryOp op a pos) (tUn r ta):=by
  intro pins s σ H Q I h;exact UnaryOp_ (thn (ha pins s σ H _ I h) λ v s1 ⟨x,H1,I1,r1,q1⟩=>ho pins s1 σ H1 x v Q I1 r1 q1)
theorem opI {f:Value->Value->Sem Value} {C:Int->Int->Prop} {g:Int->Int->Int}
    (rule:∀ (i j:Int) (t u:Tok) (s:Shared) (Q:Value->Shared->Prop) (E:Value->Shared->Prop),C i j->Q (.int (g i j) s.toks) { s with toks:=s.toks+1 }->wpAny (model X.prog X.w) X.A (f (.int i t) (.int j u)) Q E s):
    OpR X f (rI C λ i j=> .int (g i j)):=by
  intro pins s σ H x y v u Q I rx ry h;obtain ⟨i,j,rfl,rfl,hc,q⟩:=h;obtain ⟨t,rfl⟩:=rx;obtain ⟨t',rfl⟩:=ry;exact rule i j t t' s _ _ hc ⟨.int (g i j),H,I.tok _,⟨_,rfl⟩,q⟩
theorem Ik {f:Value->Value->Sem Value} {g:Int->Int->Int}
    (rule:∀ (i j:Int) (t u:Tok) (s:Shared) (Q:Value->Shared->Prop) (E:Value->Shared->Prop),Q (.int (g i j) s.toks) { s with toks:=s.toks+1 }->wpAny (model X.prog X.w) X.A (f (.int i t) (.int j u)) Q E s):
    OpR X f (rI0 λ i j=> .int (g i j)):=by
  intro pins s σ H x y v u Q I rx ry h;obtain ⟨i,j,rfl,rfl,q⟩:=h;obtain ⟨t,rfl⟩:=rx;obtain ⟨t',rfl⟩:=ry;exact rule i j t t' s _ _ ⟨.int (g i j),H,I.tok _,⟨_,rfl⟩,q⟩
theorem Md {f:Value->Value->Sem Value} {g:Int->Int->Bool}
    (rule:∀ (i j:Int) (t u:Tok) (s:Shared) (Q:Value->Shared->Prop) (E:Value->Shared->Prop),Q (.bool (g i j)) s->wpAny (model X.prog X.w) X.A (f (.int i t) (.int j u)) Q E s):
    OpR X f (rI0 λ i j=> .bl (g i j)):=by
  intro pins s σ H x y v u Q I rx ry h;obtain ⟨i,j,rfl,rfl,q⟩:=h;obtain ⟨t,rfl⟩:=rx;obtain ⟨t',rfl⟩:=ry;exact rule i j t t' s _ _ ⟨.bl (g i j),H,I,rfl,q⟩
def LP (i j:Int):Prop:=0<=j/\j<=1000000/\i.natAbs<2 ^ 64
def CMul (i j:Int):Prop:=(-(2 ^ 64)<i/\i<2 ^ 64)\/(-(2 ^ 64)<j/\j<2 ^ 64)
theorem CMul.ok {i j:Int} (h:CMul i j):IntMulOk i j:=by
  rcases h with ⟨h1,h2⟩ | ⟨h1,h2⟩
  · exact .of_left (intBits_le_64 h1 h2)
  · exact .of_right (intBits_le_64 h1 h2)
theorem AG:OpR X (binaryOp .Add) (rI0 λ i j=> .int (i+j)):=Ik λ _ _ _ _ _ _ _ q=>add_int q
theorem BD:OpR X (binaryOp .Sub) (rI0 λ i j=> .int (i - j)):=Ik λ _ _ _ _ _ _ _ q=>sub_int q
theorem Eo:OpR X (binaryOp .Mult) (rI CMul λ i j=> .int (i*j)):=opI λ _ _ _ _ _ _ _ hc q=>mul_int q hc.ok
theorem AD:OpR X (binaryOp .Mod) (rI (λ _ j=>0<j) λ i j=> .int (i%j)):=opI λ i j _ _ _ _ _ hc q=>by
  have h1:(0:Int)<j:=hc;exact mod_int' (by omega) (by rw [Int.fmod_eq_emod_of_nonneg i (by omega)];exact q)
theorem Gg:OpR X (binaryOp .Pow) (rI LP λ i j=> .int (i ^ j.toNat)):=opI λ _ _ _ _ _ _ _ hc q=>pow_int_small hc.1 hc.2.1 hc.2.2 q
theorem B4:OpR X (binaryOp .LShift) (rI LP λ i j=> .int (i*2 ^ j.toNat)):=opI λ _ _ _ _ _ _ _ hc q=>lshift_int_small hc.1 hc.2.1 hc.2.2 q
theorem Lh:OpR X (binaryOp .BitAnd) (rI0 λ i j=> .int (Builtin.bitAnd i j)):=Ik λ _ _ _ _ _ _ _ q=>and_int q
theorem Li:OpR X (binaryOp .BitXor) (rI0 λ i j=> .int (Builtin.bitXor i j)):=Ik λ _ _ _ _ _ _ _ q=>xor_int q
theorem K8:OpR X (inplaceOp .BitOr) (rI0 λ i j=> .int (Builtin.bitOr i j)):=Ik λ _ _ _ _ _ _ _ q=>ior_int q
theorem unI {f:Value->Sem Value} {g:Int->Int}
    (rule:∀ (i:Int) (t:Tok) (s:Shared) (Q:Value->Shared->Prop) (E:Value->Shared->Prop),Q (.int (g i) s.toks) { s with toks:=s.toks+1 }->wpAny (model X.prog X.w) X.A (f (.int i t)) Q E s):
    UnR X f (rU λ i=> .int (g i)):=by
  intro pins s σ H x v Q I rx h;obtain ⟨i,rfl,q⟩:=h;obtain ⟨t,rfl⟩:=rx;exact rule i t s _ _ ⟨.int (g i),H,I.tok _,⟨_,rfl⟩,q⟩
theorem Gs:UnR X (unaryOp .USub) (rU λ i=> .int (-i)):=unI λ _ _ _ _ _ q=>neg_int q
end
def Mq:V->V->Bool
  | .non, .non=>true | .non, .int _=>true | .int _, .non=>true | .non, .bl _=>true | .bl _, .non=>true | .non, .str _=>true | .str _, .non=>true
  | .int _, .int _=>true | .bl _, .bl _=>true | .str _, .str _=>true | .byt _, .byt _=>true
  | .int _, .str _=>true | .str _, .int _=>true | .bl _, .str _=>true | .str _, .bl _=>true
  | _,_=>false
def rEq:R2:=λ x y H Q=>Mq x y=true/\Q (.bl (decide (x=y))) H
def rNe:R2:=λ x y H Q=>Mq x y=true/\Q (.bl (!decide (x=y))) H
theorem GM {i j:Int}:decide (V.int i=V.int j)=(i == j):=by
  rw [Bool.eq_iff_iff];simp
theorem HL {i j:Bool}:decide (V.bl i=V.bl j)=(i == j):=by
  rw [Bool.eq_iff_iff];simp
theorem GA {i j:Str}:decide (V.str i=V.str j)=(i == j):=by
  rw [Bool.eq_iff_iff];simp
theorem GW {i j:Array UInt8}:decide (V.byt i=V.byt j)=(i.toList == j.toList):=by
  rw [Bool.eq_iff_iff];cases i;cases j;simp
section
variable {X:Cx} {a b c:Expr} {ta tb tc:TE} {pos:Pos}
theorem Ao {pins:List (Addr × Obj)} {σ:St} {H:Hp} {s:Shared} {Q:VK} {k k':Bool} (I:Inv X pins σ H s) (q:Q (.bl k) H) (e:k=k'):EP X pins σ Q (.bool k') s:=by
  subst e;exact ⟨.bl k,H,I,rfl,q⟩
theorem FS:OpR X (compareOp .Eq) rEq:=by
  intro pins s σ H x y v u Q I rx ry h;obtain ⟨hs,q⟩:=h;cases x with
  | non=>
    cases rx;cases y with
    | non=>cases ry;exact PySem.EqNone.eq_none_none (Ao I q (by simp))
    | bl j=>cases ry;exact PySem.EqNone.eq_none_bool (Ao I q (by simp))
    | int j=>obtain ⟨t',rfl⟩:=ry;exact PySem.EqNone.eq_none_int (Ao I q (by simp))
    | str j=>obtain ⟨t',rfl⟩:=ry;exact PySem.EqNone.eq_none_str (Ao I q (by simp))
    | _=>exact absurd (show false=true from hs) Bool.false_ne_true
  | bl i=>
    cases rx;cases y with
    | non=>cases ry;exact PySem.EqNone.eq_bool_none (Ao I q (by simp))
    | bl j=>cases ry;exact eq_bool (Ao I q HL)
    | str j=>obtain ⟨t',rfl⟩:=ry;exact PySem.EqMixed.eq_bool_str (Ao I q (by simp))
    | _=>exact absurd (show false=true from hs) Bool.false_ne_true
  | int i=>
    obtain ⟨t,rfl⟩:=rx;cases y with
    | non=>cases ry;exact PySem.EqNone.eq_int_none (Ao I q (by simp))
    | int j=>obtain ⟨t',rfl⟩:=ry;exact eq_int (Ao I q GM)
    | str j=>obtain ⟨t',rfl⟩:=ry;exact PySem.EqMixed.eq_int_str (Ao I q (by simp))
    | _=>exact absurd (show false=true from hs) Bool.false_ne_true
  | str i=>
    obtain ⟨t,rfl⟩:=rx;cases y with
    | non=>cases ry;exact PySem.EqNone.eq_str_none (Ao I q (by simp))
    | bl j=>cases ry;exact PySem.EqMixed.eq_str_bool (Ao I q (by simp))
    | int j=>obtain ⟨t',rfl⟩:=ry;exact PySem.EqMixed.eq_str_int (Ao I q (by simp))
    | str j=>obtain ⟨t',rfl⟩:=ry;exact eq_str (Ao I q GA)
    | _=>exact absurd (show false=true from hs) Bool.false_ne_true
  | byt i=>
    obtain ⟨t,rfl⟩:=rx;cases y with
    | byt j=>obtain ⟨t',rfl⟩:=ry;exact PySem.W.eq_bytes (Ao I q GW)
    | _=>exact absurd (show false=true from hs) Bool.false_ne_true
  | _=>cases y <;> exact absurd (show false=true from hs) Bool.false_ne_true
theorem F4:OpR X (compareOp .NotEq) rNe:=by
  intro pins s σ H x y v u Q I rx ry h;obtain ⟨hs,q⟩:=h;cases x with
  | non=>
    cases rx;cases y with
    | non=>cases ry;exact PySem.EqNone.ne_none_none (Ao I q (by simp))
    | bl j=>cases ry;exact PySem.EqNone.ne_none_bool (Ao I q (by simp))
    | int j=>obtain ⟨t',rfl⟩:=ry;exact PySem.EqNone.ne_none_int (Ao I q (by simp))
    | str j=>obtain ⟨t',rfl⟩:=ry;exact PySem.EqNone.ne_none_str (Ao I q (by simp))
    | _=>exact absurd (show false=true from hs) Bool.false_ne_true
  | bl i=>
    cases rx;cases y with
    | non=>cases ry;exact PySem.EqNone.ne_bool_none (Ao I q (by simp))
    | bl j=>cases ry;exact ne_bool (Ao I q (congrArg not HL))
    | str j=>obtain ⟨t',rfl⟩:=ry;exact PySem.EqMixed.ne_bool_str (Ao I q (by simp))
    | _=>exact absurd (show false=true from hs) Bool.false_ne_true
  | int i=>
    obtain ⟨t,rfl⟩:=rx;cases y with
    | non=>cases ry;exact PySem.EqNone.ne_int_none (Ao I q (by simp))
    | int j=>obtain ⟨t',rfl⟩:=ry;exact ne_int (Ao I q (congrArg not GM))
    | str j=>obtain ⟨t',rfl⟩:=ry;exact PySem.EqMixed.ne_int_str (Ao I q (by simp))
    | _=>exact absurd (show false=true from hs) Bool.false_ne_true
  | str i=>
    obtain ⟨t,rfl⟩:=rx;cases y with
    | non=>cases ry;exact PySem.EqNone.ne_str_none (Ao I q (by simp))
    | bl j=>cases ry;exact PySem.EqMixed.ne_str_bool (Ao I q (by simp))
    | int j=>obtain ⟨t',rfl⟩:=ry;exact PySem.EqMixed.ne_str_int (Ao I q (by simp))
    | str j=>obtain ⟨t',rfl⟩:=ry;exact ne_str (Ao I q (congrArg not GA))
    | _=>exact absurd (show false=true from hs) Bool.false_ne_true
  | byt i=>
    obtain ⟨t,rfl⟩:=rx;cases y with
    | byt j=>obtain ⟨t',rfl⟩:=ry;exact PySem.W.ne_bytes (Ao I q (congrArg not GW))
    | _=>exact absurd (show false=true from hs) Bool.false_ne_true
  | _=>cases y <;> exact absurd (show false=true from hs) Bool.false_ne_true
theorem Mi:OpR X (compareOp .Lt) (rI0 λ i j=> .bl (decide (i<j))):=Md λ _ _ _ _ _ _ _ q=>lt_int q
theorem Kh:OpR X (compareOp .LtE) (rI0 λ i j=> .bl (decide (i<=j))):=Md λ _ _ _ _ _ _ _ q=>le_int q
theorem AU (b:Expr) {op:CmpOp} (h:op≠ .In:=by decide) (h2:op≠ .NotIn:=by decide):behindInMarks op b=false:=by
  have e1:(op == CmpOp.In)=false:=by cases op <;> first | rfl | exact absurd rfl h
  have e2:(op == CmpOp.NotIn)=false:=by cases op <;> first | rfl | exact absurd rfl h2
  cases b <;> simp [behindInMarks,e1,e2]
theorem DC {op:CmpOp} {r:R2} (ho:OpR X (compareOp op) r) (ha:PE X a ta) (hb:PE X b tb) (hm:behindInMarks op b=false):PE X (.Compare a [op] [b] pos) (tOp r ta tb):=by
  intro pins s σ H Q I h;exact wpAny_Compare1 (Lc ha hb I h λ v u s2 x y H2 I2 rx ry q=>ho pins s2 σ H2 x y v u Q I2 rx ry q) hm
def Ka (t:TE):TT:=λ σ H Q=>t σ H λ x H'=>∃ k,x= .bl k/\Q k H'
theorem A2 {op:CmpOp} {r:R2} (ho:OpR X (compareOp op) r) (ha:PE X a ta) (hb:PE X b tb) (hm:behindInMarks op b=false):PT X (.Compare a [op] [b] pos) (Ka (tOp r ta tb)):=by
  intro pins s σ H Q I h;refine wpAny_isTrue_Compare1 (thn (ha pins s σ H _ I h) λ v s1 ⟨x,H1,I1,r1,q1⟩=>thn (hb pins s1 σ H1 _ I1 q1) λ u s2 ⟨y,H2,I2,r2,q2⟩=>
    thn (ho pins s2 σ H2 x y v u _ I2 r1 r2 q2) λ c s3 ⟨z,H3,I3,r3,k,e,q3⟩=> ?_) hm
  subst e;cases r3;exact wpAny_truthy_bool ⟨H3,I3,q3⟩
def HN (r r':R2) (ta tb tc:TE):TE:=λ σ H Q=>ta σ H λ x H1=>tb σ H1 λ y H2=>r x y H2 λ z H3=>∃ k,z= .bl k/\
  (if k=true then tc σ H3 λ w' H4=>r' y w' H4 Q else Q (.bl false) H3)
theorem IZ {op op':CmpOp} {r r':R2} (ho:OpR X (compareOp op) r) (ho':OpR X (compareOp op') r') (ha:PE X a ta) (hb:PE X b tb) (hc:PE X c tc)
    (hm:lastMarks [op,op'] [b,c]=false:=by with_unfolding_all rfl):PE X (.Compare a [op,op'] [b,c] pos) (HN r r' ta tb tc):=by
  intro pins s σ H Q I h;refine Compare_chain (thn (ha pins s σ H _ I h) λ v s1 ⟨x,H1,I1,r1,q1⟩=>chain_link (thn (hb pins s1 σ H1 _ I1 q1) λ u s2 ⟨y,H2,I2,r2,q2⟩=>
    thn (ho pins s2 σ H2 x y v u _ I2 r1 r2 q2) λ d s3 ⟨z,H3,I3,r3,k,e,q3⟩=> ?_)) hm
  subst e;cases r3;refine wpAny_truthy_bool ?_;cases k with
  | false=>exact ite_ff ⟨.bl false,H3,I3,rfl,q3⟩
  | true=>exact ite_tt (chain_last (thn (hc pins s3 σ H3 _ I3 q3) λ w' s4 ⟨z',H4,I4,r4,q4⟩=>ho' pins s4 σ H4 y z' u w' Q I4 r2 r4 q4))
def NT (K:PySem.W.Frag) (x:V) (H:Hp) (k:Bool):Prop:=
  match x with
  | .non=>k=false
  | .bl b=>k=b
  | .int i=>k=(i != 0)
  | .str y=>y.length<=sizeLine/\k=((y.length:Int) != 0)
  | .byt y=>y.size<=sizeLine/\k=((y.size:Int) != 0)
  | .ref p=>(∃ xs,SqL K H p xs/\k= !xs.isEmpty)\/(∃ xs,SqT K H p xs/\k= !xs.isEmpty)\/∃ kvs,H p=some (.dK kvs)/\k= !kvs.isEmpty
  | _=>False
theorem Gm {κ:Type} {kvs:List (κ × V)} {vs:List (κ × Value)} (r:KV kvs vs):(!vs.isEmpty)= !kvs.isEmpty:=by
  cases r <;> rfl
theorem DW {xs:List V} {its:List Value} (r:Vals xs its):(!its.toArray.isEmpty)= !xs.isEmpty:=by
  cases r <;> simp
theorem Fb:(sizeLine:Nat)<2 ^ 63:=by rw [sizeLine_eq];decide
theorem MS:NK X (λ x H Q=>∃ k,NT X.K x H k/\Q k H):=by
  intro pins s σ H x v Q I rx h;obtain ⟨k,e,q⟩:=h;have hl:=Fb;have hs:sizeLine=16777216:=sizeLine_eq;cases x with
  | non=>
    cases rx;have e':k=false:=e;subst e';exact truthy_none ⟨H,I,q⟩
  | bl b=>
    cases rx;have e':k=b:=e;subst e';exact wpAny_truthy_bool ⟨H,I,q⟩
  | int i=>
    obtain ⟨t,rfl⟩:=rx;have e':k=(i != 0):=e;subst e';exact PySem.P.truthy_int ⟨H,I,q⟩
  | str y=>
    obtain ⟨t,rfl⟩:=rx;obtain ⟨hy,e'⟩:y.length<=sizeLine/\k=((y.length:Int) != 0):=e;subst e';exact PySem.P.truthy_str (by omega) ⟨H,I.tok _,q⟩
  | byt y=>
    obtain ⟨t,rfl⟩:=rx;obtain ⟨hy,e'⟩:y.size<=sizeLine/\k=((y.size:Int) != 0):=e;subst e';exact PySem.W.truthy_bytes (by omega) ⟨H,I.tok _,q⟩
  | ref p=>
    cases rx;have e':(∃ xs,SqL X.K H p xs/\k= !xs.isEmpty)\/(∃ xs,SqT X.K H p xs/\k= !xs.isEmpty)\/∃ kvs,H p=some (.dK kvs)/\k= !kvs.isEmpty:=e;rcases e' with ⟨xs,hx,e'⟩ | ⟨xs,hx,e'⟩ | ⟨kvs,hx,e'⟩
    · subst e';obtain ⟨its,r,pl,hz⟩:=I.list hx;have hlen:=r.length;exact wpAny_truthy_list pl.isList (by simp only [List.size_toArray];omega) ⟨H,I.tok _,by rw [DW r];exact q⟩
    · subst e';obtain ⟨its,r,pl,hz⟩:=I.tuple hx;have hlen:=r.length;exact truthy_tuple pl (by simp only [List.size_toArray];omega) ⟨H,I.tok _,by rw [DW r];exact q⟩
    · subst e';obtain ⟨hz,hS,vs,r,m⟩:kvs.length<=sizeLine/\(p == sysModules)=false/\∃ vs,KV kvs vs/\s.heap.DictOf (Fh X.prog X.w) p vs:=I.hok p _ hx;have hlen:kvs.length=vs.length:=Paired.length r;exact wpAny_truthy_dict hS m (by omega) ⟨H,I.tok _,by rw [Gm r];exact q⟩
  | _=>exact (show False from e).elim
theorem ET {x:V} {us:List Value} (r:Vals [x] us):∃ u,us=[u]/\RelV x u:=by
  cases r with
  | cons r1 r2=>cases r2;exact ⟨_,rfl,r1⟩
theorem Kl {x y:V} {us:List Value} (r:Vals [x,y] us):∃ u w',us=[u,w']/\RelV x u/\RelV y w':=by
  cases r with
  | cons r1 r2=>
    cases r2 with
    | cons r3 r4=>cases r4;exact ⟨_,_,rfl,r1,r3⟩
theorem G3:Bb X (.type "int") (λ xs H Q=>(∃ i,xs=[.int i]/\Q (.int i) H)\/∃ k,xs=[.bl k]/\Q (.int (if k then 1 else 0)) H):=by
  intro pins s σ H xs us Q I r h;rcases h with ⟨i,rfl,q⟩ | ⟨k,rfl,q⟩
  · obtain ⟨u,rfl,t,rfl⟩:=ET r;exact call_int_int ⟨.int i,H,I,⟨_,rfl⟩,q⟩
  · obtain ⟨u,rfl,r1⟩:=ET r;cases r1;exact call_int_bool ⟨.int (if k then 1 else 0),H,I.tok _,⟨_,rfl⟩,q⟩
def LM (K:PySem.W.Frag) (x:V) (H:Hp) (n:Nat):Prop:=
  match x with
  | .str y=>y.length<=sizeLine/\n=y.length
  | .byt y=>y.size<=sizeLine/\n=y.size
  | .ref p=>(∃ xs,SqL K H p xs/\n=xs.length)\/∃ xs,SqT K H p xs/\n=xs.length
  | _=>False
theorem Hz:Bb X (.builtin "len") (λ xs H Q=>∃ x n,xs=[x]/\LM X.K x H n/\Q (.int n) H):=by
  intro pins s σ H xs us Q I r h;obtain ⟨x,n,rfl,e,q⟩:=h;obtain ⟨u,rfl,rx⟩:=ET r;have hl:=Fb;have hs:sizeLine=16777216:=sizeLine_eq;cases x with
  | str y=>
    obtain ⟨t,rfl⟩:=rx;obtain ⟨hy,e'⟩:y.length<=sizeLine/\n=y.length:=e;subst e';exact len_str (by omega) ⟨.int _,H,I.tok _,⟨_,rfl⟩,q⟩
  | byt y=>
    obtain ⟨t,rfl⟩:=rx;obtain ⟨hy,e'⟩:y.size<=sizeLine/\n=y.size:=e;subst e';exact PySem.W.len_bytes (by omega) ⟨.int _,H,I.tok _,⟨_,rfl⟩,q⟩
  | ref p=>
    cases rx;have e':(∃ xs,SqL X.K H p xs/\n=xs.length)\/∃ xs,SqT X.K H p xs/\n=xs.length:=e;rcases e' with ⟨xs,hx,e'⟩ | ⟨xs,hx,e'⟩
    · subst e';obtain ⟨its,r',pl,hz⟩:=I.list hx;have hlen:=r'.length;exact Calls.call_len_list pl.isList (by simp only [List.size_toArray];omega) ⟨.int xs.length,H,I.tok _,⟨_,by simp only [List.size_toArray];rw [hlen]⟩,q⟩
    · subst e';obtain ⟨its,r',pl,hz⟩:=I.tuple hx;have hlen:=r'.length;exact len_tuple pl (by simp only [List.size_toArray];omega) ⟨.int xs.length,H,I.tok _,⟨_,by simp only [List.size_toArray];rw [hlen]⟩,q⟩
  | _=>exact (show False from e).elim
end
structure ObjM (h:Heap) (x dx C:Addr) (mA:Str->Option Value):Prop where
  obj:h.get? x=some (PySem.W.instObj C dx)
  ns:h.Ns1 dx mA
  ne:dx≠x
theorem Hm {h:Heap} {dx:Addr} {mA:Str->Option Value} (n:h.Ns1 dx mA):∃ od,h.get? dx=some od/\∀ name,PySem.W.lookIn name od=some (mA name):=by
  obtain ⟨o,es,ep,ho,hd,hk,_,hm⟩:=n;refine ⟨o,ho,λ name=> ?_⟩;have e:=hm name;unfold nsFind findBy at e;rw [<-Array.find?_toList] at e;unfold PySem.W.lookIn;rw [hd];dsimp only;split
  · rename_i y q
    rw [q] at e;exact congrArg some e
  · rename_i q
    rw [q] at e;have a:es.toList.any (·.refKey)=false:=by
      rw [List.any_eq_false];intro y hy;obtain ⟨z,t,hkey⟩:=hk y (Array.mem_toList_iff.mp hy);simp [DictEntry.refKey,hkey]
    have a':¬ es.toList.any (·.refKey)=true:=by rw [a];exact Bool.false_ne_true
    rw [if_neg a'];exact congrArg some e
theorem ObjM.look {h:Heap} {x dx C:Addr} {mA:Str->Option Value} (I:ObjM h x dx C mA):∃ od,PySem.W.InstAt h x (PySem.W.instObj C dx) C (some od)/\∀ name,PySem.W.lookIn name od=some (mA name):=
  let ⟨od,ho,hl⟩:=Hm I.ns
  ⟨od,⟨I.obj,rfl,rfl,ho⟩,hl⟩
section
variable {prog:Program} {w:World} {A:Around} {E:Value->Shared->Prop} {s:Shared} {K:PySem.W.Frag} {x dx C f:Addr} {mA:Str->Option Value} {name:Str} {v:Value}
theorem Jq {expr:Bool} {Q:Value->Shared->Prop} (X:K.In s.heap) (I:ObjM s.heap x dx C mA) (hg:PySem.W.plainGet K C name=true) (hh:PySem.W.hasDictIn K C=true)
    (ha:PySem.W.findIn K (.ref C) name=some none) (hv:mA name=some v) (hv':PySem.W.handedIn v=true) (h:Q v { s with toks:=s.toks+1 }):
    wpAny (model prog w) A (getAttr (.ref x) name expr) Q E s:=by
  obtain ⟨od,J,hl⟩:=I.look;exact PySem.W.get_value X J (PySem.W.plainGet_of hg).1 (PySem.W.findObj_own hh ha rfl (by rw [hl,hv])) hv' h
theorem HI {pl:Sem Bool} {Q:Value × List Value->Shared->Prop} (X:K.In s.heap) (I:ObjM s.heap x dx C mA) (hg:PySem.W.plainGet K C name=true)
    (hf:PySem.W.findIn K (.ref C) name=some (some (.ref f))) (ht:PySem.W.isFn K (.ref f)=true) (hv:mA name=none) (h:Q (.ref f,[.ref x]) s):
    wpAny (model prog w) A (getMethod (.ref x) name pl) Q E s:=by
  obtain ⟨od,J,hl⟩:=I.look;exact PySem.W.method_fn X J (PySem.W.plainGet_of hg).1 (PySem.W.plainGet_of hg).2 hf (beq_iff_eq.mp ht) (by show (PySem.W.lookIn name od).map (·.isSome)=some false;rw [hl,hv];rfl) h
theorem Jk {ns:List Str} {Q:Unit->Shared->Prop} (X:K.In s.heap) (I:ObjM s.heap x dx C mA)
    (hs:PySem.W.findIn K (.ref C) "__setattr__"=some (some (.builtin "object.__setattr__"))) (hp:PySem.W.plainOver K C=true) (ht:PySem.W.takerIn K C name=some none) (hh:PySem.W.hasDictIn K C=true)
    (hw:PySem.Within mA ns) (hsz:ns.length<=sizeLine)
    (h:∀ h',ObjM h' x dx C (λ y=>if y=name then some v else mA y)->Heap.SameBut dx s.heap h'->Q () { s with heap:=h',toks:=s.toks+2 }):
    wpAny (model prog w) A (setAttr (.ref x) name v) Q E s:=by
  obtain ⟨od,J,hl⟩:=I.look;refine PySem.W.set_plain X J hs (PySem.W.osa_open (s:={ s with toks:=s.toks+1 }) (r:=none) X J hp ht λ b=> ?_);obtain ⟨cd,hc,hd'⟩:=PySem.W.any_some hh;have hx:s.heap.get? x=some ⟨.ref C,some dx, .plain, #[]⟩:=I.obj;refine wpAny_bind (wpAny_pure (wpAny_bind (wpAny_bind (wpAny_loadPart hx (wpAny_bind (PySem.W.Looks.here (s:={ s with toks:=s.toks+1 }) (PySem.W.looks_clsIn X hc) ?_))))));rw [hd'];refine wpAny_pure (a:=some dx) (wpAny_bind (wpAny_pure (wpAny_bind ?_)));refine wpAny_nsSet1 (s:={ s with toks:=s.toks+1 }) I.ns λ h' hn2 hs2=> ?_;obtain ⟨oD,esD,epD,hoD,hdD,hcD⟩:=hn2.count (PySem.Within.cons name v hw);refine wpAny_bind (wpAny_lookBehind hoD (by rw [hdD];exact pastItsLine_dict (Nat.le_trans hcD (by rw [List.length_cons];omega))) ?_);exact wpAny_pure (h _ ⟨(hs2.2 _ (Ne.symm I.ne)).trans I.obj,hn2,I.ne⟩ hs2)
theorem II {R:Result->Shared->Prop} {vs:List Value} {kw:List (Str × Value)} (X:K.In s.heap) (hm:PySem.W.makesIn K C=true)
    (hi:PySem.W.findIn K (.ref C) "__init__"=some (some (.ref f))) (hf:PySem.W.typeIn K (.ref f)=some (.type "function"))
    (h:codeAny (model prog w) (A.under (.builtin "type.__call__" ⟨.ref C::vs,kw⟩)) (.call (.ref f) ⟨.ref (s.heap.objs.size+1)::vs,kw⟩) (PySem.W.InitBack (s.heap.objs.size+1) R)
      { s with heap:=(s.heap.push PySem.W.emptyDict).push (PySem.W.instObj C s.heap.objs.size) }):
    codeAny (model prog w) A (.call (.ref C) ⟨vs,kw⟩) R s:=by
  obtain ⟨hh,g,d,t,os⟩:=s;exact PySem.W.make_core (PySem.W.makes_of X hm) (PySem.W.looks_findIn X hi) (λ self=>PySem.W.bind_fn X self hf) (.inl rfl) h
end
def BB (f:Str) (v:V):List (Str × V)->List (Str × V)
  | []=>[(f,v)]
  | (g,x)::r=>if g=f then (g,v)::r else (g,x)::BB f v r
theorem Du (f g:Str) (v:V):∀ fs:List (Str × V),(BB f v fs).lookup g=if g=f then some v else fs.lookup g
  | []=>by
    show List.lookup g [(f,v)]=_;by_cases h:g=f
    · have hb:(g == f)=true:=beq_iff_eq.mpr h;simp only [List.lookup,hb,if_pos h]
    · have hb:(g == f)=false:=beq_eq_false_iff_ne.mpr h;simp only [List.lookup,hb,if_neg h]
  | (k,x)::r=>by
    have ih:=Du f g v r;rw [show BB f v ((k,x)::r)=(if k=f then (k,v)::r else (k,x)::BB f v r) from rfl];by_cases hk:k=f
    · rw [if_pos hk];by_cases h:g=k
      · have hb:(g == k)=true:=beq_iff_eq.mpr h;simp only [List.lookup,hb,if_pos (h.trans hk)]
      · have hb:(g == k)=false:=beq_eq_false_iff_ne.mpr h;simp only [List.lookup,hb,if_neg (λ e:g=f=>h (e.trans hk.symm))]
    · rw [if_neg hk];by_cases h:g=k
      · have hb:(g == k)=true:=beq_iff_eq.mpr h;simp only [List.lookup,hb,if_neg (λ e:g=f=>hk (h.symm.trans e))]
      · have hb:(g == k)=false:=beq_eq_false_iff_ne.mpr h;simp only [List.lookup,hb];exact ih
theorem Dg (f:Str) (v:V):∀ fs:List (Str × V),f∈(BB f v fs).map (·.1)/\∀ g,g∈fs.map (·.1)->g∈(BB f v fs).map (·.1)
  | []=>⟨by simp [BB],λ g h=>by simp at h⟩
  | (k,x)::r=>by
    obtain ⟨i1,i2⟩:=Dg f v r;rw [show BB f v ((k,x)::r)=(if k=f then (k,v)::r else (k,x)::BB f v r) from rfl];by_cases hk:k=f
    · rw [if_pos hk];subst hk;exact ⟨by simp,λ g h=>by simpa using h⟩
    · rw [if_neg hk];refine ⟨?_,λ g h=> ?_⟩
      · rw [List.map_cons];exact List.mem_cons_of_mem _ i1
      · rw [List.map_cons] at h ⊢;rcases List.mem_cons.mp h with e | e
        · exact List.mem_cons.mpr (.inl e)
        · exact List.mem_cons_of_mem _ (i2 g e)
theorem Dq (f:Str) (v:V):∀ fs:List (Str × V),(BB f v fs).length<=fs.length+1
  | []=>by simp [BB]
  | (k,x)::r=>by
    have ih:=Dq f v r;rw [show BB f v ((k,x)::r)=(if k=f then (k,v)::r else (k,x)::BB f v r) from rfl];by_cases hk:k=f
    · rw [if_pos hk,List.length_cons,List.length_cons];omega
    · rw [if_neg hk,List.length_cons,List.length_cons];omega
theorem RelO.some_of {v:V} {o:Option Value} (r:RelO (some v) o):∃ u,o=some u/\RelV v u:=by
  cases o with
  | none=>exact (show False from r).elim
  | some u=>exact ⟨u,rfl,r⟩
theorem RelO.none_of {o:Option Value} (r:RelO none o):o=none:=by
  cases o with
  | none=>rfl
  | some u=>exact (show False from r).elim
theorem Hl {v:V} {u:Value} (r:RelV v u):PySem.W.handedIn u=true:=by
  cases v with
  | non=>cases (show u=Value.none from r);rfl
  | bl b=>cases (show u=Value.bool b from r);rfl
  | int i=>obtain ⟨t,e⟩:=(show ∃ t,u=Value.int i t from r);cases e;rfl
  | str x=>obtain ⟨t,e⟩:=(show ∃ t,u=Value.str x t from r);cases e;rfl
  | byt b=>obtain ⟨t,e⟩:=(show ∃ t,u=Value.bytes b t from r);cases e;rfl
  | flt b=>obtain ⟨t,e⟩:=(show ∃ t,u=Value.float b t from r);cases e;rfl
  | ref a=>cases (show u=Value.ref a from r);rfl
  | ty n=>cases (show u=Value.type n from r);rfl
section
variable {P:Program} {w:World} {H H':Hp} {h h':Heap} {a C dx:Addr} {fs fs':List (Str × V)}
theorem DF (hok:HOk P w H h) (e:H a=some (.ins C dx fs)):∃ mA,ObjM h a dx C mA/\(∀ f,RelO (fs.lookup f) (mA f))/\PySem.Within mA (fs.map (·.1))/\fs.length<=1000/\H dx=some (.own a):=by
  obtain ⟨d,z,ne,ob,mA,n,r,q⟩:=(show ObjOk P w H h a (.ins C dx fs) from hok a _ e);exact ⟨mA,⟨ob,n,ne⟩,r,q,z,d⟩
end
structure Cls (K:PySem.W.Frag) (C:Addr):Prop where
  pg:PySem.W.plainGet K C Str.empty=true
  hd:PySem.W.hasDictIn K C=true
  po:PySem.W.plainOver K C=true
  sa:PySem.W.findIn K (.ref C) "__setattr__"=some (some (.builtin "object.__setattr__"))
theorem Cls.get {K:PySem.W.Frag} {C:Addr} (c:Cls K C) (f:Str):PySem.W.plainGet K C f=true:=c.pg
def NoAttr (K:PySem.W.Frag) (C:Addr) (f:Str):Prop:=PySem.W.findIn K (.ref C) f=some none
theorem NoAttr.taker {K:PySem.W.Frag} {C:Addr} {f:Str} (n:NoAttr K C f):PySem.W.takerIn K C f=some none:=by
  unfold PySem.W.takerIn;rw [show PySem.W.findIn K (.ref C) f=some none from n];rfl
structure Con (K:PySem.W.Frag) (C:Addr) (f:Str) (v:V) (u:Value):Prop where
  at_:PySem.W.findIn K (.ref C) f=some (some u)
  rel:RelV v u
  get:PySem.W.specialIn K u "__get__"=some none
  cp:PySem.W.copiedNames.contains f=false
structure Meth (K:PySem.W.Frag) (C:Addr) (m:Str) (f:Addr):Prop where
  at_:PySem.W.findIn K (.ref C) m=some (some (.ref f))
  fn:PySem.W.isFn K (.ref f)=true
  kp:PySem.W.keepIn K (.ref f)=true
section
variable {X:Cx} {pins:List (Addr × Obj)} {σ:St} {H:Hp} {s:Shared} {a C dx:Addr} {fs:List (Str × V)} {f:Str} {v:V} {A:Around} {E:Value->Shared->Prop}
theorem Gq {b:Bool} {Q:Value->Shared->Prop} (I:Inv X pins σ H s) (e:H a=some (.ins C dx fs)) (c:Cls X.K C) (n:NoAttr X.K C f) (l:fs.lookup f=some v)
    (h:∀ u s',Inv X pins σ H s'->RelV v u->Q u s'):wpAny (model X.prog X.w) A (getAttr (.ref a) f b) Q E s:=by
  obtain ⟨mA,O,r,_,_,_⟩:=DF I.hok e;obtain ⟨u,hu,ru⟩:=RelO.some_of (v:=v) (o:=mA f) (by rw [<-l];exact r f);exact Jq I.kIn O (c.get f) c.hd n hu (Hl ru) (h u _ (I.tok _) ru)
theorem CA {m:Str} {g:Addr} {pl:Sem Bool} {Q:Value × List Value->Shared->Prop} (I:Inv X pins σ H s) (e:H a=some (.ins C dx fs)) (c:Cls X.K C) (k:Meth X.K C m g) (l:fs.lookup m=none)
    (h:Q (.ref g,[.ref a]) s):wpAny (model X.prog X.w) A (getMethod (.ref a) m pl) Q E s:=by
  obtain ⟨mA,O,r,_,_,_⟩:=DF I.hok e;have hn:mA m=none:=RelO.none_of (by rw [<-l];exact r m);exact HI I.kIn O (c.get m) k.at_ k.fn hn h
theorem Gn {y:V} {u:Value} {Q:Unit->Shared->Prop} (I:Inv X pins σ H s) (e:H a=some (.ins C dx fs)) (c:Cls X.K C) (n:NoAttr X.K C f) (hl:fs.length<1000) (ry:RelV y u)
    (h:∀ s',Inv X pins σ (upd H a (.ins C dx (BB f y fs))) s'->Q () s'):wpAny (model X.prog X.w) A (setAttr (.ref a) f u) Q E s:=by
  obtain ⟨mA,O,r,wi,_,ho⟩:=DF I.hok e;have hz:(fs.map (·.1)).length<=sizeLine:=by rw [List.length_map,sizeLine_eq];omega
  refine Jk I.kIn O c.sa c.po n.taker c.hd wi hz λ h' O' sb=>h _ ?_;have hd:∃ o,h'.get? dx=some o:=let ⟨o,_,_,e',_⟩:=O'.ns;⟨o,e'⟩;refine I.write (x:=a) (e:=dx) (by rw [e];exact True.intro) (.inr ho) (λ b q hb z=>(sb.2 b hb).trans z) hd ?_;refine ⟨by rw [Am O.ne];exact ho,?_,O.ne,O'.obj,_,O'.ns,λ g=> ?_,λ g hg=> ?_⟩
  · have:=Dq f y fs;omega
  · show RelO ((BB f y fs).lookup g) (if g=f then some u else mA g);rw [Du];by_cases q:g=f
    · rw [if_pos q,if_pos q];exact ry
    · rw [if_neg q,if_neg q];exact r g
  · by_cases q:g=f
    · rw [q];exact (Dg f y fs).1
    · refine (Dg f y fs).2 g (wi g λ z=>hg ?_);show (if g=f then some u else mA g)=none;rw [if_neg q];exact z
theorem Inv.made (I:Inv X pins σ H s):Inv X pins σ (upd (upd H s.heap.objs.size (.own (s.heap.objs.size+1))) (s.heap.objs.size+1) (.ins C s.heap.objs.size []))
    { s with heap:=(s.heap.push PySem.W.emptyDict).push (PySem.W.instObj C s.heap.objs.size) }:=by
  have e1:(s.heap.push PySem.W.emptyDict).get? s.heap.objs.size=some PySem.W.emptyDict:=Heap.get?_push_size s.heap rfl;have e2:((s.heap.push PySem.W.emptyDict).push (PySem.W.instObj C s.heap.objs.size)).get? (s.heap.objs.size+1)=some (PySem.W.instObj C s.heap.objs.size):=by
    have:=Heap.get?_push_size (s.heap.push PySem.W.emptyDict) (o:=PySem.W.instObj C s.heap.objs.size) rfl
    rwa [Heap.size_push] at this
  have e3:(s.heap.push PySem.W.emptyDict).Ns s.heap.objs.size (λ _=>none):=⟨PySem.W.emptyDict, #[],_,e1,rfl,(λ e he=>absurd he (by simp)),λ _=>rfl⟩;have I1:=I.laid (a:=s.heap.objs.size) (o:= .own (s.heap.objs.size+1)) (h':=s.heap.push PySem.W.emptyDict) (t':=s.toks) (λ b u q=>Heap.get?_push_of_some _ q) (Nat.le_refl _) ⟨_,e1⟩;refine I1.laid (a:=s.heap.objs.size+1) (o:= .ins C s.heap.objs.size []) (t':=s.toks) (λ b u q=>Heap.get?_push_of_some _ q) (Nat.le_of_eq (Heap.size_push _ _)) ?_;have ne:s.heap.objs.size≠s.heap.objs.size+1:=Nat.ne_of_lt (Nat.lt_succ_self _);refine ⟨by rw [Am ne,Ae],Nat.zero_le _,ne,e2,λ _=>none,(Heap.Ns1.of_empty e3).at λ o q=>Heap.get?_push_of_some _ q,λ _=>True.intro,λ y hy=>absurd rfl hy⟩
theorem Jt {prog:Program} {w:World} {env:Env} {e:Expr} {f:Str} {pos:Pos} {s:Shared} {Q:Value->Shared->Prop} (hb:attributeBase e f env (eval e env)=eval e env)
    (h:wpAny (model prog w) A (eval e env) (λ o s₁=>wpAny (model prog w) A (getAttr o f true) Q E s₁) E s):wpAny (model prog w) A (eval (.Attribute e f pos) env) Q E s:=
  Attribute_any_ h (by rw [arm_eval_Attribute,hb])
end
def KR (K:PySem.W.Frag) (ta:TE) (f:Str):TE:=λ σ H Q=>ta σ H λ x H1=>∃ a C dx fs v,x= .ref a/\H1 a=some (.ins C dx fs)/\Cls K C/\NoAttr K C f/\fs.lookup f=some v/\Q v H1
def LI (K:PySem.W.Frag) (ta tv:TE) (f:Str):TS:=λ D σ H=>tv σ H λ y H1=>ta σ H1 λ x H2=>∃ a C dx fs,x= .ref a/\H2 a=some (.ins C dx fs)/\Cls K C/\NoAttr K C f/\fs.length<1000/\
  D.nx σ (upd H2 a (.ins C dx (BB f y fs)))
section
variable {X:Cx} {o e value:Expr} {f:Str} {pos pos' tpos:Pos} {ta tv:TE}
theorem K5 (he:PE X e ta) (hb:attributeBase e f X.env (eval e X.env)=eval e X.env):PE X (.Attribute e f pos) (KR X.K ta f):=by
  intro pins s σ H Q I h;refine Jt hb (thn (he pins s σ H _ I h) λ u s1 ⟨x,H1,I1,rx,a,C,dx,fs,v,ex,ea,c,n,l,q⟩=> ?_);subst ex;obtain rfl:u=Value.ref a:=rx;exact Gq I1 ea c n l λ u' s2 I2 ru=>⟨v,H1,I2,ru,q⟩
theorem Iw (ha:PE X o ta) (hv:PE X value tv) (hs:swapsWith value (some (.Attribute o f pos')) pos.line X.env=pure false):PS X (.Assign [.Attribute o f pos'] value pos) (LI X.K ta tv f):=by
  intro pins s σ H D I h;refine plainObj_wpAny_Assign_Attribute (thn (hv pins s σ H _ I h) λ u s1 ⟨y,H1,I1,ry,q⟩=>thn (ha pins s1 σ H1 _ I1 q) λ ov s2 ⟨x,H2,I2,rx,a,C,dx,fs,ex,ea,c,n,l,q2⟩=> ?_) hs;subst ex;obtain rfl:ov=Value.ref a:=rx;exact Gn I2 ea c n l ry λ s3 I3=>⟨σ,_,I3,q2⟩
theorem J6 {pl:Sem Bool} {m:Str} {apos:Pos} {args:List Expr} {pins:List (Addr × Obj)} {s:Shared} {σ:St} {H:Hp} {Q:Value->Shared->Prop} {te:TE} (he:PE X e te) (I:Inv X pins σ H s)
    (h:te σ H λ x H1=>∃ a C dx fs g,x= .ref a/\H1 a=some (.ins C dx fs)/\Cls X.K C/\Meth X.K C m g/\fs.lookup m=none/\
      ∀ s1,Inv X pins σ H1 s1->wpAny (model X.prog X.w) X.A (callWith pos (.ref g) [.ref a] (backTo pos (starEach args X.env)) (backToKw pos (keywordEach [] X.env))) Q X.xe s1)
    (ht:eval (.Call (.Attribute e m apos) args [] pos) X.env=(do
      let ov <-eval e X.env
      standAt apos.atName
      let (f,first) <-holding [ov] (getMethod ov m pl)
      callWith pos f first (backTo pos (starEach args X.env)) (backToKw pos (keywordEach [] X.env)))):
    wpAny (model X.prog X.w) X.A (eval (.Call (.Attribute e m apos) args [] pos) X.env) Q X.xe s:=by
  refine PySem.W.methodCall_KW (pl:=pl) (thn (he pins s σ H _ I h) λ u s1 ⟨x,H1,I1,rx,a,C,dx,fs,g,ex,ea,c,k,l,q⟩=> ?_) ht;subst ex;obtain rfl:u=Value.ref a:=rx;exact CA I1 ea c k l (q s1 I1)
end
section
variable {X:Cx} {pins:List (Addr × Obj)} {σ:St} {H:Hp} {s:Shared} {A:Around} {E:Value->Shared->Prop} {Q:Value->Shared->Prop} {c:Value} {b:Bool}
inductive TyOf (K:PySem.W.Frag) (H:Hp):V->Value->Prop where
  | non:TyOf K H .non (.type "NoneType")
  | bl (x:Bool):TyOf K H (.bl x) (.type "bool")
  | int (i:Int):TyOf K H (.int i) (.type "int")
  | str (x:Str):TyOf K H (.str x) (.type "str")
  | flt (x:UInt64):TyOf K H (.flt x) (.type "float")
  | lst {a:Addr} {xs:List V} (e:H a=some (.lst xs)):TyOf K H (.ref a) (.type "list")
  | frz {a:Addr} {o:Obj} {xs:List V} (e:H a=some (.frz o (.lst xs))):TyOf K H (.ref a) (.type "list")
  | tup {a:Addr} {xs:List V} (e:H a=some (.tup xs)):TyOf K H (.ref a) (.type "tuple")
  | dK {a:Addr} {kvs:List (Key × V)} (e:H a=some (.dK kvs)):TyOf K H (.ref a) (.type "dict")
  | dT {a:Addr} {kvs:List (List Key × V)} (e:H a=some (.dT kvs)):TyOf K H (.ref a) (.type "dict")
  | ins {a C dx:Addr} {fs:List (Str × V)} (e:H a=some (.ins C dx fs)) (cl:Cls K C) (ha:PySem.W.findIn K (.ref C) "__class__"=some (some (.builtin "object.__class__")))
      (hn:PySem.W.specialIn K (.builtin "object.__class__") "__get__"=some (some (.builtin "getset_descriptor.__get__"))) (htk:PySem.W.takesIn K (.builtin "object.__class__")=some true)
      (hm:PySem.W.mroIn K C (.type "object")=some true):TyOf K H (.ref a) (.ref C)
theorem EO {x:V} {u t:Value} (I:Inv X pins σ H s) (rx:RelV x u) (ty:TyOf X.K H x t) (e:PySem.W.kitOne X.K t c=some b) (h:∀ tk,Q (.bool b) { s with toks:=tk }):
    wpAny (model X.prog X.w) A (call (.builtin "isinstance") [u,c]) Q E s:=by
  cases ty with
  | non=>cases (show u=Value.none from rx);exact PySem.W.kia_one PySem.W.kitx_none I.kIn True.intro e (λ z=>nomatch z) h
  | bl y=>cases (show u=Value.bool y from rx);exact PySem.W.kia_one PySem.W.kitx_bool I.kIn True.intro e (λ z=>nomatch z) h
  | int i=>obtain ⟨t,q⟩:=(show ∃ t,u=Value.int i t from rx);cases q;exact PySem.W.kia_one PySem.W.kitx_int I.kIn True.intro e (λ z=>nomatch z) h
  | str y=>obtain ⟨t,q⟩:=(show ∃ t,u=Value.str y t from rx);cases q;exact PySem.W.kia_one PySem.W.kitx_str I.kIn True.intro e (λ z=>nomatch z) h
  | flt y=>obtain ⟨t,q⟩:=(show ∃ t,u=Value.float y t from rx);cases q;exact PySem.W.kia_one PySem.W.kitx_float I.kIn True.intro e (λ z=>nomatch z) h
  | @lst a xs ea=>
    cases (show u=Value.ref a from rx);obtain ⟨_,_,n,_,h1⟩:=(show ObjOk X.prog X.w H s.heap a (.lst xs) from I.hok a _ ea);exact PySem.W.kia_one PySem.W.kitx_list I.kIn ⟨_,h1,rfl⟩ e (λ z=>nomatch z) h
  | @frz a ob xs ea=>
    cases (show u=Value.ref a from rx);obtain ⟨_,_,_,n,_,h1⟩:=(show ObjOk X.prog X.w H s.heap a (.frz ob (.lst xs)) from I.hok a _ ea);exact PySem.W.kia_one PySem.W.kitx_list I.kIn ⟨_,h1,rfl⟩ e (λ z=>nomatch z) h
  | @tup a xs ea=>
    cases (show u=Value.ref a from rx);obtain ⟨_,_,_,p⟩:=(show ObjOk X.prog X.w H s.heap a (.tup xs) from I.hok a _ ea);obtain ⟨o,h1,h2,_⟩:=p;exact PySem.W.kia_one PySem.W.kitx_tuple I.kIn ⟨o,h1,h2⟩ e (λ z=>nomatch z) h
  | @dK a kvs ea=>
    cases (show u=Value.ref a from rx);obtain ⟨_,_,vs,_,p⟩:=(show ObjOk X.prog X.w H s.heap a (.dK kvs) from I.hok a _ ea);obtain ⟨o,es,ep,h1,h2,_⟩:=p;exact PySem.W.kia_one PySem.W.kitx_dict I.kIn ⟨o,h1,h2.1⟩ e (λ z=>nomatch z) h
  | @dT a kvs ea=>
    cases (show u=Value.ref a from rx);obtain ⟨_,_,xs,_,o,es,ep,h1,h2,_⟩:=(show ObjOk X.prog X.w H s.heap a (.dT kvs) from I.hok a _ ea);exact PySem.W.kia_one PySem.W.kitx_dict I.kIn ⟨o,h1,h2.1⟩ e (λ z=>nomatch z) h
  | @ins a C dx fs ea cl ha hn htk hm=>
    cases (show u=Value.ref a from rx);obtain ⟨mA,O,_⟩:=DF I.hok ea;obtain ⟨od,J,_⟩:=O.look;exact PySem.W.kia_one (PySem.W.kitx_own (cl.get _) cl.hd ha hn htk hm) I.kIn J e (λ z=>nomatch z) h
end
structure Room (k:Nat) (A:Around):Prop where
  hd:A.handled=none
  dp:A.depth+3*k+5<recursionLimit
  un:A.units+16*k+200<cLine
theorem Room.mono {j k:Nat} {A:Around} (r:Room k A) (h:j<=k):Room j A:=⟨r.hd,by have:=r.dp;omega,by have:=r.un;omega⟩
theorem Room.deeper {k:Nat} {A:Around} (r:Room (k+1) A) (env:Env):Room k (A.deeper env):=
  ⟨r.hd,by have:=r.dp;show A.depth+1+3*k+5<_;omega,by have:=r.un;show A.units+3+16*k+200<_;omega⟩
theorem Gb {A:Around} {C:Addr} {us:List Value} {kw:List (Str × Value)}:(A.under (.builtin "type.__call__" ⟨.ref C::us,kw⟩)).depth=A.depth+1:=by
  first | rfl | simp [Around.under,Code.weight,Code.isCreation,Code.isGuard,Code.isCaller,Code.frames,Code.isFrame,guardIds]
theorem Gd {A:Around} {C:Addr} {us:List Value} {kw:List (Str × Value)}:(A.under (.builtin "type.__call__" ⟨.ref C::us,kw⟩)).units=A.units+1:=by
  first | rfl | simp [Around.under,Code.cUnits,Code.frames,Code.isFrame]
theorem Room.make {k:Nat} {A:Around} (r:Room (k+1) A) (C:Addr) (us:List Value) (kw:List (Str × Value)):Room k (A.under (.builtin "type.__call__" ⟨.ref C::us,kw⟩)):=
  ⟨r.hd,by have:=r.dp;rw [Gb];omega,by have:=r.un;rw [Gd];omega⟩
theorem Room.depth {k:Nat} {A:Around} (r:Room k A):A.depth<recursionLimit:=by have:=r.dp;omega
theorem Room.units {k:Nat} {A:Around} (r:Room k A):A.units+64<cLine:=by have:=r.un;omega
theorem Room.units0 {k:Nat} {A:Around} (r:Room k A):A.units<cLine:=by have:=r.un;omega
def JB:TA:=λ _ H Q=>Q [] H
def Km (ta:TE) (tr:TA):TA:=λ σ H Q=>ta σ H λ x H1=>tr σ H1 λ xs H2=>Q (x::xs) H2
section
variable {X:Cx} {e:Expr} {es:List Expr} {te:TE} {t:TA} {pos:Pos}
theorem Ab:PA X [] JB:=λ _ _ _ _ H Q I h=>Calls.spliced_nil ⟨[],H,I, .nil,h⟩
theorem Aa (ha:PE X e te) (hr:PA X es t) (hs:starEach (e::es) X.env=(false,eval e X.env)::starEach es X.env:=by rfl):PA X (e::es) (Km te t):=by
  intro pos pins s σ H Q I h;rw [hs];show wpAny _ _ (spliced ((false,eval e X.env)::backTo pos (starEach es X.env))) _ _ s;refine Calls.spliced_cons (thn (ha pins s σ H _ I h) λ u s1 ⟨x,H1,I1,r1,q1⟩=> ?_);exact thn (hr pos pins s1 σ H1 _ I1 q1) λ us s2 ⟨xs,H2,I2,r2,q2⟩=>⟨x::xs,H2,I2, .cons r1 r2,q2⟩
def Ml (t:TA):TE:=λ σ H Q=>t σ H λ xs H1=>xs.length<=sizeLine/\∀ p,H1 p=none->Q (.ref p) (upd H1 p (.tup xs))
def LZ (t:TA):TE:=λ σ H Q=>t σ H λ xs H1=>xs.length<=sizeLine/\∀ p,H1 p=none->Q (.ref p) (upd H1 p (.lst xs))
theorem HH {x1} (h:PA X es t):PE X (.Tuple es x1 pos) (Ml t):=by
  intro pins s σ H Q I hq;refine wpAny_Tuple_spliced (thn (h pos pins s σ H _ I hq) λ us s1 ⟨xs,H1,I1,r,z,q⟩=>⟨by rw [<-r.length];exact z,?_⟩);have hf:H1 s1.heap.objs.size=none:=I1.hok.fresh (Nat.le_refl _);refine ⟨.ref s1.heap.objs.size,upd H1 s1.heap.objs.size (.tup xs),I1.laid (t':=s1.toks) (λ b u e=>Heap.get?_push_of_some _ e) (Nat.le_refl _) ?_,rfl,q _ hf⟩;exact ⟨z,us,r,⟨_,Heap.get?_push_size _ rfl,rfl,_,rfl⟩⟩
theorem AJ (h:PA X es t):PE X (.List es pos) (LZ t):=by
  intro pins s σ H Q I hq;refine wpAny_List_spliced (thn (h pos pins s σ H _ I hq) λ us s1 ⟨xs,H1,I1,r,z,q⟩=>⟨by rw [<-r.length];exact z,?_⟩);have hf:H1 s1.heap.objs.size=none:=I1.hok.fresh (Nat.le_refl _);refine ⟨.ref s1.heap.objs.size,upd H1 s1.heap.objs.size (.lst xs),I1.laid (t':=s1.toks) (λ b u e=>Heap.get?_push_of_some _ e) (Nat.le_refl _) ?_,rfl,q _ hf⟩;exact ⟨z,us,0,r,Heap.get?_push_size _ rfl⟩
end
abbrev Sp:=List V->Hp->VK->XK->Prop
abbrev CXT:=List Env->Hp->Shared->XK->Value->Shared->Prop
structure Env0 (P:Program) (w:World) (K:PySem.W.Frag) (mg:Str->Option Value) (base:Heap) (A:Around) (outer:List Env) (s:Shared) (H:Hp):Prop where
  frames:A.frames=some outer
  mod:Mod K mg base
  bs:∀ b o,base.get? b=some o->s.heap.get? b=some o/\H b=none
  bsz:base.objs.size<=s.heap.objs.size
  funs:s.heap.FunFrames base outer
  frf:∀ b∈frs outer,H b=none
  hok:HOk P w H s.heap
  bare:AllBare s.gens
def CE (outer:List Env) (P:Program) (w:World) (H:Hp) (s:Shared) (Q:VK) (u:Value) (s':Shared):Prop:=
  ∃ v H',s'.os=s.os/\AllBare s'.gens/\Un (frs outer) [] H H' s.heap s'.heap/\HOk P w H' s'.heap/\RelV v u/\Q v H'
def CR (CX:CXT) (outer:List Env) (P:Program) (w:World) (H:Hp) (s:Shared) (Q:VK) (E:XK) (r:Result) (s':Shared):Prop:=
  match r with
  | .ok (.ret u)=>CE outer P w H s Q u s'
  | .ok _=>False
  | .error e=>CX outer H s E e s'
structure FnOk (P:Program) (w:World) (K:PySem.W.Frag) (mg:Str->Option Value) (base:Heap) (CX:CXT) (k:Nat) (f:Addr) (fd:FuncData) (ps:List Str) (sp:Sp):Prop where
  len:∀ vs H Q E,sp vs H Q E->vs.length=ps.length
  run:∀ (A:Around) (outer:List Env) (s:Shared) (H:Hp) (args:Args) (us:List Value) (vs:List V) (Q:VK) (E:XK),Room k A->Env0 P w K mg base A outer s H->BindsTo s fd args (ps.zip us)->Vals vs us->sp vs H Q E->
    codeAny (model P w) A (.call (.ref f) args) (CR CX outer P w H s Q E) s
theorem Env0.make {P:Program} {w:World} {K:PySem.W.Frag} {mg:Str->Option Value} {base:Heap} {A:Around} {outer:List Env} {s:Shared} {H:Hp} (e:Env0 P w K mg base A outer s H) (C:Addr) (us:List Value) (kw:List (Str × Value)):
    Env0 P w K mg base (A.under (.builtin "type.__call__" ⟨.ref C::us,kw⟩)) outer s H:=⟨by first | exact e.frames | (simpa [Around.under,Code.envs,Code.isFrame,pushEnvs] using e.frames),e.mod,e.bs,e.bsz,e.funs,e.frf,e.hok,e.bare⟩
section
variable {X:Cx} {pins:List (Addr × Obj)} {σ:St} {H:Hp} {s s':Shared}
theorem Inv.env0 (I:Inv X pins σ H s):Env0 X.prog X.w X.K X.mg X.base X.A X.stack s H:=
  ⟨I.ok.frames,I.ok.mod,I.bs,Nat.le_trans I.ok.bsz I.sz,I.stack,I.stkFree,I.hok,I.bare⟩
theorem Inv.after {Q:VK} {u:Value} (I:Inv X pins σ H s) (h:CE X.stack X.prog X.w H s Q u s'):EP X pins σ Q u s':=by
  obtain ⟨v,H',os,bare,un,hok,r,q⟩:=h;obtain ⟨hh,g,d,t,os'⟩:=s';obtain rfl:os'=s.os:=os;exact ⟨v,H',I.call (h':=hh) (g':=g) (d':=d) (t':=t) (ch:=[]) un hok bare (λ b z=>absurd z (by simp)),r,q⟩
end
def FV (sp:Sp) (dvs:List V) (E:XK) (t:TA):TE:=λ σ H Q=>t σ H λ vs H1=>sp (vs++dvs) H1 Q E
def E8 (C:Addr) (m:Str) (sp:Sp) (dvs:List V) (E:XK) (ta:TE) (t:TA):TE:=λ σ H Q=>ta σ H λ x H1=>∃ a dx fs,x= .ref a/\H1 a=some (.ins C dx fs)/\fs.lookup m=none/\
  t σ H1 λ vs H2=>sp (x::(vs++dvs)) H2 Q E
def E3 (C:Addr) (sp:Sp) (dvs:List V) (E:XK) (t:TA):TE:=λ σ H Q=>t σ H λ vs H1=>∀ x dx,H1 x=none->H1 dx=none->dx≠x->
  sp (.ref x::(vs++dvs)) (upd (upd H1 dx (.own x)) x (.ins C dx [])) (λ v H2=>v= .non/\Q (.ref x) H2) E
def Binds (K:PySem.W.Frag) (fd:FuncData) (ps:List Str) (ds:List Value):Prop:=
  ∀ (s:Shared) (us:List Value),K.In s.heap->(us++ds).length=ps.length->BindsTo s fd ⟨us,[]⟩ (ps.zip (us++ds))
theorem Binds.all {K:PySem.W.Frag} {fd:FuncData} {ps:List Str} (h:∀ us:List Value,us.length=ps.length->bindArgs fd ⟨us,[]⟩=pure (ps.zip us)):Binds K fd ps []:=λ s us _ hl=>by
  rw [List.append_nil] at hl ⊢;exact .of_eq (h us hl)
def AQ (CX:CXT) (X:Cx) (E:XK):Prop:=∀ (pins:List (Addr × Obj)) (σ:St) (H:Hp) (s:Shared) (e:Value) (s':Shared),Inv X pins σ H s->CX X.stack H s E e s'->X.xe e s'
section
variable {X:Cx} {CX:CXT} {k:Nat} {f C:Addr} {fd:FuncData} {ps:List Str} {sp:Sp} {dvs:List V} {ds:List Value} {E:XK} {x m:Str} {p pos apos:Pos} {e o:Expr} {es:List Expr} {ta:TE} {t:TA}
theorem F8 {pins:List (Addr × Obj)} {σ:St} {H:Hp} {s:Shared} {Q:VK} {us:List Value} {vs:List V} (F:FnOk X.prog X.w X.K X.mg X.base CX k f fd ps sp) (hr:Room k X.A) (hb:Binds X.K fd ps ds) (hd:Vals dvs ds) (hx:AQ CX X E)
    (I:Inv X pins σ H s) (r:Vals vs us) (h:sp (vs++dvs) H Q E):wpAny (model X.prog X.w) X.A (call (.ref f) us) (EP X pins σ Q) X.xe s:=by
  have r2:Vals (vs++dvs) (us++ds):=r.append hd;have hl:(us++ds).length=ps.length:=by rw [<-r2.length];exact F.len _ _ _ _ h
  refine wpAny_call (codeAny_mono (F.run X.A X.stack s H ⟨us,[]⟩ (us++ds) (vs++dvs) Q E hr I.env0 (hb s us I.kIn hl) r2 h) λ r s' hq=> ?_);cases r with
  | error e=>exact hx pins σ H s e s' I hq
  | ok fl=>
    cases fl with
    | ret u=>exact I.after hq
    | next=>exact False.elim hq
    | brk=>exact False.elim hq
    | cont=>exact False.elim hq
theorem GN (F:FnOk X.prog X.w X.K X.mg X.base CX k f fd ps sp) (hr:Room k X.A) (hg:Gl X x) (hm:X.mg x=some (.ref f)) (hk:PySem.W.keepIn X.K (.ref f)=true) (hb:Binds X.K fd ps ds) (hd:Vals dvs ds) (hx:AQ CX X E)
    (ha:PA X (e::es) t) (hdb:(x == ("__debug__":Str))=false:=by decide) (he:starEach (e::es) X.env=(false,eval e X.env)::starEach es X.env:=by rfl) (hpl:(backTo pos (starEach es X.env)).any (·.1)=false:=by rfl):
    PE X (.Call (.Name x p) (e::es) [] pos) (FV sp dvs E t):=by
  intro pins s σ H Q I h;refine wpAny_Call_Name_kw (DB I hg hm ?_ hdb);refine PySem.W.callWith_K (h₀:=X.base) I.ok.mod.kin hk (thn (ha pos pins s σ H _ I h) λ us s1 ⟨vs,H1,I1,r,q⟩=>⟨I1.kIn,?_⟩) he hpl;exact F8 F hr hb hd hx I1 r q
theorem JJ {pl:Sem Bool} (he:PE X o ta) (c:Cls X.K C) (hm:Meth X.K C m f) (F:FnOk X.prog X.w X.K X.mg X.base CX k f fd ps sp) (hr:Room k X.A) (hb:Binds X.K fd ps ds) (hd:Vals dvs ds) (hx:AQ CX X E) (ha:PA X (e::es) t)
    (hst:starEach (e::es) X.env=(false,eval e X.env)::starEach es X.env:=by rfl) (hpl:(backTo pos (starEach es X.env)).any (·.1)=false:=by rfl)
    (ht:eval (.Call (.Attribute o m apos) (e::es) [] pos) X.env=(do
      let ov <-eval o X.env
      standAt apos.atName
      let (f,first) <-holding [ov] (getMethod ov m pl)
      callWith pos f first (backTo pos (starEach (e::es) X.env)) (backToKw pos (keywordEach [] X.env))):=by rfl):
    PE X (.Call (.Attribute o m apos) (e::es) [] pos) (E8 C m sp dvs E ta t):=by
  intro pins s σ H Q I h;refine PySem.W.methodCall_KW (pl:=pl) (thn (he pins s σ H _ I h) λ u s1 ⟨x,H1,I1,rx,a,dx,fs,ex,ea,l,q⟩=> ?_) ht;subst ex;obtain rfl:u=Value.ref a:=rx;refine CA I1 ea c hm l ?_;refine PySem.W.callWith_K (first:=[.ref a]) (h₀:=X.base) I.ok.mod.kin hm.kp (thn (ha pos pins s1 σ H1 _ I1 q) λ us s2 ⟨vs,H2,I2,r,q2⟩=>⟨I2.kIn,?_⟩) hst hpl;exact F8 (us:= .ref a::us) (vs:= .ref a::vs) F hr hb hd hx I2 (.cons rfl r) q2
theorem IS {pl:Sem Bool} (he:PE X o ta) (c:Cls X.K C) (hm:Meth X.K C m f) (F:FnOk X.prog X.w X.K X.mg X.base CX k f fd ps sp) (hr:Room k X.A) (hb:Binds X.K fd ps ds) (hd:Vals dvs ds) (hx:AQ CX X E)
    (ht:eval (.Call (.Attribute o m apos) [] [] pos) X.env=(do
      let ov <-eval o X.env
      standAt apos.atName
      let (f,first) <-holding [ov] (getMethod ov m pl)
      callWith pos f first (backTo pos (starEach [] X.env)) (backToKw pos (keywordEach [] X.env))):=by rfl):
    PE X (.Call (.Attribute o m apos) [] [] pos) (E8 C m sp dvs E ta JB):=by
  intro pins s σ H Q I h;refine PySem.W.methodCall_KW (pl:=pl) (thn (he pins s σ H _ I h) λ u s1 ⟨x,H1,I1,rx,a,dx,fs,ex,ea,l,q⟩=> ?_) ht;subst ex;obtain rfl:u=Value.ref a:=rx;refine CA I1 ea c hm l ?_;exact PySem.W.callWith_K0 (first:=[.ref a]) I1.kIn hm.kp (F8 (us:=[.ref a]) (vs:=[.ref a]) F hr hb hd hx I1 (.cons rfl .nil) q)
structure Mk (K:PySem.W.Frag) (C f:Addr):Prop where
  makes:PySem.W.makesIn K C=true
  init:PySem.W.findIn K (.ref C) "__init__"=some (some (.ref f))
  fn:PySem.W.isFn K (.ref f)=true
  kp:PySem.W.keepIn K (.ref C)=true
theorem HB {pins:List (Addr × Obj)} {σ:St} {H:Hp} {s:Shared} {Q:VK} {us:List Value} {vs:List V} (M:Mk X.K C f) (F:FnOk X.prog X.w X.K X.mg X.base CX k f fd ps sp) (hr:Room (k+1) X.A) (hb:Binds X.K fd ps ds) (hd:Vals dvs ds)
    (hx:AQ CX X E) (I:Inv X pins σ H s) (r:Vals vs us)
    (h:∀ x dx,H x=none->H dx=none->dx≠x->sp (.ref x::(vs++dvs)) (upd (upd H dx (.own x)) x (.ins C dx [])) (λ v H2=>v= .non/\Q (.ref x) H2) E):
    wpAny (model X.prog X.w) X.A (call (.ref C) us) (EP X pins σ Q) X.xe s:=by
  have hq:=h (s.heap.objs.size+1) s.heap.objs.size (I.hok.fresh (Nat.le_succ _)) (I.hok.fresh (Nat.le_refl _)) (Nat.ne_of_lt (Nat.lt_succ_self _));have I2:=Inv.made (C:=C) I;have r2:Vals (V.ref (s.heap.objs.size+1)::(vs++dvs)) (Value.ref (s.heap.objs.size+1)::(us++ds)):= .cons rfl (r.append hd);have hl:(Value.ref (s.heap.objs.size+1)::us++ds).length=ps.length:=by
    have e:=r2.length;rw [F.len _ _ _ _ hq] at e;exact e.symm
  refine wpAny_call (II (f:=f) I.kIn M.makes M.init (beq_iff_eq.mp M.fn) (codeAny_mono (F.run _ X.stack _ _ ⟨Value.ref (s.heap.objs.size+1)::us,[]⟩ (Value.ref (s.heap.objs.size+1)::(us++ds)) _ _ E (hr.make C us [])
    (I2.env0.make C us []) (hb _ (Value.ref (s.heap.objs.size+1)::us) I2.kIn hl) r2 hq) λ r s' hq'=> ?_))
  cases r with
  | error e=>exact hx pins σ _ _ e s' I2 hq'
  | ok fl=>
    cases fl with
    | ret u=>
      obtain ⟨v,H',I3,rv,ev,q3⟩:=I2.after hq';subst ev;exact ⟨rv,⟨V.ref (s.heap.objs.size+1),H',I3,rfl,q3⟩⟩
    | next=>exact False.elim hq'
    | brk=>exact False.elim hq'
    | cont=>exact False.elim hq'
theorem Jv (M:Mk X.K C f) (F:FnOk X.prog X.w X.K X.mg X.base CX k f fd ps sp) (hr:Room (k+1) X.A) (hg:Gl X x) (hm:X.mg x=some (.ref C)) (hb:Binds X.K fd ps ds) (hd:Vals dvs ds) (hx:AQ CX X E)
    (ha:PA X (e::es) t) (hdb:(x == ("__debug__":Str))=false:=by decide) (he:starEach (e::es) X.env=(false,eval e X.env)::starEach es X.env:=by rfl) (hpl:(backTo pos (starEach es X.env)).any (·.1)=false:=by rfl):
    PE X (.Call (.Name x p) (e::es) [] pos) (E3 C sp dvs E t):=by
  intro pins s σ H Q I h;refine wpAny_Call_Name_kw (DB I hg hm ?_ hdb);refine PySem.W.callWith_K (h₀:=X.base) I.ok.mod.kin M.kp (thn (ha pos pins s σ H _ I h) λ us s1 ⟨vs,H1,I1,r,q⟩=>⟨I1.kIn,?_⟩) he hpl;exact HB M F hr hb hd hx I1 r q
end
section
variable {X:Cx} {CX:CXT} {k:Nat} {f C:Addr} {fd:FuncData} {ps ks:List Str} {sp:Sp} {E:XK} {x m:Str} {p pos apos kpos:Pos} {e o:Expr} {es:List Expr} {kws:List Keyword} {te ta:TE} {t tk:TA} {nm:Option Str}
structure KBinds (K:PySem.W.Frag) (fd:FuncData) (ps ks:List Str) (g:List Value->List Value->List Value) (gV:List V->List V->List V):Prop where
  to:∀ (s:Shared) (us ws:List Value),K.In s.heap->(g us ws).length=ps.length->BindsTo s fd ⟨us,ks.zip ws⟩ (ps.zip (g us ws))
  rel:∀ {vs:List V} {us:List Value} {zs:List V} {ws:List Value},Vals vs us->Vals zs ws->Vals (gV vs zs) (g us ws)
variable {g:List Value->List Value->List Value} {gV:List V->List V->List V}
end
structure FnScope (N P:List Str) (sc:Scope):Prop where
  kind:sc.kind= .function
  co:sc.isCoroutine=false
  gen:sc.isGenerator=false
  nd:N.Nodup
  pre:N.take P.length=P
  par:∀ x∈P,sc.names.lookup x=some .local\/sc.names.lookup x=some .cell
  nofree:∀ y∈sc.names,y.2≠ .free
theorem EZ {kindOf:Str->Option NameKind} {x:Str}:∀ {binds:List (Str × Value)} {m:Str->Option Value},(∀ v,(x,v)∉binds)->bindL kindOf binds m x=m x
  | [],_,_=>rfl
  | (n,v)::r,m,h=>by
    unfold bindL;rw [EZ λ w hw=>h w (List.mem_cons_of_mem _ hw)];split
    · have:x≠n:=by rintro rfl;exact h v List.mem_cons_self
      simp [this]
    · rfl
theorem EQ {kindOf:Str->Option NameKind} {x:Str}:∀ {binds:List (Str × Value)} {m:Str->Option Value},(∀ v,(x,v)∉binds)->bindC kindOf binds m x=m x
  | [],_,_=>rfl
  | (n,v)::r,m,h=>by
    unfold bindC;rw [EQ λ w hw=>h w (List.mem_cons_of_mem _ hw)];split
    · rfl
    · have:x≠n:=by rintro rfl;exact h v List.mem_cons_self
      simp [this]
theorem E4 {kindOf:Str->Option NameKind} {x:Str} {v:Value}:∀ {P:List Str} {vs:List Value} {i:Nat} {m:Str->Option Value},P.Nodup->P[i]?=some x->vs[i]?=some v->kindOf x=some .local->
    bindL kindOf (P.zip vs) m x=some v
  | [],_,_,_,_,h,_,_=>by simp at h
  | _::_,[],_,_,_,_,h,_=>by simp at h
  | p::P,w::vs,0,m,nd,h1,h2,hk=>by
    simp at h1 h2;subst h1;subst h2;show bindL kindOf ((p,w)::P.zip vs) m p=_;unfold bindL;rw [EZ λ v hv=>(List.nodup_cons.mp nd).1 (List.of_mem_zip hv).1,if_pos hk];simp
  | p::P,w::vs,i+1,m,nd,h1,h2,hk=>by
    show bindL kindOf ((p,w)::P.zip vs) m x=_;unfold bindL;exact E4 (i:=i) (List.nodup_cons.mp nd).2 (by simpa using h1) (by simpa using h2) hk
theorem EW {kindOf:Str->Option NameKind} {x:Str} {v:Value}:∀ {P:List Str} {vs:List Value} {i:Nat} {m:Str->Option Value},P.Nodup->P[i]?=some x->vs[i]?=some v->kindOf x≠some .local->
    bindC kindOf (P.zip vs) m x=some v
  | [],_,_,_,_,h,_,_=>by simp at h
  | _::_,[],_,_,_,_,h,_=>by simp at h
  | p::P,w::vs,0,m,nd,h1,h2,hk=>by
    simp at h1 h2;subst h1;subst h2;show bindC kindOf ((p,w)::P.zip vs) m p=_;unfold bindC;rw [EQ λ v hv=>(List.nodup_cons.mp nd).1 (List.of_mem_zip hv).1,if_neg hk];simp
  | p::P,w::vs,i+1,m,nd,h1,h2,hk=>by
    show bindC kindOf ((p,w)::P.zip vs) m x=_;unfold bindC;exact EW (i:=i) (List.nodup_cons.mp nd).2 (by simpa using h1) (by simpa using h2) hk
def start (N:List Str) (vs:List V):St:=vs.map some++List.replicate (N.length - vs.length) none
def BR (CX:CXT) (P:Program) (w:World) (K:PySem.W.Frag) (mg:Str->Option Value) (base:Heap) (N:List Str) (qual:Str) (scope:Scope) (f:Addr) (cd:Value) (A:Around) (outer:List Env) (s:Shared) (H:Hp) (E:XK):Cx where
  prog:=P
  w:=w
  K:=K
  mg:=mg
  base:=base
  A:=A.deeper (envOfC qual scope s.heap.objs.size f cd)
  N:=N
  s₀:=s
  H₀:=H
  env:=envOfC qual scope s.heap.objs.size f cd
  outer:=outer
  stack:=envOfC qual scope s.heap.objs.size f cd::outer
  ex:=[]
  calm:=true
  fn:=λ _=>true
  pn:=[]
  xe:=λ e s'=>wpAny (model P w) (A.deeper (envOfC qual scope s.heap.objs.size f cd)) (leaving (envOfC qual scope s.heap.objs.size f cd) e) (λ _ s''=>CX outer H s E e s'') (λ e' s''=>CX outer H s E e' s'') s'
theorem F5 {sc:Scope} {n:Nat} {x:Str} (h:sc.names.lookup x=some .cell):∃ c,(cellsFrom n sc.names []).lookup x=some c:=by
  have q:=PySem.W.cellsFrom_some sc.names n [] (.inl h);exact Option.isSome_iff_exists.mp q
theorem G8 {CX:CXT} {P:Program} {w:World} {K:PySem.W.Frag} {mg:Str->Option Value} {base:Heap} {N ps:List Str} {qual:Str} {scope:Scope} {f:Addr} {cd:Value} {A:Around} {outer:List Env} {s s1:Shared} {H:Hp} {E:XK} {us:List Value} {vs:List V}
    (S:FnScope N ps scope) (hd:A.handled=none) (e0:Env0 P w K mg base A outer s H) (hl:vs.length=ps.length) (r:Vals vs us)
    (x:InCallC s s.heap.objs.size (bindL (envOfC qual scope s.heap.objs.size f cd).kindOf (ps.zip us) λ _=>none) (cellsFrom (s.heap.objs.size+1) scope.names []) (bindC (envOfC qual scope s.heap.objs.size f cd).kindOf (ps.zip us) λ _=>none) s1):
    Inv (BR CX P w K mg base N qual scope f cd A outer s H E) [] (start N vs) H s1:=by
  have hpl:ps.length<=N.length:=by have:=congrArg List.length S.pre;rw [List.length_take] at this;omega
  obtain ⟨h1,tk,rfl,hk⟩:=x.done;have noA:∀ b:Addr,b∉(BR CX P w K mg base N qual scope f cd A outer s H E).ex:=λ b z=>absurd (show b∈([]:List Addr) from z) (by simp);refine ⟨⟨e0.mod,S.kind,rfl,rfl,Nat.le_refl _,λ y z c h1 h2=> ?_,λ y hy=> ?_,λ y c _ h=> ?_,λ _=>hd,Around.frames_deeper e0.frames, .inr ⟨rfl,rfl⟩,λ b z=>absurd z (noA b),e0.bs,e0.bsz,λ b _ _=>noA b,λ b z=>absurd z (noA b),e0.funs,e0.frf⟩,
    rfl,e0.bare,Un.kept hk,⟨_,x.toInCall.ns,λ i y v h1 h2 h3=> ?_⟩,λ y c h=>⟨_,x.cell y c h⟩,e0.hok.fresh (Nat.le_refl _),λ y c h=> ?_,λ p hp=>absurd (show p∈([]:List (Addr × Obj)) from hp) (by simp),e0.hok.kept hk,?_⟩
  · exact name_of_addr x.apart (PySem.mem_of_lookup h1) (PySem.mem_of_lookup h2)
  · have hy:scope.names.lookup y=some .cell\/scope.names.lookup y=some .free:=hy;rcases hy with hy | hy
    · exact F5 hy
    · exact absurd rfl (S.nofree _ (PySem.mem_of_lookup hy))
  · exact Nat.le_of_lt (x.above y c (PySem.mem_of_lookup h))
  · have hi:i<vs.length:=by
      unfold start at h2;by_cases hi:i<vs.length
      · exact hi
      · rw [List.getElem?_append_right (by simpa using hi)] at h2;rw [List.getElem?_replicate] at h2;split at h2 <;> cases h2
    have ha:vs[i]?=some v:=by
      unfold start at h2;rw [List.getElem?_append_left (by simpa using hi),List.getElem?_map] at h2;cases e:vs[i]? with
      | none=>rw [e] at h2;cases h2
      | some a=>rw [e] at h2;cases h2;rfl
    obtain ⟨u,hu,rv⟩:=r.get ha;have hp:ps[i]?=some y:=by
      rw [<-S.pre,List.getElem?_take_of_lt (by omega)];exact h1
    have ndP:ps.Nodup:=by rw [<-S.pre];exact S.nd.sublist (List.take_sublist _ _)
    refine ⟨u,rv,?_⟩;rcases S.par y (List.mem_of_getElem? hp) with k | k
    · exact .inl ⟨k,E4 ndP hp hu k⟩
    · obtain ⟨c,e⟩:=F5 (n:=s.heap.objs.size+1) k;refine .inr ⟨.inl k,c,e,?_⟩;have q:=x.cell y c e;rw [EW ndP hp hu (by show scope.names.lookup y≠_;rw [k];decide)] at q;exact q
  · exact e0.hok.fresh (Nat.le_of_lt (x.above y c (PySem.mem_of_lookup h)))
  · unfold start;show _=N.length;rw [List.length_append,List.length_map,List.length_replicate];omega
theorem J4 {CX:CXT} {P:Program} {w:World} {K:PySem.W.Frag} {mg:Str->Option Value} {base:Heap} {k:Nat} {f:Addr} {name qual:Str} {params:Arguments} {body:List Stmt} {scope:Scope} {dV kV doc pm cdv ct oc:Value} {an od:Option Addr}
    {osl:Array (Option Value)} {N ps:List Str} {sp:Sp} (lk:K.lookup f=some ⟨oc,od, .func (PySem.W.fnOf name qual params body scope dV kV doc pm an cdv ct),osl⟩) (hcd:PySem.W.codeIn K cdv qual=true) (S:FnScope N ps scope)
    (len:∀ vs H Q E,sp vs H Q E->vs.length=ps.length)
    (hbody:∀ (A:Around) (outer:List Env) (s:Shared) (H:Hp) (vs:List V) (Q:VK) (E:XK),Room k (A.deeper (envOfC qual scope s.heap.objs.size f cdv))->sp vs H Q E->
      ∃ t,PSs (BR CX P w K mg base N qual scope f cdv A outer s H E) body t/\t { nx:=λ _ H'=>Q .non H',rt:=Q } (start N vs) H):
    FnOk P w K mg base CX (k+1) f (PySem.W.fnOf name qual params body scope dV kV doc pm an cdv ct) ps sp:=by
  refine ⟨len,λ A outer s H args us vs Q E hr e0 hb r hsp=> ?_⟩;have hl:=len _ _ _ _ hsp;have KX:K.In s.heap:=e0.mod.kin.keeps λ b o e=>(e0.bs b o e).1;have lim:s.heap.NoLimit:=e0.mod.nolimit.keeps λ b o e=>(e0.bs b o e).1;have hkind:∀ y∈ps.zip us,scope.names.lookup y.1=some .local\/(scope.names.lookup y.1=some .cell/\((cellsFrom (s.heap.objs.size+1) scope.names []).lookup y.1).isSome=true):=λ ⟨n,v⟩ hy=>by
    rcases S.par n (List.of_mem_zip hy).1 with q | q
    · exact .inl q
    · exact .inr ⟨q,PySem.W.cellsFrom_some _ _ _ (.inl q)⟩
  refine codeAny_call_function hr.depth (KX _ _ lk) rfl S.co S.gen rfl (PySem.W.codeRec_of KX hcd) (hb _ _ _ _ ?_);refine wpAny_newFunctionEnv_cells S.kind hkind λ env he s1 x=> ?_;subst he;refine ⟨lim.keeps x.toInCall.keep,codeAny_func ?_⟩;obtain ⟨t,ht,hq⟩:=hbody A outer s H vs Q E (hr.deeper _) hsp;have I:Inv (BR CX P w K mg base N qual scope f cdv A outer s H E) [] (start N vs) H s1:=G8 S hr.hd e0 hl r x;refine wpAny_mono (ht [] s1 (start N vs) H _ I hq) (λ fl s' hs=> ?_) λ e s' hs=>hs;have fin:∀ {σ':St} {H':Hp} {v:V} {u:Value},Inv (BR CX P w K mg base N qual scope f cdv A outer s H E) [] σ' H' s'->RelV v u->Q v H'->CE outer P w H s Q u s':=
    λ {σ' H' v u} J rv q=>⟨v,H',J.os,J.bare,J.base,J.hok,rv,q⟩
  cases fl with
  | ret u=>
    obtain ⟨v,σ',H',J,rv,q⟩:=hs;exact fin J rv q
  | next=>
    obtain ⟨σ',H',J,q⟩:=hs;exact fin (v:=V.non) (u:=Value.none) J rfl q
  | brk=>
    obtain ⟨_,_,_,q⟩:=hs;exact False.elim q
  | cont=>
    obtain ⟨_,_,_,q⟩:=hs;exact False.elim q
section
variable {X:Cx} {x:Str} {p pos:Pos} {e:Expr} {es:List Expr} {t:TA} {id T:String} {r:List V->Hp->VK->Prop}
def tCB (r:List V->Hp->VK->Prop) (t:TA):TE:=λ σ H Q=>t σ H λ vs H1=>r vs H1 Q
theorem Ak (hc:Bb X (.builtin id) r) (hg:Gl X x) (hm:X.mg x=none) (hv:bootBuiltins x=some (.builtin id)) (ha:PA X (e::es) t) (hn:x≠"__name__":=by decide) (hdb:(x == ("__debug__":Str))=false:=by decide)
    (he:starEach (e::es) X.env=(false,eval e X.env)::starEach es X.env:=by rfl) (hpl:(backTo pos (starEach es X.env)).any (·.1)=false:=by rfl):PE X (.Call (.Name x p) (e::es) [] pos) (tCB r t):=by
  intro pins s σ H Q I h;refine wpAny_Call_Name_kw (Da I hg hm hv ?_ hn hdb);exact PyProof.Rows.callWith_builtin1 (thn (ha pos pins s σ H _ I h) λ us s1 ⟨vs,H1,I1,r1,q1⟩=>hc pins s1 σ H1 vs us Q I1 r1 q1) he hpl
theorem Bw (hc:Bb X (.type T) r) (hg:Gl X x) (hm:X.mg x=none) (hv:bootBuiltins x=some (.type T)) (ha:PA X (e::es) t) (hn:x≠"__name__":=by decide) (hdb:(x == ("__debug__":Str))=false:=by decide)
    (he:starEach (e::es) X.env=(false,eval e X.env)::starEach es X.env:=by rfl) (hpl:(backTo pos (starEach es X.env)).any (·.1)=false:=by rfl):PE X (.Call (.Name x p) (e::es) [] pos) (tCB r t):=by
  intro pins s σ H Q I h;refine wpAny_Call_Name_kw (Da I hg hm hv ?_ hn hdb);exact PyProof.Rows.callWith_type1 (thn (ha pos pins s σ H _ I h) λ us s1 ⟨vs,H1,I1,r1,q1⟩=>hc pins s1 σ H1 vs us Q I1 r1 q1) he hpl
end
end L2
namespace HT
open PySem PyProof.Rows
section
open PySem.SeqAt
open PySem.AutoSeq1 (wpAny_loadPart')
open PySem.MeetsSeq PySem.MeetsSeq2 PySem.MeetsSeq3
end
section
variable {prog:Program} {w:World} {A:Around} {E:Value->Shared->Prop} {s:Shared}
def sIx (n d:Nat):Option Int->Nat
  | none=>d
  | some v=>if v<0 then (v+(n:Int)).toNat else min v.toNat n
end
end HT
namespace L2
open PySem PySem.Spec PyProof.Rows
abbrev TO:=St->Hp->(Option Int->Hp->Prop)->Prop
def PO (X:Cx) (e:Option Expr) (t:TO):Prop:=
  ∀ (pins:List (Addr × Obj)) (s:Shared) (σ:St) (H:Hp) (Q:Option Int->Hp->Prop),Inv X pins σ H s->t σ H Q->
    wpAny (model X.prog X.w) X.A (evalPart e X.env) (λ u s'=>∃ o H',Inv X pins σ H' s'/\IsPart u o/\Q o H') X.xe s
def GH:TO:=λ _ H Q=>Q none H
def Kd (t:TE):TO:=λ σ H Q=>t σ H λ x H1=>∃ i,x= .int i/\Q (some i) H1
section
variable {X:Cx} {e:Expr} {te:TE} {lo hi:Option Expr} {tl th:TO} {pos p2:Pos}
theorem GJ:PO X none GH:=by
  intro pins s σ H Q I h;rw [evalPart_none];exact wpAny_pure ⟨none,H,I, .none,h⟩
theorem Cf (h:PE X e te):PO X (some e) (Kd te):=by
  intro pins s σ H Q I hw;rw [evalPart_some];refine thn (h pins s σ H _ I hw) λ u s1 ⟨x,H1,I1,r1,q1⟩=> ?_;obtain ⟨i,rfl,q⟩:=q1;obtain ⟨t,rfl⟩:=r1;exact ⟨some i,H1,I1, .int i t,q⟩
def SlR (X:Cx) (r:V->Option Int->Option Int->Hp->VK->Prop):Prop:=
  ∀ (pins:List (Addr × Obj)) (s:Shared) (σ:St) (H:Hp) (x:V) (v vl vu:Value) (lo hi:Option Int) (sl:Addr) (Q:VK),Inv X pins σ H s->RelV x v->s.heap.IsSliceOf sl vl vu .none->IsPart vl lo->IsPart vu hi->r x lo hi H Q->
    ∃ T id,typeLookup (.type T) "__getitem__"=pure (some (.builtin id))/\s.TypeIs v T/\wpAny (model X.prog X.w) X.A (getItem v (.ref sl)) (EP X pins σ Q) X.xe s
def tSl (r:V->Option Int->Option Int->Hp->VK->Prop) (te:TE) (tl th:TO):TE:=λ σ H Q=>te σ H λ x H1=>tl σ H1 λ l H2=>th σ H2 λ u H3=>r x l u H3 Q
theorem CS {r:V->Option Int->Option Int->Hp->VK->Prop} (hr:SlR X r) (he:PE X e te) (hl:PO X lo tl) (hu:PO X hi th):PE X (.Subscript e (.Slice lo hi none p2) pos) (tSl r te tl th):=by
  intro pins s σ H Q I h;refine Subscript_ (thn (he pins s σ H _ I h) λ v s1 ⟨x,H1,I1,r1,q1⟩=> ?_);refine wpAny_Slice (thn (hl pins s1 σ H1 _ I1 q1) λ vl s2 ⟨l,H2,I2,pl,q2⟩=>thn (hu pins s2 σ H2 _ I2 q2) λ vu s3 ⟨u,H3,I3,pu,q3⟩=> ?_);rw [evalPart_none];refine wpAny_pure ?_;have I4:Inv X pins σ H3 { s3 with heap:=s3.heap.push { cls:= .type "slice",data:= .fields #[vl,vu, .none] } }:=I3.kept (t':=s3.toks) λ b ob q=>Heap.get?_push_of_some _ q;obtain ⟨T,id,hT,ht,hg⟩:=hr pins { s3 with heap:=s3.heap.push { cls:= .type "slice",data:= .fields #[vl,vu, .none] } } σ H3 x v vl vu l u s3.heap.objs.size Q I4 r1 (Heap.IsSliceOf.new ..) pl pu q3;show wpAny (model X.prog X.w) X.A (subscriptTail e (.Slice lo hi none p2) v (.ref s3.heap.objs.size)) (EP X pins σ Q) X.xe { s3 with heap:=s3.heap.push { cls:= .type "slice",data:= .fields #[vl,vu, .none] } };exact tail_any (ops:=[.ref s3.heap.objs.size,v]) ht hT hg (by with_unfolding_all rfl)
def Ek (xs:List V) (lo hi:Option Int):List V:=(xs.drop (HT.sIx xs.length 0 lo)).take (HT.sIx xs.length xs.length hi - HT.sIx xs.length 0 lo)
theorem FY (xs:List V) (lo hi:Option Int):(Ek xs lo hi).length<=xs.length:=by
  unfold Ek;rw [List.length_take,List.length_drop];omega
end
def ixN (n:Nat) (i:Int):Option Nat:=if 0<=i then (if i<n then some i.toNat else none) else if -(n:Int)<=i then some (i+n).toNat else none
def atI {α:Type} (xs:List α) (i:Int):Option α:=(ixN xs.length i).bind λ j=>xs[j]?
theorem JE {n:Nat} {i:Int} {j:Nat} (h:ixN n i=some j):seqIndex? i n=some j/\j<n/\ -(n:Int)<=i/\i<n:=by
  unfold ixN at h;by_cases h0:0<=i
  · rw [if_pos h0] at h;by_cases h1:i<n
    · rw [if_pos h1] at h;have e:i.toNat=j:=Option.some.inj h;exact ⟨by rw [seqIndex_of h0 h1,e],by omega,by omega,h1⟩
    · rw [if_neg h1] at h;cases h
  · rw [if_neg h0] at h;by_cases h1: -(n:Int)<=i
    · rw [if_pos h1] at h;have e:(i+n).toNat=j:=Option.some.inj h;exact ⟨by rw [seqIndex_neg (by omega) h1,e],by omega,h1,by omega⟩
    · rw [if_neg h1] at h;cases h
theorem Gy {α:Type} {xs:List α} {i:Int} {v:α} (h:atI xs i=some v):∃ j,seqIndex? i xs.length=some j/\xs[j]?=some v/\j<xs.length/\ -(xs.length:Int)<=i/\i<xs.length:=by
  unfold atI at h;cases e:ixN xs.length i with
  | none=>rw [e] at h;cases h
  | some j=>
    rw [e] at h;obtain ⟨h1,h2,h3,h4⟩:=JE e;exact ⟨j,h1,h,h2,h3,h4⟩
theorem A3 {α:Type} {xs:List α} {j:Nat} {v:α} (h:xs[j]?=some v):atI xs (j:Int)=some v:=by
  have hj:j<xs.length:=(List.getElem?_eq_some_iff.mp h).1;have e:ixN xs.length (j:Int)=some j:=by
    unfold ixN;rw [if_pos (by omega),if_pos (by omega)];simp
  unfold atI;rw [e];exact h
def JR (b:Expr):Prop:=∀ o i,subscripted b false o i=operate [o,i] (getItem o i)
def IxR (X:Cx) (r:R2):Prop:=
  ∀ (value slice:Expr) (pins:List (Addr × Obj)) (s:Shared) (σ:St) (H:Hp) (x y:V) (v u:Value) (Q:VK),Inv X pins σ H s->RelV x v->RelV y u->r x y H Q->
    subscripted slice false v u=operate [v,u] (getItem v u)->wpAny (model X.prog X.w) X.A (subscriptTail value slice v u) (EP X pins σ Q) X.xe s
def MtR (X:Cx) (id:String) (r:V->List V->Hp->VK->Prop):Prop:=
  ∀ (pins:List (Addr × Obj)) (s:Shared) (σ:St) (H:Hp) (x:V) (xs:List V) (v:Value) (us:List Value) (Q:VK),Inv X pins σ H s->RelV x v->Vals xs us->r x xs H Q->
    wpAny (model X.prog X.w) X.A (call (.builtin id) (v::us)) (EP X pins σ Q) X.xe s
section
variable {X:Cx} {a b:Expr} {ta tb:TE} {pos:Pos}
theorem A8 {r:R2} (hr:IxR X r) (ha:PE X a ta) (hb:PE X b tb) (hs:JR b):PE X (.Subscript a b pos) (tOp r ta tb):=by
  intro pins s σ H Q I h;exact Subscript_ (Lc ha hb I h λ v u s2 x y H2 I2 rx ry q=>hr a b pins s2 σ H2 x y v u Q I2 rx ry q (hs _ _))
def Ls (K:PySem.W.Frag):R2:=λ x y H Q=>∃ p xs i v,x= .ref p/\y= .int i/\SqL K H p xs/\atI xs i=some v/\Q v H
def Lo (K:PySem.W.Frag):R2:=λ x y H Q=>∃ p xs i v,x= .ref p/\y= .int i/\SqT K H p xs/\atI xs i=some v/\Q v H
theorem Jg:IxR X (Ls X.K):=by
  intro value slice pins s σ H x y v u Q I rx ry h hs;obtain ⟨p,xs,i,z,rfl,rfl,hq,he,q⟩:=h;cases rx;obtain ⟨t,rfl⟩:=ry;obtain ⟨its,r,pl,hz⟩:=I.list hq;obtain ⟨j,h1,h2,h3,h4,h5⟩:=Gy he;obtain ⟨w,ew,rw'⟩:=r.get h2;have hl:=r.length;have hn:=Fb;have fin:EP X pins σ Q w s:=⟨z,H,I,rw',q⟩;by_cases h0:0<=i
  · have hj:i.toNat=j:=by
      rw [seqIndex_of h0 h5] at h1;exact Option.some.inj h1
    exact item_listR pl.isList h0 (by omega) (by rw [hj];simpa using ew) fin hs
  · have hj:(i+(its.toArray.size:Int)).toNat=j:=by
      rw [seqIndex_neg (by omega) h4] at h1;rw [List.size_toArray, <-hl];exact Option.some.inj h1
    exact subscriptTail_builtinR (x:=w) pl.isList.typeIs slot_list_getitem.lookup
      (wpAny_getItem_list_neg (Q:=λ r s'=>r=w/\EP X pins σ Q r s') pl.isList (by omega) (by rw [List.size_toArray] <;> omega) (by omega) (by rw [hj];simpa using ew) ⟨rfl,fin⟩) hs
theorem LC:IxR X (Lo X.K):=by
  intro value slice pins s σ H x y v u Q I rx ry h hs;obtain ⟨p,xs,i,z,rfl,rfl,hq,he,q⟩:=h;cases rx;obtain ⟨t,rfl⟩:=ry;obtain ⟨its,r,pl,hz⟩:=I.tuple hq;obtain ⟨j,h1,h2,h3,h4,h5⟩:=Gy he;obtain ⟨w,ew,rw'⟩:=r.get h2;have hl:=r.length;have hn:=Fb;have fin:EP X pins σ Q w s:=⟨z,H,I,rw',q⟩;exact subscriptTail_builtinR (x:=w) pl.typeIs slot_tuple_getitem.lookup
    (getItem_tuple (j:=j) (Q:=λ r s'=>r=w/\EP X pins σ Q r s') pl (by omega) (by omega) (by rw [List.size_toArray, <-hl];exact h1) (by simpa using ew) ⟨rfl,fin⟩) hs
theorem Inv.lst {pins:List (Addr × Obj)} {σ:St} {H:Hp} {s:Shared} {p:Addr} {xs:List V} (I:Inv X pins σ H s) (h:H p=some (.lst xs)):
    ∃ (its:List Value) (n:Nat),Vals xs its/\s.heap.get? p=some { cls:= .type "list",data:= .seq its.toArray n }/\xs.length<=sizeLine:=by
  obtain ⟨z,its,n,r,e⟩:=I.hok p _ h;exact ⟨its,n,r,e,z⟩
theorem Fs (lo hi:Option Int) (n:Nat):(sliceBounds lo hi none n).1=((HT.sIx n 0 lo:Nat):Int)/\(sliceBounds lo hi none n).2.1=((HT.sIx n n hi:Nat):Int)/\(sliceBounds lo hi none n).2.2=1:=by
  refine ⟨?_,?_,rfl⟩
  · cases lo with
    | none=>simp [sliceBounds,HT.sIx]
    | some i=>
      simp only [sliceBounds,HT.sIx,Option.getD_none,show (1:Int)>0 by decide,if_true];by_cases h:i<0
      · simp only [h,if_true] <;> omega
      · simp only [h,if_false] <;> omega
  · cases hi with
    | none=>simp [sliceBounds,HT.sIx]
    | some i=>
      simp only [sliceBounds,HT.sIx,Option.getD_none,show (1:Int)>0 by decide,if_true];by_cases h:i<0
      · simp only [h,if_true] <;> omega
      · simp only [h,if_false] <;> omega
theorem Ew (its:List Value) (lo hi:Option Int):slicePick its.toArray lo hi none=((its.drop (HT.sIx its.length 0 lo)).take (HT.sIx its.length its.length hi - HT.sIx its.length 0 lo)).toArray:=by
  obtain ⟨h1,h2,h3⟩:=Fs lo hi its.toArray.size;unfold slicePick;rw [h1,h2,h3];simp only [sliceRange_one,pick_run,List.size_toArray] <;> rfl
def Ll (K:PySem.W.Frag):V->Option Int->Option Int->Hp->VK->Prop:=λ x lo hi H Q=>∃ a xs,x= .ref a/\SqL K H a xs/\∀ p,H p=none->Q (.ref p) (upd H p (.lst (Ek xs lo hi)))
theorem Jo:SlR X (Ll X.K):=by
  intro pins s σ H x v vl vu lo hi sl Q I rx hs pl pu h;obtain ⟨a,xs,rfl,hx,q⟩:=h;cases rx;obtain ⟨its,r,ht,hz⟩:=I.list hx;have hlen:=r.length;refine ⟨"list",_,slot_list_getitem.lookup,ht.isList.typeIs,?_⟩;refine wpAny_getItem_list_slice ht.isList hs pl pu .none (by simp) ?_ (by rw [List.size_toArray] <;> omega);rw [Ew, <-hlen];refine ⟨.ref s.heap.objs.size,_,I.laid (t':=s.toks) (o:= .lst (Ek xs lo hi)) (λ b ob q=>Heap.get?_push_of_some _ q) (Nat.le_refl _) ?_,rfl,q _ (I.hok.fresh (Nat.le_refl _))⟩;exact ⟨Nat.le_trans (FY xs lo hi) hz,_,0,(r.drop (HT.sIx xs.length 0 lo)).take (HT.sIx xs.length xs.length hi - HT.sIx xs.length 0 lo),Heap.get?_push_size _ rfl⟩
def AE:V->Bool
  | .non=>true
  | .bl _=>true
  | .int _=>true
  | .str _=>true
  | _=>false
def eqV:V->V->Bool
  | .non, .non=>true
  | .bl a, .bl b=>a == b
  | .bl a, .int b=>(if a then 1 else 0) == b
  | .int a, .bl b=>a == (if b then 1 else 0)
  | .int a, .int b=>a == b
  | .str a, .str b=>a == b
  | _,_=>false
theorem IT {A:Around} {s:Shared} {y x:V} {u v:Value} (ry:RelV y u) (rx:RelV x v) (fy:AE y=true) (fx:AE x=true):SeqAt.EqAt A s u v (eqV y x):=by
  cases y with
  | non=>
    cases ry;cases x with
    | non=>cases rx;exact SeqAt.EqAt.same _
    | bl b=>cases rx;exact SeqAt.EqAt.none_bool b
    | int b=>obtain ⟨t,rfl⟩:=rx;exact SeqAt.EqAt.none_int b t
    | str b=>obtain ⟨t,rfl⟩:=rx;exact SeqAt.EqAt.none_str b t
    | _=>exact absurd (show false=true from fx) Bool.false_ne_true
  | bl a=>
    cases ry;cases x with
    | non=>cases rx;exact SeqAt.EqAt.bool_none a
    | bl b=>cases rx;exact SeqAt.EqAt.bool_bool a b
    | int b=>obtain ⟨t,rfl⟩:=rx;exact SeqAt.EqAt.bool_int a b t
    | str b=>obtain ⟨t,rfl⟩:=rx;exact SeqAt.EqAt.bool_str a b t
    | _=>exact absurd (show false=true from fx) Bool.false_ne_true
  | int a=>
    obtain ⟨t',rfl⟩:=ry;cases x with
    | non=>cases rx;exact SeqAt.EqAt.int_none a t'
    | bl b=>cases rx;exact SeqAt.EqAt.int_bool a t' b
    | int b=>obtain ⟨t,rfl⟩:=rx;exact SeqAt.EqAt.int_int a t' b t
    | str b=>obtain ⟨t,rfl⟩:=rx;exact SeqAt.EqAt.int_str a t' b t
    | _=>exact absurd (show false=true from fx) Bool.false_ne_true
  | str a=>
    obtain ⟨t',rfl⟩:=ry;cases x with
    | non=>cases rx;exact SeqAt.EqAt.str_none a t'
    | bl b=>cases rx;exact SeqAt.EqAt.str_bool a t' b
    | int b=>obtain ⟨t,rfl⟩:=rx;exact SeqAt.EqAt.str_int a t' b t
    | str b=>obtain ⟨t,rfl⟩:=rx;exact SeqAt.EqAt.str_str a t' b t
    | _=>exact absurd (show false=true from fx) Bool.false_ne_true
  | _=>exact absurd (show false=true from fy) Bool.false_ne_true
def eqU (x:V) (u:Value):Bool:=match u with
  | .none=>eqV .non x
  | .bool b=>eqV (.bl b) x
  | .int i _=>eqV (.int i) x
  | .str z _=>eqV (.str z) x
  | _=>false
theorem Hx {x y:V} {u:Value} (r:RelV y u) (f:AE y=true):eqU x u=eqV y x:=by
  cases y with
  | non=>cases r;rfl
  | bl b=>cases r;rfl
  | int i=>obtain ⟨t,rfl⟩:=r;rfl
  | str z=>obtain ⟨t,rfl⟩:=r;rfl
  | _=>exact absurd (show false=true from f) Bool.false_ne_true
theorem DS {A:Around} {s:Shared} {x:V} {v:Value} (rx:RelV x v) (fx:AE x=true):∀ {xs:List V} {us:List Value},Vals xs us->xs.all AE=true->∀ u∈us,SeqAt.EqAt A s u v (eqU x u)
  | _,_, .nil,_=>λ u hu=>by cases hu
  | y::xs,u::us, .cons r t,f=>λ u' hu=>by
    rw [List.all_cons,Bool.and_eq_true] at f;rcases List.mem_cons.mp hu with rfl | hu
    · rw [Hx r f.1];exact IT r rx f.1 fx
    · exact DS rx fx t f.2 u' hu
theorem Fd:Bb X (.type "list") (λ xs H Q=>∃ p ys,xs=[.ref p]/\(SqL X.K H p ys\/SqT X.K H p ys)/\∀ l,H l=none->Q (.ref l) (upd H l (.lst ys))):=by
  intro pins s σ H xs us Q I r h;obtain ⟨p,ys,rfl,hq,q⟩:=h;obtain ⟨u,rfl,rx⟩:=ET r;cases rx;have fin:∀ (its:List Value),Vals ys its->ys.length<=sizeLine->∀ (h':Heap) (c':Nat),(∀ b o',s.heap.get? b=some o'->h'.get? b=some o')->
      h'.get? s.heap.objs.size=some { cls:= .type "list",dict:=none,data:= .seq its.toArray c',slots:= #[] }->EP X pins σ Q (.ref s.heap.objs.size) { s with heap:=h' }:=λ its r' hz h' c' kp e=>
    ⟨.ref s.heap.objs.size,_,I.laid (t':=s.toks) kp (Nat.le_refl _) (show ObjOk X.prog X.w _ h' _ (.lst ys) from ⟨hz,its,c',r',e⟩),rfl,q _ (I.hok.fresh (Nat.le_refl _))⟩
  rcases hq with hq | hq
  · obtain ⟨its,r',pl,hz⟩:=I.list hq;have hlen:=r'.length;obtain ⟨o,ho,hc,n,hd⟩:=pl.isList;exact call_list_seq p (.inl rfl) ho hc hd (λ h' c' kp e=>fin its r' hz h' c' kp e) (by simp only [List.size_toArray] <;> omega)
  · obtain ⟨its,r',pl,hz⟩:=I.tuple hq;have hlen:=r'.length;obtain ⟨o,ho,hc,n,hd⟩:=pl;exact call_list_seq p (.inr rfl) ho hc hd (λ h' c' kp e=>fin its r' hz h' c' kp e) (by simp only [List.size_toArray] <;> omega)
theorem Ey:Bb X (.type "tuple") (λ xs H Q=>∃ p ys,xs=[.ref p]/\((SqL X.K H p ys/\∀ l,H l=none->Q (.ref l) (upd H l (.tup ys)))\/(SqT X.K H p ys/\Q (.ref p) H))):=by
  intro pins s σ H xs us Q I r h;obtain ⟨p,ys,rfl,h⟩:=h;obtain ⟨u,rfl,rx⟩:=ET r;cases rx;rcases h with ⟨hq,q⟩ | ⟨hq,q⟩
  · obtain ⟨its,r',pl,hz⟩:=I.list hq;have hlen:=r'.length;refine call_tuple_list pl.isList (λ h' kp=> ?_) (by simp only [List.size_toArray] <;> omega);have I1:Inv X pins σ H { s with heap:=h' }:=I.kept (t':=s.toks) kp;have I2:Inv X pins σ (upd H h'.objs.size (.tup ys)) { s with heap:=h'.push { cls:= .type "tuple",data:= .seq its.toArray } }:=
      I1.laid (t':=s.toks) (λ b o e=>Heap.get?_push_of_some _ e) (Nat.le_refl _) (show ObjOk X.prog X.w _ _ _ (.tup ys) from ⟨hz,its,r',IsTup.new _ _⟩)
    exact ⟨.ref h'.objs.size,_,I2,rfl,q _ (I1.hok.fresh (Nat.le_refl _))⟩
  · obtain ⟨its,r',pl,hz⟩:=I.tuple hq;exact call_tuple_same pl ⟨.ref p,H,I,rfl,q⟩
def tyV (K:PySem.W.Frag) (T:String) (x:V) (H:Hp):Prop:=match x with
  | .str _=>T="str"
  | .int _=>T="int"
  | .ref p=>(T="list"/\∃ xs,SqL K H p xs)\/(T="tuple"/\∃ o,K.lookup p=some o/\o.cls= .type "tuple"/\o.dict=none)\/
      (T="dict"/\((∃ kvs,H p=some (.dK kvs))\/∃ kvs,H p=some (.dT kvs)))\/(T="set"/\∃ S n,H p=some (.set S n))
  | _=>False
theorem HU {pins:List (Addr × Obj)} {σ:St} {H:Hp} {s:Shared} {T:String} {x:V} {v:Value} (I:Inv X pins σ H s) (r:RelV x v) (ty:tyV X.K T x H):
    s.TypeIs v T/\∀ a,v= .ref a->∃ ob,s.heap.get? a=some ob/\ob.dict=none:=by
  cases x with
  | str z=>
    obtain ⟨t,rfl⟩:=r;cases (show T="str" from ty);exact ⟨typeIs_str s z t,λ _ e=>nomatch e⟩
  | int i=>
    obtain ⟨t,rfl⟩:=r;cases (show T="int" from ty);exact ⟨typeIs_int s i t,λ _ e=>nomatch e⟩
  | ref p=>
    cases r;rcases ty with ⟨rfl,xs,hq⟩ | ⟨rfl,o,hk,hc,hd⟩ | ⟨rfl,hk⟩ | ⟨rfl,S,n,hk⟩
    · obtain ⟨its,_,pl,_⟩:=I.list hq;refine ⟨pl.isList.typeIs,λ a e=> ?_⟩;cases e;obtain ⟨o,n,e,c,hd,_⟩:=pl;exact ⟨o,e,hd⟩
    · refine ⟨⟨o,I.kIn p o hk,hc⟩,λ a e=> ?_⟩;cases e;exact ⟨o,I.kIn _ o hk,hd⟩
    · have z:∃ o,s.heap.get? p=some o/\o.ExactDict:=by
        rcases hk with ⟨kvs,hk⟩ | ⟨kvs,hk⟩
        · obtain ⟨_,_,_,_,o,_,_,e,ex,_⟩:=I.hok p _ hk;exact ⟨o,e,ex⟩
        · obtain ⟨_,_,_,_,o,_,_,e,ex,_⟩:=I.hok p _ hk;exact ⟨o,e,ex⟩
      obtain ⟨o,e,ex⟩:=z;refine ⟨⟨o,e,ex.1⟩,λ a e2=> ?_⟩;cases e2;exact ⟨o,e,ex.2.1⟩
    · obtain ⟨o,_,_,_,e,ex,_⟩:=I.hok p _ hk;refine ⟨⟨o,e,ex.1⟩,λ a e2=> ?_⟩;cases e2;exact ⟨o,e,ex.2.1⟩
  | _=>exact False.elim ty
def KU (K:PySem.W.Frag) (T:String) (r:V->List V->Hp->VK->Prop) (to:TE):TE:=λ σ H Q=>to σ H λ x H1=>tyV K T x H1/\r x [] H1 Q
def tBM (K:PySem.W.Frag) (T:String) (r:V->List V->Hp->VK->Prop) (to:TE) (t:TA):TE:=λ σ H Q=>to σ H λ x H1=>tyV K T x H1/\t σ H1 λ xs H2=>r x xs H2 Q
variable {o e:Expr} {es:List Expr} {to:TE} {t:TA} {name:Str} {apos cpos:Pos} {T id:String} {r:V->List V->Hp->VK->Prop}
theorem K2 (pa:PlainAttrs T) (slot:Slot T name id) (hty:typeOf (.builtin id)=pure (.type "method_descriptor")) (hm:MtR X id r) (ho:PE X o to)
    (hbase:attributeBase o name X.env (eval o X.env)=eval o X.env:=by rfl) (hline:(apos.endLine == cpos.line)=true:=by rfl):PE X (.Call (.Attribute o name apos) [] [] cpos) (KU X.K T r to):=by
  intro pins s σ H Q I h;refine wpAny_Call_method0_late hbase hline (thn (ho pins s σ H _ I h) λ v s1 ⟨x,H1,I1,r1,ty,q1⟩=> ?_);obtain ⟨h1,h2⟩:=HU I1 r1 ty;exact ⟨T,id,pa,slot,hty,h1,h2,Calls.callWith_builtin rfl (PySem.evalArgs_none (hm pins s1 σ H1 x [] v [] Q I1 r1 .nil q1))⟩
theorem LL (pa:PlainAttrs T) (slot:Slot T name id) (hty:typeOf (.builtin id)=pure (.type "method_descriptor")) (hm:MtR X id r) (ho:PE X o to) (ha:PA X (e::es) t)
    (hbase:attributeBase o name X.env (eval o X.env)=eval o X.env:=by rfl)
    (hfew:((backTo cpos (starEach (e::es) X.env)).all (λ x=> !x.1)&&(backToKw cpos (keywordEach [] X.env)).all (λ x=>x.1.isSome)
      && decide ((e::es).length+([]:List Keyword).length+(if ([]:List Keyword).isEmpty then 0 else 1)<30))=true:=by rfl)
    (hline:(apos.endLine == cpos.line)=true:=by rfl) (hs:starEach (e::es) X.env=(false,eval e X.env)::starEach es X.env:=by rfl) (hplain:(backTo cpos (starEach es X.env)).any (·.1)=false:=by rfl):
    PE X (.Call (.Attribute o name apos) (e::es) [] cpos) (tBM X.K T r to t):=by
  intro pins s σ H Q I h;refine wpAny_Call_method_late hbase hfew hline rfl (thn (ho pins s σ H _ I h) λ v s1 ⟨x,H1,I1,r1,ty,q1⟩=> ?_);obtain ⟨h1,h2⟩:=HU I1 r1 ty;refine ⟨T,id,pa,slot,hty,h1,h2,?_⟩;have hA:=ha cpos pins s1 σ H1 _ I1 q1;rw [hs] at hA ⊢;refine Calls.callWith_builtin (by show (false||(backTo cpos (starEach es X.env)).any (·.1))=false;rw [hplain] <;> rfl) (Calls.evalArgs_plain ?_);exact thn hA λ us s2 ⟨vs,H2,I2,r2,q2⟩=>hm pins s2 σ H2 x vs v us Q I2 r1 r2 q2
end
def MtM (X:Cx) (id:String) (r:V->List V->Hp->VK->Prop):Prop:=
  ∀ (pins:List (Addr × Obj)) (s:Shared) (σ:St) (H:Hp) (x:V) (xs:List V) (v:Value) (us:List Value) (Q:VK),Inv X pins σ H s->RelV x v->Vals xs us->r x xs H Q->
    wpAny (model X.prog X.w) X.A (call (.builtin id) (v::us)) (EP X pins σ Q) X.xe s
theorem Vals.one:∀ {x:V} {us:List Value},Vals [x] us->∃ u,us=[u]/\RelV x u
  | _,_, .cons r .nil=>⟨_,rfl,r⟩
theorem Vals.zero:∀ {us:List Value},Vals [] us->us=[]
  | _, .nil=>rfl
theorem Vals.dropLast {xs:List V} {us:List Value} (h:Vals xs us):Vals xs.dropLast us.dropLast:=by
  induction h with
  | nil=>exact .nil
  | cons r t ih=>
    cases t with
    | nil=>exact .nil
    | cons q t'=>exact .cons r ih
theorem Vals.eraseIdx:∀ {xs:List V} {us:List Value} (i:Nat),Vals xs us->Vals (xs.eraseIdx i) (us.eraseIdx i)
  | _,_,_, .nil=> .nil
  | _,_,0, .cons _ t=>t
  | _,_,i+1, .cons r t=> .cons r (Vals.eraseIdx i t)
theorem Vals.rep {xs:List V} {us:List Value} (h:Vals xs us):∀ k:Nat,Vals (List.replicate k xs).flatten (List.replicate k us).flatten
  | 0=> .nil
  | k+1=>by
    rw [List.replicate_succ,List.replicate_succ,List.flatten_cons,List.flatten_cons];exact Vals.append h (Vals.rep h k)
theorem Gx {α:Type} (l:List α):l.eraseIdx (l.length - 1)=l.dropLast:=by
  induction l with
  | nil=>rfl
  | cons a r ih=>
    cases r with
    | nil=>rfl
    | cons b r=>
      have e:(a::b::r).length - 1=((b::r).length - 1)+1:=by
        have h1:(a::b::r).length=r.length+2:=rfl;have h2:(b::r).length=r.length+1:=rfl;omega
      rw [e,List.eraseIdx_cons_succ,ih]
      all_goals rfl
theorem Fa (its:List Value):∀ (k:Nat) (acc:List Value),
    List.foldl (λ x1 x2=>x1++x2) acc.toArray (List.replicate k its.toArray)=(acc++(List.replicate k its).flatten).toArray
  | 0,acc=>by simp
  | k+1,acc=>by
    have e:acc.toArray++its.toArray=(acc++its).toArray:=by simp
    have e2:(acc++its)++(List.replicate k its).flatten=acc++(List.replicate (k+1) its).flatten:=by
      rw [List.replicate_succ,List.flatten_cons,List.append_assoc]
    rw [<-e2, <-Fa its k (acc++its), <-e,List.replicate_succ,List.foldl_cons]
section
variable {X:Cx} {pins:List (Addr × Obj)} {σ:St} {H:Hp} {s:Shared} {l b:Addr} {xs ys zs:List V}
theorem Inv.lset {its its':List Value} {n:Nat} {f:Array Value->Array Value} {t':Nat} (I:Inv X pins σ H s) (hH:H l=some (.lst xs))
    (e:s.heap.get? l=some { cls:= .type "list",data:= .seq its.toArray n }) (hf:f its.toArray=its'.toArray) (hv:Vals ys its') (hz:ys.length<=sizeLine):
    Inv X pins σ (upd H l (.lst ys)) { s with heap:=s.heap.update l (Obj.mapSeq f),toks:=t' }:=by
  have q:=PySem.IsL.update e f;rw [hf] at q;refine I.write (x:=l) (e:=l) (by rw [hH];exact trivial) (.inl rfl) (λ b' u hb hu=>(Heap.get?_update_other s.heap (Obj.mapSeq f) (Ne.symm hb)).trans hu) ⟨_,q⟩ ?_;exact ⟨hz,its',_,hv,q⟩
theorem Inv.lnew {its:List Value} {t':Nat} (I:Inv X pins σ H s) (hv:Vals ys its) (hz:ys.length<=sizeLine):
    Inv X pins σ (upd H s.heap.objs.size (.lst ys)) { s with heap:=s.heap.push { cls:= .type "list",data:= .seq its.toArray },toks:=t' }:=
  I.laid (λ _ _ q=>Heap.get?_push_of_some _ q) (Nat.le_refl _) ⟨hz,its,0,hv,Heap.get?_push_size _ rfl⟩
theorem Inv.fresh (I:Inv X pins σ H s):H s.heap.objs.size=none:=I.hok.fresh (Nat.le_refl _)
theorem Inv.lstM (I:Inv X pins σ H s) (hH:H l=some (.lst xs)):xs.length<=sizeLine/\∃ (its:List Value) (n:Nat),Vals xs its/\xs.length=its.length/\s.heap.get? l=some { cls:= .type "list",data:= .seq its.toArray n }:=by
  obtain ⟨z,its,n,r,e⟩:=I.hok l _ hH;exact ⟨z,its,n,r,r.length,e⟩
theorem IL {n:Nat} (h:n<=sizeLine):Builtin.List.listTooLong n=false:=by
  unfold Builtin.List.listTooLong;exact decide_eq_false (by omega)
end
section
variable {X:Cx}
def rAppend:V->List V->Hp->VK->Prop:=λ x vs H Q=>∃ l xs y,x= .ref l/\vs=[y]/\H l=some (.lst xs)/\xs.length<sizeLine/\Q .non (upd H l (.lst (xs++[y])))
theorem Hq:MtM X "list.append" rAppend:=by
  intro pins s σ H x vs v us Q I rx rv h;obtain ⟨l,xs,y,rfl,rfl,hH,hz,q⟩:=h;cases rx;obtain ⟨u,rfl,ru⟩:=rv.one;obtain ⟨z,its,n,r,hl,e⟩:=I.lstM hH;refine call_meets F.slot_list_append ⟨_,e,rfl⟩ F.entry_list_append (F.args_list_append_2 _ _) (PySem.list_append l its.toArray n u (by rw [List.size_toArray];omega)) ⟨e,?_⟩;refine ⟨.non,_,I.lset (its':=its++[u]) hH e (by simp) (r.append (.cons ru .nil)) ?_,rfl,q⟩;rw [List.length_append,List.length_singleton];omega
def rPop:V->List V->Hp->VK->Prop:=λ x vs H Q=>∃ l xs y,x= .ref l/\vs=[]/\H l=some (.lst xs)/\xs[xs.length - 1]?=some y/\Q y (upd H l (.lst xs.dropLast))
theorem Mz:MtM X "list.pop" rPop:=by
  intro pins s σ H x vs v us Q I rx rv h;obtain ⟨l,xs,y,rfl,rfl,hH,hy,q⟩:=h;cases rx;have hus:=rv.zero;subst hus;obtain ⟨z,its,n,r,hl,e⟩:=I.lstM hH;obtain ⟨u,hu,ru⟩:=r.get hy;have hy':its.toArray[its.toArray.size - 1]?=some u:=by
    show its.toArray[its.length - 1]?=some u;rw [<-Array.getElem?_toList, <-hl];exact hu
  refine call_meets F.slot_list_pop ⟨_,e,rfl⟩ F.entry_list_pop (F.args_list_pop_1 _) (MeetsSeq.list_pop_last l its.toArray n u hy' (by rw [List.size_toArray];omega)) ⟨e,?_⟩;refine ⟨y,_,I.lset (its':=its.dropLast) hH e ?_ r.dropLast ?_,ru,q⟩
  · show its.toArray.eraseIdxIfInBounds (its.toArray.size - 1)=its.dropLast.toArray;rw [List.size_toArray,List.eraseIdxIfInBounds_toArray,Gx]
  · rw [List.length_dropLast];omega
def rClear:V->List V->Hp->VK->Prop:=λ x vs H Q=>∃ l xs,x= .ref l/\vs=[]/\H l=some (.lst xs)/\Q .non (upd H l (.lst []))
theorem Fz:MtM X "list.clear" rClear:=by
  intro pins s σ H x vs v us Q I rx rv h;obtain ⟨l,xs,rfl,rfl,hH,q⟩:=h;cases rx;have hus:=rv.zero;subst hus;obtain ⟨z,its,n,r,hl,e⟩:=I.lstM hH;refine call_meets F.slot_list_clear ⟨_,e,rfl⟩ F.entry_list_clear (F.args_list_clear_1 _) (AutoSeq1.list_clear_list_0 l its.toArray n (by rw [List.size_toArray];omega)) ⟨e,?_⟩;exact ⟨.non,_,I.lset (its':=[]) (ys:=[]) hH e rfl .nil (Nat.zero_le _),rfl,q⟩
def L7:R2:=λ x y H Q=>∃ l k xs,x= .ref l/\y= .int k/\H l=some (.lst xs)/\ -(2 ^ 63)<=k/\k<2 ^ 63/\xs.length*k.toNat<=sizeLine/\
  ∀ p,H p=none->Q (.ref p) (upd H p (.lst (List.replicate k.toNat xs).flatten))
theorem JC {α:Type} (xs:List α) (k:Nat):(List.replicate k xs).flatten.length=k*xs.length:=by
  induction k with
  | zero=>simp
  | succ k ih=>rw [List.replicate_succ,List.flatten_cons,List.length_append,ih,Nat.succ_mul,Nat.add_comm]
theorem KJ:OpR X (binaryOp .Mult) L7:=by
  intro pins s σ H x y v u Q I rx ry h;obtain ⟨l,k,xs,rfl,rfl,hH,h1,h2,hz,q⟩:=h;cases rx;obtain ⟨t,rfl⟩:=ry;obtain ⟨z,its,n,r,hl,e⟩:=I.lstM hH;have hlen:its.toArray.size*k.toNat<=sizeLine:=by rw [List.size_toArray, <-hl];exact hz
  have hcap:¬ its.toArray.size*k.toNat>(2 ^ 63 - 1) / 8:=by
    have:(sizeLine:Nat)<=(2 ^ 63 - 1) / 8:=by decide
    omega
  have hfit:¬ (!Builtin.List.listFitsIndex k)=true:=by
    rw [fitsIndex_both h1 h2];exact Bool.false_ne_true
  have hlong:¬ Builtin.List.listTooLong (its.toArray.size*k.toNat)=true:=by
    rw [IL hlen];exact Bool.false_ne_true
  have hnew:List.foldl (λ x1 x2=>x1++x2) #[] (List.replicate (if its.toArray.isEmpty=true then 0 else k.toNat) its.toArray)=(List.replicate k.toNat its).flatten.toArray:=by
    have f0:∀ m:Nat,List.foldl (λ x1 x2=>x1++x2) #[] (List.replicate m its.toArray)=(List.replicate m its).flatten.toArray:=λ m=>by
      have:=Fa its m [];rw [List.nil_append] at this;exact this
    rw [f0];cases its with
    | nil=>simp
    | cons a r'=>rw [if_neg (by simp)]
  refine wpAny_binaryOp_repeat_ref (T:="list") (U:="int") (by decide) ⟨_,e,rfl⟩ (λ s'=>typeIs_int s' k t) noFill_list_mul F.fills_int_mul F.slot_int_rmul repeat_list F.slot_int_index.lookup
    (call_meets F.slot_int_rmul (typeIs_int s k t) F.entry_int_rmul (F.args_int_rmul_2 _ _) (int___rmul___int_list k t l its.toArray n)
      ⟨e,rfl,⟨_,e,rfl⟩,call_meets F.slot_list_mul ⟨_,e,rfl⟩ F.entry_list_mul (F.args_list_mul_2 _ _) (AutoListH.list___mul___list_int_3 l its.toArray n k t hfit hcap hlong) ⟨e,?_⟩⟩)
  rw [hnew];exact ⟨.ref _,_,I.lnew (t':=s.toks) (r.rep k.toNat) (by rw [JC,Nat.mul_comm];exact hz),rfl,q _ I.fresh⟩
end
section
variable {prog:Program} {w:World} {A:Around} {E:Value->Shared->Prop} {s:Shared}
end
section
variable {X:Cx}
end
end L2
namespace Att
open PySem PySem.W PySem.Calls PyProof.Rows
theorem Dy {P:Params} {h:Heap}:∀ (ns:List Int) (vs:List Value),WellAll P h vs (ns.map WData.int)->IntsAre vs ns:=by
  intro ns
  induction ns with
  | nil=>
    intro vs w;rw [List.map_nil] at w;cases w;exact .nil
  | cons n ns ih=>
    intro vs w;rw [List.map_cons] at w;cases w with
    | cons a b=>
      cases a;exact .cons _ _ (ih _ b)
theorem Hi {l:OpenLaw} {n:Nat} (hn:l.most=some n) {P:Params} {h:Heap} {args:List WData} {vals:List Value}
    (hpre:l.row.toRowW.claim.pre args=true) (hwl:WellAll P h vals args):
    ∃ a vs ns,vals=[Value.ref a]/\args=[WData.list (ns.map WData.int)]/\h.get? a=some { cls:= .type "list",data:= .seq vs.toArray }/\IntsAre vs ns/\ns.length<=n:=by
  have hsh:WShape.hasAll [] args [.list .int]=true:=(pre_splitW hpre).1;have hc:l.pre.holds [] { args:=args }=true:=(pre_splitW hpre).2;obtain ⟨d,r,rfl,h1,h2⟩:=hasAllW_cons hsh;obtain rfl:=hasAllW_nil h2;obtain ⟨xs,rfl,h3⟩:=hasW_list h1;obtain ⟨ns,rfl⟩:=items_int h3;have hlen:ns.length<=n:=by
    unfold OpenLaw.pre at hc;have h4:(WTm.not (.lt (.lit (.int (n:Int))) (.len (.arg 0)))).holds [] { args:=[.list (ns.map .int)] }=true:=by
      have h4:=(holds_andW hc).1;rw [hn] at h4;exact h4
    have h5:=condW_of h4 (w_not (w_lt w_lit (w_len_list (w_arg rfl))));rw [List.length_map] at h5;refine Nat.le_of_not_lt λ q=> ?_;have q':(n:Int)<((ns.length:Nat):Int):=by omega
    first
      | (rw [decide_eq_true q'] at h5;exact absurd h5 (by decide))
      | (simp at h5;omega)
  cases hwl with
  | cons w1 w2=>
    cases w2;cases w1 with
    | list ho hall=>exact ⟨_,_,ns,rfl,rfl,ho,Dy ns _ hall,hlen⟩
theorem Hu (l:OpenLaw) (args:List WData):l.row.toRowW.claim.post args (.bool true) args=true:=
  postW_of (r:=l.row.toRowW) (X:=(true == true))
    (show WShape.has [] (.bool true) .bool=true by first | rfl | decide | simp [WShape.has,WShape.arms,WShape.armsAll])
    (show (WTm.eq .res (.lit (.bool true))).value [] { args:=args,res:=some (.bool true),after:=args }=some (.bool (true == true)) from w_eq_bool (w_res rfl) w_lit) rfl
theorem attach_call {l:OpenLaw} {n:Nat} {q:Program} {loose:List Str} {XP:(Str->Option Value)->Heap->Prop} {YP:World->Heap->Prop} {d:DefRec}
    (hn:l.most=some n) (hdf:d.params.defaults=[])
    (call:∀ (w:World) (s₀ s₁:Shared) (mg mb:Str->Option Value) (fa:Addr) (o:Obj) (pm cd doc:Value) (a:Addr) (vs:List Value) (ns:List Int),
      Ground q loose [] XP w s₀ mg mb s₁.heap->YP w s₁.heap->
      s₁.heap.get? fa=some o->o.data= .func (docDef d.name d.params d.body d.scope pm cd doc)->s₁.heap.CodeRec cd d.name->mg d.name=some (.ref fa)->
      s₁.heap.get? a=some { cls:= .type "list",data:= .seq vs.toArray }->IntsAre vs ns->ns.length<=n->s₁.gens= #[]->
      codeAny (model l.prog w) callerA (.call (.ref fa) ⟨[.ref a],[]⟩) (λ r s'=>r= .ok (.ret (.bool true))/\OldK s₁.heap s'.heap/\s'.os=s₁.os/\AllBare s'.gens) s₁):
    WalkO q loose XP YP l.row.toRowW d [] (λ f vs=>PySem.call f vs):=by
  intro w s₀ s₁ mg mb G Y fa o pm cd doc dV kV ho hd hcd hD hmg hg args vals as hpre hlay hrd hwl hlo;obtain rfl:dV= .none:=Dflts.none hD hdf;obtain rfl:kV= .none:=Dflts.noKw hD;obtain ⟨a,vs,ns,rfl,rfl,hobj,hints,hlen⟩:=Hi hn hpre hwl;refine enter_call (codeAny_mono (call w s₀ s₁ mg mb fa o pm cd doc a vs ns G Y ho (fd_plain hd) hcd hmg hobj hints hlen hg) λ r s' hq=> ?_);obtain ⟨rfl,h2,h3,h4⟩:=hq;exact ⟨.inl ⟨.bool true, .bool true,[],rfl,λ _=>rfl, .bool true,Hu l _,λ _=>⟨List.Pairwise.nil,λ _ hm=>(nomatch hm)⟩⟩,h2,h3,h4⟩
section
variable {prog:Program} {w:World} {A:Around} {E:Value->Shared->Prop} {s:Shared} {K:Frag}
end
end Att
namespace L2
open PySem PySem.Spec PyProof.Rows
theorem ES:∀ {vs:List Value} {ns:List Int},IntsAre vs ns->Vals (ns.map V.int) vs
  | _,_, .nil=> .nil
  | _,_, .cons n t h=> .cons ⟨t,rfl⟩ (ES h)
def Lw (H:Hp):Prop:=∀ b,H b=none\/∃ o xs,H b=some (.frz o (.lst xs))
theorem Ib {P:Program} {w:World} {K:PySem.W.Frag} {mg mb:Str->Option Value} {CX:CXT} {k:Nat} {fa a:Addr} {fd:FuncData} {x:Str} {sp:Sp} {s₁:Shared} {vs:List Value} {ns:List Int}
    (KX:K.In s₁.heap) (hns:s₁.heap.Ns mainGlobals mg) (hb:s₁.heap.Ns builtinsNs mb) (hbb:∀ x:Str,x≠"__name__"->mb x=bootBuiltins x) (hlim:s₁.heap.NoLimit) (hg:s₁.gens= #[])
    (ha:s₁.heap.get? a=some { cls:= .type "list",data:= .seq vs.toArray }) (hi:IntsAre vs ns) (hl:ns.length<=sizeLine) (hr:Room k callerA)
    (F:∀ base:Heap,K.In base->base.Ns mainGlobals mg->FnOk P w K mg base CX k fa fd [x] sp) (hbind:∀ (s:Shared) (u:Value),BindsTo s fd ⟨[u],[]⟩ [(x,u)])
    (hsp:∀ H:Hp,Lw H->SqL K H a (ns.map V.int)->sp [.ref a] H (λ v _=>v= .bl true) λ _ _ _=>False)
    (hCX:∀ H e s',CX [] H s₁ (λ _ _ _=>False) e s'->False):
    codeAny (model P w) callerA (.call (.ref fa) ⟨[.ref a],[]⟩) (λ r s'=>r= .ok (.ret (.bool true))/\OldK s₁.heap s'.heap/\s'.os=s₁.os/\AllBare s'.gens) s₁:=by
  have rv:=ES hi;have lenV:=hi.length;have core:∀ H:Hp,Lw H->SqL K H a (ns.map V.int)->HOk P w H s₁.heap->(∀ b,H b≠none->b=a)->(H a≠none->K.lookup a=none)->
      codeAny (model P w) callerA (.call (.ref fa) ⟨[.ref a],[]⟩) (λ r s'=>r= .ok (.ret (.bool true))/\OldK s₁.heap s'.heap/\s'.os=s₁.os/\AllBare s'.gens) s₁:=by
    intro H hO hS hok hA hK;have base_of:∀ {b:Addr} {o:Obj},s₁.heap.get? b=some o->H b=none->(Fv s₁.heap H).get? b=some o:=λ e n=>Ig e n;have noA:∀ {b:Addr} {o:Obj} {es:Array DictEntry} {ep:Nat},s₁.heap.get? b=some o->o.data= .dict es ep->H b=none:=λ {b o es ep} e d=>by
      cases q:H b with
      | none=>rfl
      | some u=>
        have e':b=a:=hA b (by rw [q];simp);subst e';rw [ha] at e;cases e;have d':Data.seq vs.toArray _=Data.dict es ep:=d;cases d'
    have nsK:∀ {b:Addr} {m:Str->Option Value},s₁.heap.Ns b m->(Fv s₁.heap H).Ns b m:=λ {b m} ⟨o,es,ep,e,d,r⟩=>⟨o,es,ep,base_of e (noA e d),d,r⟩;have hKb:K.In (Fv s₁.heap H):=λ b o e=>base_of (KX b o e) (by
      cases q:H b with
      | none=>rfl
      | some u=>
        have e':b=a:=hA b (by rw [q];simp);subst e';rw [hK (by rw [q];simp)] at e;cases e)
    have hM:Mod K mg (Fv s₁.heap H):=⟨hKb,nsK hns,⟨mb,nsK hb,hbb⟩,let ⟨mc,h1,h2⟩:=hlim;⟨mc,nsK h1,h2⟩⟩;have e0:Env0 P w K mg (Fv s₁.heap H) callerA [] s₁ H:=⟨rfl,hM,λ b o e=>JT e,Nat.le_of_eq (G4 _ _),trivial,λ b hb=>absurd (show b∈([]:List Addr) from hb) (by simp),hok, .of_eq hg⟩;refine codeAny_mono ((F _ hKb (nsK hns)).run callerA [] s₁ H ⟨[.ref a],[]⟩ [.ref a] [.ref a] _ _ hr e0 (hbind s₁ (.ref a)) (.cons rfl .nil) (hsp H hO hS)) λ r s' h=> ?_;cases r with
    | error e=>exact (hCX H e s' h).elim
    | ok fl=>
      cases fl with
      | next=>exact False.elim h
      | brk=>exact False.elim h
      | cont=>exact False.elim h
      | ret u=>
        obtain ⟨v,H',os,bare,un,hok',r',q⟩:=h;have q':v= .bl true:=q;subst q';obtain rfl:u=Value.bool true:=r';refine ⟨rfl,OldK.of_keep λ b o e=> ?_,os,bare⟩;cases q:H b with
        | none=>exact un.keep b o e q (by intro z;exact absurd (show b∈([]:List Addr) from z) (by simp)) (by simp)
        | some u=>
          rcases hO b with z | ⟨ob,xs,z⟩
          · rw [q] at z;cases z
          · have z2:=un.frzs b ob _ z;obtain ⟨e1,_⟩:=hok b _ z;obtain ⟨e2,_⟩:=hok' b _ z2;rw [e] at e1;cases e1;exact e2
  cases hk:K.lookup a with
  | some o=>
    have e:=KX a o hk;rw [ha] at e;cases e;refine core (λ _=>none) (λ _=> .inl rfl) (.inr ⟨_,vs.toArray,_,hk,rfl,rfl,rfl,by rw [List.size_toArray,lenV];exact hl,by simpa using rv⟩) (λ b u z=>by have z':(none:Option HO)=some u:=z;cases z') (λ b z=>absurd rfl z) λ z=>absurd rfl z
  | none=>
    refine core (λ b=>if b=a then some (.frz { cls:= .type "list",data:= .seq vs.toArray } (.lst (ns.map V.int))) else none) (λ b=> ?_) (.inl (.inr ⟨{ cls:= .type "list",data:= .seq vs.toArray },if_pos rfl⟩)) (λ b u z=> ?_) (λ b z=> ?_) λ _=>hk
    · by_cases hb:b=a
      · exact .inr ⟨_,_,if_pos hb⟩
      · exact .inl (if_neg hb)
    · by_cases hb:b=a
      · have z':=(if_pos hb).symm.trans z;cases z';subst hb;exact ⟨ha,by rw [List.length_map];exact hl,vs,_,rv,ha⟩
      · have z':=(if_neg hb).symm.trans z;cases z'
    · by_cases hb:b=a
      · exact hb
      · exact absurd (if_neg hb) z
theorem walk_of {l:PySem.W.OpenLaw} {n k:Nat} {q:Program} {loose:List Str} {XP:(Str->Option Value)->Heap->Prop} {YP:World->Heap->Prop} {d:DefRec} {K:Params->PySem.W.Frag} {CX:World->CXT} {sp:World->Sp} {x:Str}
    (hn:l.most=some n) (hn2:n<=sizeLine) (hdf:d.params.defaults=[]) (hr:Room k callerA)
    (hY:∀ (w:World) (h:Heap),YP w h->(K w.params).In h)
    (F:∀ (w:World) (mg:Str->Option Value) (fa:Addr) (h:Heap),(K w.params).In h->h.Ns mainGlobals mg->mg d.name=some (.ref fa)->
      ∃ fd:FuncData,(∀ (s:Shared) (u:Value),BindsTo s fd ⟨[u],[]⟩ [(x,u)])/\
        ∀ base:Heap,(K w.params).In base->base.Ns mainGlobals mg->FnOk l.prog w (K w.params) mg base (CX w) k fa fd [x] (sp w))
    (hsp:∀ (w:World) (H:Hp) (a:Addr) (ns:List Int),ns.length<=n->Lw H->SqL (K w.params) H a (ns.map V.int)->sp w [.ref a] H (λ v _=>v= .bl true) λ _ _ _=>False)
    (hCX:∀ (w:World) (H:Hp) (s:Shared) (e:Value) (s':Shared),CX w [] H s (λ _ _ _=>False) e s'->False):
    PySem.W.WalkO q loose XP YP l.row.toRowW d [] (λ f vs=>PySem.call f vs):=by
  refine Att.attach_call hn hdf λ w s₀ s₁ mg mb fa o pm cd doc a vs ns G Y ho hd hcd hmg hobj hints hlen hg=> ?_;have KX:=hY w _ Y;obtain ⟨fd,hb,hF⟩:=F w mg fa _ KX G.T.g hmg;exact Ib KX G.T.g G.T.b G.T.builtins G.T.nolimit hg hobj hints (Nat.le_trans hlen hn2) hr hF hb (λ H hO hS=>hsp w H a ns hlen hO hS) λ H e s'=>hCX w H s₁ e s'
abbrev CX0:CXT:=λ _ _ _ _ _ _=>False
abbrev E0:XK:=λ _ _ _=>False
theorem H0 {X:Cx}:AQ CX0 X E0:=λ _ _ _ _ _ _ _ h=>h.elim
structure Fun (K:PySem.W.Frag) (x qual:Str) (st:Stmt) (f:Addr) (fd:FuncData):Prop where
  ex:∃ (oc:Value) (od:Option Addr) (kV doc pm:Value) (an:Option Addr) (cdv ct:Value) (osl:Array (Option Value)),
    fd=PySem.W.fnOf x qual (DD st) (Ce st) (Ah st) .none kV doc pm an cdv ct/\K.lookup f=some ⟨oc,od, .func fd,osl⟩/\PySem.W.codeIn K cdv qual=true
  kp:PySem.W.keepIn K (.ref f)=true
section
variable {P:Program} {w:World} {K:PySem.W.Frag} {mg:Str->Option Value} {base:Heap}
theorem Fun.ok {x qual:Str} {st:Stmt} {f:Addr} {fd:FuncData} {N ps:List Str} {k:Nat} {sp:Sp} (F:Fun K x qual st f fd) (S:FnScope N ps (Ah st)) (len:∀ vs H Q E,sp vs H Q E->vs.length=ps.length)
    (hbody:∀ (cdv:Value) (A:Around) (outer:List Env) (s:Shared) (H:Hp) (vs:List V) (Q:VK) (E:XK),Room k (A.deeper (envOfC qual (Ah st) s.heap.objs.size f cdv))->sp vs H Q E->
      ∃ t,PSs (BR CX0 P w K mg base N qual (Ah st) f cdv A outer s H E).nox (Ce st) t/\t { nx:=λ _ H'=>Q .non H',rt:=Q } (start N vs) H):FnOk P w K mg base CX0 (k+1) f fd ps sp:=by
  obtain ⟨oc,od,kV,doc,pm,an,cdv,ct,osl,rfl,lk,hcd⟩:=F.ex;refine J4 lk hcd S len λ A outer s H vs Q E hr hsp=> ?_;obtain ⟨t,h,q⟩:=hbody cdv A outer s H vs Q E hr hsp;exact ⟨t,h.nox,q⟩
theorem fun_mk {x qual:Str} {st:Stmt} {f:Addr} {oc:Value} {od an:Option Addr} {osl:Array (Option Value)} {kV doc pm cdv ct:Value} (l:K.lookup f=some ⟨oc,od, .func (PySem.W.fnOf x qual (DD st) (Ce st) (Ah st) .none kV doc pm an cdv ct),osl⟩)
    (c:PySem.W.codeIn K cdv qual=true) (k:PySem.W.keepIn K (.ref f)=true):Fun K x qual st f (PySem.W.fnOf x qual (DD st) (Ce st) (Ah st) .none kV doc pm an cdv ct):=⟨⟨oc,od,kV,doc,pm,an,cdv,ct,osl,rfl,l,c⟩,k⟩
end
section
variable {X:Cx}
theorem pv (i:Nat) {x:Str} {pos:Pos} (hN:X.N[i]?=some x:=by rfl) (hv:Vis X.env.scope x:=by first | exact Or.inl rfl | exact Or.inr (Or.inl rfl) | exact Or.inr (Or.inr rfl)) (hd:(x == ("__debug__":Str))=false:=by decide)
    (hcd:(x == ("__classdict__":Str))=false:=by decide):PE X (.Name x pos) (Lk i):=Ld hN hv hd hcd
end
theorem Fl {A B:Prop} (h:B):if false=true then A else B:=by
  rw [if_neg Bool.false_ne_true];exact h
theorem Jp {A B:Prop} (h:A):if true=true then A else B:=by
  rw [if_pos rfl];exact h
def Same (H H':Hp):Prop:=∀ b o,H b=some o->H' b=some o
theorem Same.refl (H:Hp):Same H H:=λ _ _ h=>h
theorem Same.trans {H H1 H2:Hp} (a:Same H H1) (b:Same H1 H2):Same H H2:=λ c o h=>b c o (a c o h)
theorem Same.free {H H':Hp} (e:Same H H') {l:Addr} (h:H' l=Option.none):H l=Option.none:=by
  cases q:H l with
  | none=>rfl
  | some o=>
    rw [e l o q] at h;cases h
theorem Same.seq {K:PySem.W.Frag} {H H':Hp} {a:Addr} {xs:List V} (e:Same H H') (h:SqL K H a xs):SqL K H' a xs:=by
  rcases h with (h | ⟨o,h⟩) | h
  · exact .inl (.inl (e _ _ h))
  · exact .inl (.inr ⟨o,e _ _ h⟩)
  · exact .inr h
section
variable {κ:Type} [DecidableEq κ]
theorem KV.length {kvs:List (κ × V)} {vs:List (κ × Value)} (r:KV kvs vs):kvs.length=vs.length:=Paired.length r
end
section
variable {P:Program} {w:World} {H:Hp} {h:Heap} {a:Addr}
end
section
variable {X:Cx} {pins:List (Addr × Obj)} {σ:St} {H:Hp} {s:Shared} {a:Addr} {y v:V} {u r:Value} {o:Option V} {A:Around} {E:Value->Shared->Prop}
theorem Inv.big (I:Inv X pins σ H s):sysModules<s.heap.objs.size:=by
  have h:mainGlobals<s.heap.objs.size:=(I.mod.glob.keeps I.bk).lt;exact Nat.lt_trans (by decide) h
end
section
variable {X:Cx} {pins:List (Addr × Obj)} {σ:St} {H:Hp} {s:Shared} {a:Addr} {kvs:List (Key × V)} {k:Key} {u:Value} {A:Around} {E:Value->Shared->Prop}
end
section
variable {X:Cx} {o i e value:Expr} {pos pos' tpos:Pos} {td ty tv:TE}
end
theorem IV {P:Program} {w:World} {H:Hp} (h:Heap) (hb:sysModules<h.objs.size):ObjOk P w H (h.push { cls:= .type "dict",data:= .dict #[] }) h.objs.size (.dK []):=
  ⟨Nat.zero_le _,beq_eq_false_iff_ne.mpr (Ne.symm (Nat.ne_of_lt hb)),[], .nil,Heap.DictOf.new h⟩
def Kz:TE:=λ _ H Q=>∀ p,H p=none->Q (.ref p) (upd H p (.dK []))
section
variable {X:Cx} {pos:Pos}
theorem IQ:PE X (.Dict [] [] pos) Kz:=λ pins s σ H Q I h=>
  wpAny_Dict_empty ⟨.ref s.heap.objs.size,_,I.laid (a:=s.heap.objs.size) (o:= .dK []) (t':=s.toks) (λ _ _ q=>Heap.get?_push_of_some _ q) (Nat.le_refl _) (IV s.heap I.big),rfl,h _ (I.hok.fresh (Nat.le_refl _))⟩
end
section
variable {X:Cx} {pins:List (Addr × Obj)} {σ:St} {H:Hp} {s:Shared} {a:Addr} {y d:V} {u r:Value} {o:Option V} {A:Around} {E:Value->Shared->Prop}
end
section
variable {X:Cx} {o e f:Expr} {apos cpos:Pos} {td ty tx:TE}
end
section
variable {X:Cx} {pins:List (Addr × Obj)} {σ:St} {H:Hp} {s:Shared} {a:Addr} {kvs:List (Key × V)} {A:Around} {E:Value->Shared->Prop}
end
section
variable {X:Cx} {pins:List (Addr × Obj)} {σ:St} {H:Hp} {s:Shared} {a:Addr} {y:V} {u:Value} {A:Around} {E:Value->Shared->Prop}
end
section
variable {P:Program} {w:World} {K:PySem.W.Frag} {mg:Str->Option Value} {base:Heap}
end
section
variable {X:Cx}
end
section
variable {κ:Type} [DecidableEq κ]
end
def Az (cells:List (Str × Addr)):List (Str × NameKind)->List (Str × Addr)->List (Str × Addr)
  | [],acc=>acc
  | (n,k)::r,acc=>Az cells r (if k= .free then (match cells.lookup n with | some a=>(n,a)::acc | none=>acc) else acc)
theorem Co {env:Env}:∀ (names:List (Str × NameKind)) (acc:List (Str × Addr)),(∀ y∈names,y.2= .free->∃ c,env.cells.lookup y.1=some c)->
    (forIn names acc λ (x:Str × NameKind) (r:List (Str × Addr))=>
      (if (x.2 == NameKind.free)=true then (do let a <-cellOf env x.1;pure (ForInStep.yield ((x.1,a)::r))) else pure (ForInStep.yield r):Sem (ForInStep (List (Str × Addr)))))=(pure (Az env.cells names acc):Sem (List (Str × Addr)))
  | [],acc,_=>rfl
  | (n,k)::rest,acc,h=>by
    rw [List.forIn_cons];have ih:=λ acc'=>Co (env:=env) rest acc' λ y hy=>h y (List.mem_cons_of_mem _ hy);by_cases hk:k= .free
    · subst hk;obtain ⟨c,hc⟩:=h (n, .free) List.mem_cons_self rfl;have hc:env.cells.lookup n=some c:=hc;have e:cellOf env n=pure c:=by unfold cellOf;rw [hc]
      simp only [beq_self_eq_true,if_true,e,pure_bind,Az,hc];exact ih _
    · have hb:(k == NameKind.free)=false:=by simpa using hk
      simp only [hb,Bool.false_eq_true,if_false,pure_bind,Az,if_neg hk];exact ih _
theorem EC {env:Env} {scope:Scope} (h:∀ y∈scope.names,y.2= .free->∃ c,env.cells.lookup y.1=some c):closureFor scope env=pure (Az env.cells scope.names []):=by
  have e:=Co (env:=env) scope.names [] h;unfold closureFor;simp only [bind_pure_comp,bind_pure,map_pure] at*;exact e
theorem Ej {cells:List (Str × Addr)}:∀ (names:List (Str × NameKind)) (acc:List (Str × Addr)),(∀ x c,acc.lookup x=some c->cells.lookup x=some c)->∀ x c,(Az cells names acc).lookup x=some c->cells.lookup x=some c
  | [],acc,h,x,c,e=>h x c e
  | (n,k)::r,acc,h,x,c,e=>by
    refine Ej r _ ?_ x c e;intro y d q;split at q
    · split at q
      · rename_i a ha
        rw [List.lookup_cons] at q;split at q
        · rename_i hy
          cases q;rw [eq_of_beq hy];exact ha
        · exact h y d q
      · exact h y d q
    · exact h y d q
theorem En {cells:List (Str × Addr)}:∀ (names:List (Str × NameKind)) (acc:List (Str × Addr)) (x:Str),(((x,NameKind.free)∈names/\∃ c,cells.lookup x=some c)\/∃ c,acc.lookup x=some c)->∃ c,(Az cells names acc).lookup x=some c
  | [],acc,x,h=>by
    rcases h with ⟨h,_⟩ | h
    · cases h
    · exact h
  | (n,k)::r,acc,x,h=>by
    refine En r _ x ?_;have up:(∃ c,acc.lookup x=some c)->∃ c,(if k= .free then (match cells.lookup n with | some a=>(n,a)::acc | none=>acc) else acc).lookup x=some c:=by
      rintro ⟨c,hc⟩;split
      · split
        · rename_i a ha
          rw [List.lookup_cons];split
          · exact ⟨_,rfl⟩
          · exact ⟨c,hc⟩
        · exact ⟨c,hc⟩
      · exact ⟨c,hc⟩
    rcases h with ⟨h,c,hc⟩ | h
    · rcases List.mem_cons.mp h with e | e
      · cases e;right;refine ⟨c,?_⟩;rw [if_pos rfl,hc,List.lookup_cons,beq_self_eq_true]
      · exact .inl ⟨e,c,hc⟩
    · exact .inr (up h)
theorem Ef (env:Env) (x:Str):∀ names:List (Str × NameKind),
    (names.map λ (n,k)=>if (k == NameKind.free&&env.scope.kind == .function&&env.kindOf n == some .cell) then (n,NameKind.cell) else (n,k)).lookup x=
      (names.lookup x).map λ k=>if (k == NameKind.free&&env.scope.kind == .function&&env.kindOf x == some .cell)=true then NameKind.cell else k
  | []=>rfl
  | (n,k)::r=>by
    have ih:=Ef env x r;show List.lookup x ((if (k == NameKind.free&&env.scope.kind == .function&&env.kindOf n == some .cell)=true then (n,NameKind.cell) else (n,k))::_)=_;cases hx:x == n with
    | true=>
      have e:x=n:=eq_of_beq hx;subst e;by_cases hc:(k == NameKind.free&&env.scope.kind == .function&&env.kindOf x == some .cell)=true
      · rw [if_pos hc,List.lookup_cons,List.lookup_cons,beq_self_eq_true];simp only [Option.map_some,if_pos hc]
      · rw [if_neg hc,List.lookup_cons,List.lookup_cons,beq_self_eq_true];simp only [Option.map_some,if_neg hc]
    | false=>
      have e:(List.lookup x ((n,k)::r))=List.lookup x r:=by rw [List.lookup_cons,hx]
      rw [e, <-ih];split <;> rw [List.lookup_cons,hx]
structure BlkScope (X:Cx) (scope:Scope) (own:List Str) (fr:List (Str × Nat)):Prop where
  kind:scope.kind= .function
  nocell:∀ y∈scope.names,y.2≠ .cell
  loc:∀ y∈scope.names,y.2= .local->scope.names.lookup y.1=some .local
  free:∀ y∈scope.names,y.2= .free->(X.env.scope.names.lookup y.1=some .cell\/X.env.scope.names.lookup y.1=some .free)
  fr:∀ p∈fr,X.N[p.2]?=some p.1/\(p.1,NameKind.free)∈scope.names
  only:∀ x,(x,NameKind.free)∈scope.names->scope.names.lookup x=some .free
def AM (X:Cx) (scope:Scope) (own:List Str) (fr:List (Str × Nat)) (C:Addr) (ex:List Addr) (s:Shared) (H:Hp):Cx where
  prog:=X.prog
  w:=X.w
  K:=X.K
  mg:=X.mg
  base:=X.base
  A:=X.A
  N:=own++fr.map (·.1)
  s₀:=s
  H₀:=H
  env:=compEnvC scope (Az X.env.cells scope.names []) C X.env
  outer:=X.stack
  stack:=X.stack
  ex:=ex
  fn:=λ _=>false
  calm:=X.calm
  pn:=[]
  xe:=λ _ _=>False
def CV (own:List Str) (fr:List (Str × Nat)) (σ:St):St:=own.map (λ _=>none)++fr.map (λ p=>(σ[p.2]?).getD none)
section
variable {X:Cx} {pins:List (Addr × Obj)} {σ:St} {H:Hp} {s:Shared} {scope:Scope} {own:List Str} {fr:List (Str × Nat)} {fp:List Addr}
theorem BlkScope.cells (S:BlkScope X scope own fr) (ok:X.Ok):∀ y∈scope.names,y.2= .free->∃ c,X.env.cells.lookup y.1=some c:=λ y hy e=>ok.has y.1 (S.free y hy e)
theorem Inv.block {h':Heap} {t':Nat} {m:Str->Option Value} (I:Inv X pins σ H s) (S:BlkScope X scope own fr) (hf:∀ b∈fp,Cj X pins H b) (hlt:∀ b∈fp,b<s.heap.objs.size)
    (hns:h'.Ns s.heap.objs.size m) (k:∀ b o,s.heap.get? b=some o->h'.get? b=some o):
    Inv (AM X scope own fr s.heap.objs.size fp s H) [] (CV own fr σ) H { s with heap:=h',toks:=t' }:=by
  have cs:∀ x c,(Az X.env.cells scope.names []).lookup x=some c->X.env.cells.lookup x=some c:=Ej _ _ (λ _ _ e=>by simp at e);have ck:∀ c v,s.heap.IsCell c v->h'.IsCell c v:=λ c v ⟨o,ho,hd⟩=>⟨o,k _ _ ho,hd⟩;have kf:∀ x,(x,NameKind.free)∈scope.names->∃ c,X.env.cells.lookup x=some c/\(Az X.env.cells scope.names []).lookup x=some c:=λ x hx=>by
    obtain ⟨c0,e0⟩:=S.cells I.ok (x, .free) hx rfl;obtain ⟨c,e⟩:=En (cells:=X.env.cells) scope.names [] x (.inl ⟨hx,c0,e0⟩);exact ⟨c,cs _ _ e,e⟩
  have rel:∀ x,(compEnvC scope (Az X.env.cells scope.names []) s.heap.objs.size X.env).kindOf x=(scope.names.lookup x).map λ k=>if (k == NameKind.free&&X.env.scope.kind == .function&&X.env.kindOf x == some .cell)=true then NameKind.cell else k:=λ x=>Ef X.env x scope.names
  have nc:∀ x,scope.names.lookup x≠some .cell:=λ x e=>S.nocell _ (PySem.mem_of_lookup e) rfl;refine ⟨⟨I.ok.mod,S.kind,I.ok.glob,I.ok.blt,Nat.le_refl _,λ x y c e1 e2=>I.ok.inj x y c (cs _ _ e1) (cs _ _ e2),λ x hx=> ?_,λ x c e _=>(nomatch e),I.ok.hd,I.ok.frames, .inl rfl,
    λ b hb=>⟨Nat.ne_of_lt (hlt b hb),λ x c e=>(hf b hb).2.2.2.2.1 x c (cs _ _ e)⟩,I.bs,Nat.le_trans I.ok.bsz I.sz,λ b o e hb=> ?_,λ b hb z=>(List.mem_cons.mp (I.stkSub b z)).elim (hf b hb).2.1 (hf b hb).2.2.1,I.stack,I.stkFree⟩,
    rfl,I.bare,Un.kept k,⟨m,hns,λ i x v e1 e2 e3=> ?_⟩,λ x c e=> ?_,I.hok.fresh (Nat.le_refl _),λ x c e=>I.freeC x c (cs _ _ e),λ p hp=>absurd (show p∈([]:List (Addr × Obj)) from hp) (by simp),I.hok.kept k,?_⟩
  · have hx:(compEnvC scope (Az X.env.cells scope.names []) s.heap.objs.size X.env).kindOf x=some .cell\/(compEnvC scope (Az X.env.cells scope.names []) s.heap.objs.size X.env).kindOf x=some .free:=hx;rw [rel x] at hx;have q:scope.names.lookup x=some .free:=by
      cases e:scope.names.lookup x with
      | none=>rw [e] at hx;simp at hx
      | some kk=>
        rw [e] at hx;simp only [Option.map_some,Option.some.injEq] at hx;by_cases hk:kk= .free
        · rw [hk]
        · have hb:(kk == NameKind.free)=false:=by simpa using hk
          simp only [hb,Bool.false_and,Bool.false_eq_true,if_false] at hx;rcases hx with hx | hx
          · rw [hx] at e;exact absurd e (nc x)
          · exact absurd hx hk
    obtain ⟨c,_,e⟩:=kf x (PySem.mem_of_lookup q);exact ⟨c,e⟩
  · rcases (hf b hb).2.2.2.1 with z | z
    · exact I.ok.noex b o e z
    · exact absurd (Nat.lt_of_lt_of_le (Heap.lt_size (I.ok.bs b o e).1) z) (Nat.lt_irrefl _)
  · have e1:(own++fr.map (·.1))[i]?=some x:=e1;have e2:(CV own fr σ)[i]?=some (some v):=e2;unfold CV at e2;by_cases hi:i<own.length
    · rw [List.getElem?_append_left (by simpa using hi),List.getElem?_map] at e2;rw [List.getElem?_eq_getElem hi] at e2;simp at e2
    · rw [List.getElem?_append_right (by simpa using hi),List.getElem?_map,List.length_map] at e2;rw [List.getElem?_append_right (by omega),List.getElem?_map] at e1;cases ep:fr[i - own.length]? with
      | none=>rw [ep] at e1;simp at e1
      | some p=>
        rw [ep] at e1 e2;simp only [Option.map_some,Option.some.injEq] at e1 e2;subst e1;obtain ⟨h1,h2⟩:=S.fr p (List.mem_of_getElem? ep);have e4:σ[p.2]?=some (some v):=by
          cases q:σ[p.2]? with
          | none=>rw [q] at e2;simp at e2
          | some z=>rw [q] at e2;simp at e2;rw [e2]
        have kx:=S.free _ h2 rfl;obtain ⟨m0,hn0,hl0⟩:=I.loc;obtain ⟨u,r,l⟩:=hl0 p.2 p.1 v h1 e4 (kx.elim (λ z=> .inr (.inl z)) λ z=> .inr (.inr z));refine ⟨u,r,?_⟩;rcases l with ⟨z,_⟩ | ⟨_,c,hc,hcell⟩
        · have z:X.env.scope.names.lookup p.1=some .local:=z;rcases kx with y | y <;> (rw [y] at z;cases z)
        · obtain ⟨c',q1,q2⟩:=kf p.1 h2;rw [hc] at q1;cases q1;refine .inr ⟨?_,c,q2,ck _ _ hcell⟩;show (compEnvC scope (Az X.env.cells scope.names []) s.heap.objs.size X.env).kindOf p.1=some .cell\/(compEnvC scope (Az X.env.cells scope.names []) s.heap.objs.size X.env).kindOf p.1=some .free;have e3:(compEnvC scope (Az X.env.cells scope.names []) s.heap.objs.size X.env).kindOf p.1=some .local\/(compEnvC scope (Az X.env.cells scope.names []) s.heap.objs.size X.env).kindOf p.1=some .cell\/(compEnvC scope (Az X.env.cells scope.names []) s.heap.objs.size X.env).kindOf p.1=some .free:=e3;rcases e3 with e3 | e3
          · exfalso;rw [rel] at e3;cases e:scope.names.lookup p.1 with
            | none=>rw [e] at e3;cases e3
            | some kk=>
              rw [e] at e3;simp only [Option.map_some,Option.some.injEq] at e3;by_cases hk:kk= .free
              · subst hk;split at e3 <;> cases e3
              · have hb:(kk == NameKind.free)=false:=by simpa using hk
                simp only [hb,Bool.false_and,Bool.false_eq_true,if_false] at e3;subst e3;have:=S.only p.1 h2;rw [this] at e;cases e
          · exact e3
  · obtain ⟨v,z⟩:=I.cell x c (cs _ _ e);exact ⟨v,ck _ _ z⟩
  · unfold CV;show _=(own++fr.map (·.1)).length;simp
end
theorem FW {prog:Program} {w:World} {A:Around} {R:Result->Shared->Prop} {s:Shared} {elt target iter:Expr} {ifs:List Expr} {scope:Scope} {pos:Pos} {it acc:Value} {env:Env} (I:Nat->Shared->Prop)
    (turn:∀ n s,I n s->wpAny (model prog w) A (pyNext it) (λ r s₁=>match r with
      | none=>R (.ok .next) s₁
      | some v=>wpAny (model prog w) A (letOwnedTupleGo target it v) (λ _ s₁'=>wpAny (model prog w) A (assign target env v) (λ _ s₂=>
          wpAny (model prog w) A (forIn ifs true λ c r=>if r=true then do let ok <-isTrue c env (eval c env);pure (ForInStep.yield ok) else pure (ForInStep.yield r)) (λ ok s₃=>
            if ok=true then wpAny (model prog w) A (eval elt env) (λ x s₄=>
              wpAny (model prog w) A (call (.builtin "list.append") [acc,x]) (λ _ s₅=>∃ m,m<n/\I m s₅) (λ _ _=>False) s₄) (λ _ _=>False) s₃
            else ∃ m,m<n/\I m s₃) (λ _ _=>False) s₂) (λ _ _=>False) s₁') (λ _ _=>False) s₁) (λ _ _=>False) s)
    (n:Nat) (h:I n s):codeAny (model prog w) A (.compLoop (.ListComp elt [⟨target,iter,ifs,0⟩] scope pos) 0 it acc env) R s:=by
  refine codeAny_loop rfl I (λ n s hI=> ?_) n h;show wpAny _ A ((compTurn (.ListComp elt [⟨target,iter,ifs,0⟩] scope pos) 0 it acc env).onRaise (λ x=>do noteFrame x env;theTreesLotGoes x)) _ _ s;refine wpAny_noted ?_;rw [compTurn_list];refine wpAny_bind (wpAny_standAt (wpAny_bind (wpAny_mono (turn n s hI) (λ r s₁ h₁=> ?_) λ _ _ f=>f.elim)));cases r with
  | none=>exact wpAny_pure h₁
  | some v=>
    refine wpAny_bind (wpAny_mono h₁ (λ _ s₁' h₁'=>wpAny_bind (wpAny_mono h₁' (λ _ s₂ h₂=>wpAny_bind (wpAny_mono h₂ (λ ok s₃ h₃=> ?_) λ _ _ f=>f.elim)) λ _ _ f=>f.elim)) λ _ _ f=>f.elim);cases ok with
    | false=>exact wpAny_pure ⟨rfl,h₃⟩
    | true=>
      exact wpAny_bind (wpAny_bind (wpAny_mono h₃ (λ x s₄ h₄=>wpAny_bind (wpAny_mono h₄ (λ _ s₅ h₅=>wpAny_pure (wpAny_pure ⟨rfl,h₅⟩)) λ _ _ f=>f.elim)) λ _ _ f=>f.elim))
section
variable {X:Cx}
def PTs (X:Cx) (ifs:List Expr) (tc:TT):Prop:=
  ∀ (pins:List (Addr × Obj)) (s:Shared) (σ:St) (H:Hp) (Q:Bool->Hp->Prop),Inv X pins σ H s->tc σ H Q->
    wpAny (model X.prog X.w) X.A (forIn ifs true λ c r=>if r=true then do let ok <-isTrue c X.env (eval c X.env);pure (ForInStep.yield ok) else pure (ForInStep.yield r)) (TP X pins σ Q) X.xe s
def JW:TT:=λ _ H Q=>Q true H
theorem Cc:PTs X [] JW:=λ _ _ _ H _ I h=>wpAny_tests_nil ⟨H,I,h⟩
theorem GP {c:Expr} {tc:TT} (h:PT X c tc):PTs X [c] tc:=λ pins s σ H Q I q=>wpAny_tests_one (h pins s σ H Q I q)
def Kp (σ0 σ:St):Prop:=σ.length=σ0.length/\∀ (i:Nat) (v:V),σ0[i]?=some (some v)->σ[i]?=some (some v)
theorem Kp.refl (σ:St):Kp σ σ:=⟨rfl,λ _ _ h=>h⟩
theorem Kp.set {σ0 σ:St} {i:Nat} {v:V} (k:Kp σ0 σ) (h:σ0[i]?=some none):Kp σ0 (σ.set i (some v)):=by
  refine ⟨by rw [List.length_set];exact k.1,λ j u e=> ?_⟩;by_cases hj:i=j
  · subst hj;rw [h] at e;cases e
  · rw [List.getElem?_set_ne hj];exact k.2 j u e
def Ds (J:It) (σ0:St) (g:TG) (tc:TT) (te:TE) (Q:VK) (H1:Hp) (D:Addr):Prop:=
  ∃ W:Nat->Nat->List V->Hp->Prop,(∃ m,W 0 m [] (upd H1 D (.lst [])))/\∀ i m ys H,W i m ys H->
    (J.stop i H/\Q (.ref D) H)\/(J.go i H/\∃ N:List V->Hp->Prop,(∀ ys' H',N ys' H'->∃ m',m'<m/\W (i+1) m' ys' H')/\∀ x H',J.yld i H x H'->g x σ0 H' λ σ2 H2=>Kp σ0 σ2/\tc σ2 H2 λ b H3=>
      if b=true then te σ2 H3 λ y H4=>H4 D=some (.lst ys)/\ys.length<sizeLine/\N (ys++[y]) (upd H4 D (.lst (ys++[y]))) else N ys H3)
def GG (wi:TI) (own:List Str) (fr:List (Str × Nat)) (g:TG) (tc:TT) (te:TE):TE:=λ σ H Q=>wi σ H λ J H1=>∀ D,H1 D=none->Ds J (CV own fr σ) g tc te Q H1 D
theorem Ic {elt tg iter:Expr} {ifs:List Expr} {scope:Scope} {pos:Pos} {own:List Str} {fr:List (Str × Nat)} {g:TG} {tc:TT} {te:TE} (hc:X.calm=true) (S:BlkScope X scope own fr)
    (hg:∀ C ex s H,PG (AM X scope own fr C ex s H) tg g) (ht:∀ C ex s H,PTs (AM X scope own fr C ex s H) ifs tc) (he:∀ C ex s H,PE (AM X scope own fr C ex s H) elt te)
    {pins:List (Addr × Obj)} {σ:St} {H:Hp} {s:Shared} {it:Addr} {fp:List Addr} {tn:Nat->Heap->Prop} {J:It} {E:Value->Shared->Prop}
    (I:Inv X pins σ H s) (T:Turn X.prog X.w X.K tg J fp it tn) (st:tn 0 s.heap) (hf:∀ b∈fp,Cj X pins H b) {Q:VK}
    (h:∀ D,H D=none->Ds J (CV own fr σ) g tc te Q H D)
    {RR:Value->Addr->Result->Shared->Prop}
    (hR:∀ D C H' s',Inv X pins σ H' s'->(∃ m,s'.heap.Ns C m)->Cj X pins H' C->Q (.ref D) H'->RR (.ref D) C (.ok .next) s'):
    wpAny (model X.prog X.w) X.A (newList []) (λ acc s₃=>wpAny (model X.prog X.w) X.A (newFunctionEnv scope X.env.globals (Az X.env.cells scope.names []) [] X.env.qual none .none (some X.env)) (λ cenv s₄=>
      codeAny (model X.prog X.w) X.A (.compStart (.ListComp elt [⟨tg,iter,ifs,0⟩] scope pos) 0 (.ref it) acc { cenv with scope:=relabel scope X.env }) (RR acc cenv.locals) s₄) E s₃) E s:=by
  have hDn:H s.heap.objs.size=none:=I.fresh;obtain ⟨W,⟨m0,w0⟩,turn⟩:=h s.heap.objs.size hDn;have I3:Inv X pins σ (upd H s.heap.objs.size (.lst [])) { s with heap:=s.heap.push { cls:= .type "list",data:= .seq ([]:List Value).toArray },toks:=s.toks }:=I.lnew .nil (Nat.zero_le _);refine wpAny_newObj_type ?_;generalize hs3:({ s with heap:=s.heap.push { cls:= .type "list",data:= .seq ([]:List Value).toArray } }:Shared)=s3 at I3 ⊢;have I3:Inv X pins σ (upd H s.heap.objs.size (.lst [])) s3:=I3;have old3:∀ b o,s.heap.get? b=some o->s3.heap.get? b=some o:=λ b o e=>by rw [<-hs3];exact Heap.get?_push_of_some _ e
  have hobj:∀ b∈fp,∃ o,s.heap.get? b=some o/\∀ v,o.data≠ .cell v:=T.obj 0 _ st;have hne:∀ b∈fp,b≠s.heap.objs.size:=λ b hb=>by obtain ⟨o,e,_⟩:=hobj b hb;exact Nat.ne_of_lt (Heap.lt_size e)
  have hf3:∀ b∈fp,Cj X pins (upd H s.heap.objs.size (.lst [])) b:=λ b hb=>⟨by rw [Am (hne b hb)];exact (hf b hb).1,(hf b hb).2⟩;have hlt3:∀ b∈fp,b<s3.heap.objs.size:=λ b hb=>by obtain ⟨o,e,_⟩:=hobj b hb;exact Heap.lt_size (old3 b o e)
  refine wpAny_newFunctionEnv S.nocell (by intro y hy;simp at hy) (λ h₁ hns hsb=> ?_) S.kind;have keep:∀ b o,s3.heap.get? b=some o->h₁.get? b=some o:=λ b o e=>hsb.extBut b o (Nat.ne_of_lt (Heap.lt_size e)) (Heap.get?_push_of_some _ e);have J0:=I3.block (t':=s3.toks+([]:List (Str × Value)).length) S hf3 hlt3 hns keep;have st3:tn 0 h₁:=T.keep 0 _ _ st λ b hb o e=>keep b o (old3 b o e);have loop:codeAny (model X.prog X.w) X.A (.compLoop (.ListComp elt [⟨tg,iter,ifs,0⟩] scope pos) 0 (.ref it) (.ref s.heap.objs.size) (compEnvC scope (Az X.env.cells scope.names []) s3.heap.objs.size X.env))
      (RR (.ref s.heap.objs.size) s3.heap.objs.size) { s3 with heap:=h₁,toks:=s3.toks+([]:List (Str × Value)).length }:=by
    have stat:∀ {H':Hp},(∀ b∈fp,H' b=none)->∀ b∈fp,Cj (AM X scope own fr s3.heap.objs.size fp s3 (upd H s.heap.objs.size (.lst []))) [] H' b:=λ {H'} hn b hb=>
      ⟨hn b hb,Nat.ne_of_lt (hlt3 b hb),J0.ok.exfs b hb, .inl hb,(J0.ok.exf b hb).2,λ p hp=>absurd (show p∈([]:List (Addr × Obj)) from hp) (by simp)⟩
    refine FW (λ n s'=>∃ i ys H',Inv (AM X scope own fr s3.heap.objs.size fp s3 (upd H s.heap.objs.size (.lst []))) [] (CV own fr σ) H' s'/\tn i s'.heap/\(∀ b∈fp,H' b=none)/\W i n ys H') ?_ m0
      ⟨0,[],_,J0,st3,λ b hb=>(hf3 b hb).1,w0⟩
    rintro n s4 ⟨i,ys,H4,I4,st4,fr4,w4⟩;rcases turn i n ys H4 w4 with ⟨stop,q⟩ | ⟨go,N,hN,step⟩
    · refine thn (T.done (AM X scope own fr s3.heap.objs.size fp s3 (upd H s.heap.objs.size (.lst []))) rfl rfl rfl hc i [] s4 _ H4 (λ _ _=>False) I4 (stat fr4) st4 stop) λ r s5 ⟨hr,I5⟩=> ?_;subst hr;obtain ⟨m,hn,_⟩:=id I5.loc;exact hR _ _ H4 s5 (I3.call' I5.os I5.base I5.hok I5.bare λ b hb=>⟨(hf3 b hb).2.2.2.1,(hf3 b hb).2.1,(hf3 b hb).2.2.2.2.1,(hf3 b hb).2.2.2.2.2⟩) ⟨m,hn⟩ (I3.fpOk (Nat.le_refl _) I5.free) q
    · refine thn (T.item (AM X scope own fr s3.heap.objs.size fp s3 (upd H s.heap.objs.size (.lst []))) rfl rfl rfl hc i [] s4 _ H4 (λ _ _=>False) I4 (stat fr4) st4 go) λ r s5 ⟨u,hr,h5⟩=> ?_;subst hr;refine thn h5 λ _ s6 ⟨x,H6,I6,r6,y6,st6,fr6⟩=> ?_;have I6':=I6.pinned (stat fr6) (T.obj _ _ st6);refine thn (hg _ _ _ _ _ s6 _ H6 x u _ I6' r6 (step x H6 y6)) λ _ s7 ⟨σ7,H7,I7,kp,q7⟩=> ?_;refine thn (ht _ _ _ _ _ s7 σ7 H7 _ I7 q7) λ b s8 ⟨H8,I8,q8⟩=> ?_;have again:∀ {s9:Shared} {H9:Hp} {ys':List V},Inv (AM X scope own fr s3.heap.objs.size fp s3 (upd H s.heap.objs.size (.lst []))) ([]++Ee fp s6.heap) σ7 H9 s9->N ys' H9->
          ∃ m,m<n/\∃ i ys H',Inv (AM X scope own fr s3.heap.objs.size fp s3 (upd H s.heap.objs.size (.lst []))) [] (CV own fr σ) H' s9/\tn i s9.heap/\(∀ b∈fp,H' b=none)/\W i m ys H':=λ {s9 H9 ys'} I9 n9=>by
        obtain ⟨m',hm,w9⟩:=hN ys' H9 n9;refine ⟨m',hm,i+1,ys',H9,I9.unpinned.weak kp.1.symm kp.2,T.keep _ _ _ st6 λ b hb o e=>(I9.pin (b,o) (List.mem_append_right _ (List.mem_append_right _ (BH hb e)))).1,λ b hb=> ?_,w9⟩;obtain ⟨o,e,d⟩:=T.obj _ _ st6 b hb;exact (I9.pin (b,o) (List.mem_append_right _ (List.mem_append_right _ (BH hb e)))).2.1
      cases b with
      | false=>
        rw [if_neg Bool.false_ne_true] at q8 ⊢;exact again I8 q8
      | true=>
        rw [if_pos rfl] at q8 ⊢;refine thn (he _ _ _ _ _ s8 σ7 H8 _ I8 q8) λ xv s9 ⟨y,H9,I9,r9,hD,hl,n9⟩=> ?_;refine thn (Hq _ s9 σ7 H9 (.ref s.heap.objs.size) [y] (.ref s.heap.objs.size) [xv] (λ _ H'=>H'=upd H9 s.heap.objs.size (.lst (ys++[y]))) I9 rfl (.cons r9 .nil) ⟨_,ys,y,rfl,rfl,hD,hl,rfl⟩) λ _ s10 ⟨_,H10,I10,_,q10⟩=> ?_;subst q10;exact again I10 n9
  exact codeAny_compStart_list loop (T.self _ 0 _ _ _ st3 loop)
theorem GR {elt tg iter:Expr} {ifs:List Expr} {scope:Scope} {pos:Pos} {own:List Str} {fr:List (Str × Nat)} {wi:TI} {g:TG} {tc:TT} {te:TE} (hc:X.calm=true) (S:BlkScope X scope own fr) (hi:PI X tg iter wi)
    (hg:∀ C ex s H,PG (AM X scope own fr C ex s H) tg g) (ht:∀ C ex s H,PTs (AM X scope own fr C ex s H) ifs tc) (he:∀ C ex s H,PE (AM X scope own fr C ex s H) elt te)
    (hs:∀ x,foldedSetIterable iter X.env x=pure x:=by intro _;rfl):PE X (.ListComp elt [⟨tg,iter,ifs,0⟩] scope pos) (GG wi own fr g tc te):=by
  intro pins s σ H Q I h;rw [eval_ListComp];refine wpAny_comprehension_free (use:=none) rfl hs (EC (S.cells I.ok)) S.kind S.loc (thn (hi pins s σ H _ I h) λ xv s₁ h₁=>thn h₁ λ itv s₂ h₂=> ?_);obtain ⟨it,fp,tn,J,H2,rfl,I2,T,st2,f2,h2⟩:=h₂;refine Ic (RR:=λ acc C=>compPost (model X.prog X.w) X.A X.xe none (EP X pins σ Q) acc C) hc S hg ht he I2 T st2 f2 h2 ?_;rintro D C H' s' I' ⟨m,hn⟩ f q;exact ⟨m,hn,λ h' sb=>⟨.ref D,H',I'.turned (t':=s'.toks) (it:=C) (λ b o hb e=>(sb.2 b hb).trans e) f.1 f.2.1 f.2.2.2.1 f.2.2.2.2.1 f.2.2.2.2.2,rfl,q⟩⟩
end
section
variable {X:Cx} {tg:Expr}
end
section
variable {X:Cx}
theorem Hn (bs:List Bool):(List.range bs.length).all (λ i=>bs.getD i true)=bs.all id:=by
  rw [Bool.eq_iff_iff,List.all_eq_true,List.all_eq_true];constructor
  · intro h b hb;obtain ⟨i,hi,rfl⟩:=List.getElem_of_mem hb;have:=h i (by simpa using hi);rw [List.getD_eq_getElem?_getD,List.getElem?_eq_getElem hi] at this;exact this
  · intro h i hi;have hi:i<bs.length:=by simpa using hi
    rw [List.getD_eq_getElem?_getD,List.getElem?_eq_getElem hi];exact h _ (List.getElem_mem hi)
theorem Iy (hc:X.calm=true):Bb X (.builtin "all") (λ xs H Q=>∃ (p:Addr) (bs:List Bool),xs=[.ref p]/\SqL X.K H p (bs.map V.bl)/\Q (.bl (bs.all id)) H):=by
  intro pins s σ H xs us Q I r h;obtain ⟨p,bs,rfl,hq,q⟩:=h;obtain ⟨u,rfl,rx⟩:=ET r;cases rx;obtain ⟨its,rv,pl,_⟩:=I.list hq;have hl:=rv.length;rw [List.length_map] at hl;obtain ⟨o,ho,_⟩:=id pl.isList;have hne:p≠s.heap.objs.size:=Nat.ne_of_lt (Heap.lt_size ho);refine call_all_walk (wpAny_pyIter_list pl.isList ?_);refine ⟨s.heap.objs.size,_,_,_,_,_,λ i=>bs.getD i true,rfl,Walks.list (A:=X.A.in1) (I.ok.hd hc) _ p hne its.toArray,⟨⟨_,Heap.get?_push_size _ rfl,rfl,rfl⟩,pl.isList.at λ o e=>Heap.get?_push_of_some _ e⟩,?_,λ h' tk hk=> ?_⟩
  · intro i v s' Q' E' hv hQ';have hv:its[i]?=some v:=by simpa using hv
    have hi:i<bs.length:=by rw [hl];exact (List.getElem?_eq_some_iff.mp hv).1
    obtain ⟨u,hu,ru⟩:=rv.get (i:=i) (x:= .bl (bs.getD i true)) (by rw [List.getElem?_map,List.getD_eq_getElem?_getD,List.getElem?_eq_getElem hi];rfl);rw [hu] at hv;cases hv;cases ru;exact wpAny_truthy_bool hQ'
  · have e:its.toArray.size=bs.length:=by rw [List.size_toArray];exact hl.symm
    rw [e,Hn];exact ⟨.bl _,H,I.kept λ b o e=>hk b o (λ z=>by simp at z;exact absurd (Heap.lt_size e) (by rw [z];exact Nat.lt_irrefl _)) (Heap.get?_push_of_some _ e),rfl,q⟩
theorem FI:Bb X (.builtin "isinstance") (λ xs H Q=>∃ x n t b,xs=[x, .ty n]/\TyOf X.K H x t/\PySem.W.kitOne X.K t (.type n)=some b/\Q (.bl b) H):=by
  intro pins s σ H xs us Q I r h;obtain ⟨x,n,t,b,rfl,ty,e,q⟩:=h;obtain ⟨u,c,rfl,rx,rc⟩:=Kl r;cases rc;exact EO I rx ty e λ tk=>⟨.bl b,H,I.tok tk,rfl,q⟩
def IH (K:PySem.W.Frag):R2:=λ x y H Q=>∃ l b xs zs,x= .ref l/\y= .ref b/\SqL K H l xs/\SqL K H b zs/\xs.length+zs.length<=sizeLine/\∀ p,H p=none->Q (.ref p) (upd H p (.lst (xs++zs)))
theorem JA:OpR X (binaryOp .Add) (IH X.K):=by
  intro pins s σ H x y v u Q I rx ry h;obtain ⟨l,b,xs,zs,rfl,rfl,hH,hB,hz,q⟩:=h;cases rx;cases ry;obtain ⟨its,r,pl,_⟩:=I.list hH;obtain ⟨its2,r2,pl2,_⟩:=I.list hB;have h1:=r.length;have h2:=r2.length;obtain ⟨⟨cls,dd,data,sl⟩,n,ho,hc,hdd,hd⟩:=pl;obtain ⟨⟨cls2,dd2,data2,sl2⟩,n2,ho2,hc2,hdd2,hd2⟩:=pl2;simp only at hc hdd hd hc2 hdd2 hd2;subst hc hdd hd hc2 hdd2 hd2;refine concat_meets ⟨_,ho,rfl⟩ ⟨_,ho2,rfl⟩ noFill_list_add seq_list_add PySem.F.slot_list_add PySem.F.entry_list_add (PySem.F.args_list_add_2 _ _) (list_addW l b its.toArray its2.toArray n n2 none none sl sl2 (by rw [List.size_toArray,List.size_toArray];omega)) ⟨ho,ho2,?_⟩;have e:its.toArray++its2.toArray=(its++its2).toArray:=by simp
  rw [e];exact ⟨.ref _,_,I.lnew (t':=s.toks) (r.append r2) (by rw [List.length_append];omega),rfl,q _ I.fresh⟩
def Fc (xs ys:List V):Bool:=xs.length == ys.length&&(List.range xs.length).all λ i=>eqV (xs.getD i .non) (ys.getD i .non)
theorem EV {xs:List V} (h:xs.all AE=true) {i:Nat} (hi:i<xs.length):AE (xs.getD i .non)=true:=by
  rw [List.getD_eq_getElem?_getD,List.getElem?_eq_getElem hi];exact (List.all_eq_true.mp h) _ (List.getElem_mem hi)
def Kw (K:PySem.W.Frag) (neg:Bool):R2:=λ x y H Q=>∃ p q xs ys,x= .ref p/\y= .ref q/\SqL K H p xs/\SqL K H q ys/\xs.all AE=true/\ys.all AE=true/\Q (.bl (if neg then !Fc xs ys else Fc xs ys)) H
theorem Gh {A:Around} {s:Shared} {xs ys:List V} {its its2:List Value} (r:Vals xs its) (r2:Vals ys its2) (fx:xs.all AE=true) (fy:ys.all AE=true):
    ∀ j (h1:j<its.toArray.size) (h2:j<its2.toArray.size),SeqAt.EqAt A s its.toArray[j] its2.toArray[j] (eqV (xs.getD j .non) (ys.getD j .non)):=λ j h1 h2=>by
  have l1:=r.length;have l2:=r2.length;have h1':j<its.length:=by simpa using h1
  have h2':j<its2.length:=by simpa using h2
  have g1:xs[j]?=some (xs.getD j .non):=by rw [List.getD_eq_getElem?_getD,List.getElem?_eq_getElem (by omega)];rfl
  have g2:ys[j]?=some (ys.getD j .non):=by rw [List.getD_eq_getElem?_getD,List.getElem?_eq_getElem (by omega)];rfl
  obtain ⟨u,e1,ru⟩:=r.get g1;obtain ⟨u2,e2,ru2⟩:=r2.get g2;have q1:its.toArray[j]=u:=by rw [List.getElem?_eq_getElem h1'] at e1;simpa using Option.some.inj e1
  have q2:its2.toArray[j]=u2:=by rw [List.getElem?_eq_getElem h2'] at e2;simpa using Option.some.inj e2
  rw [q1,q2];exact IT ru ru2 (EV fx (by omega)) (EV fy (by omega))
theorem Lr (hu:X.A.units<cLine):OpR X (compareOp .Eq) (Kw X.K false):=by
  intro pins s σ H x y v u Q I rx ry h;obtain ⟨p,q,xs,ys,rfl,rfl,h1,h2,fx,fy,hq⟩:=h;cases rx;cases ry;obtain ⟨its,r,pl,_⟩:=I.list h1;obtain ⟨its2,r2,pl2,_⟩:=I.list h2;have l1:=r.length;have l2:=r2.length;by_cases hl:xs.length=ys.length
  · refine SeqAt.eq_listAt pl.isList pl2.isList (by simp;omega) hu (Gh r r2 fx fy) ⟨.bl _,H,I,rfl,?_⟩;have e:Fc xs ys=(List.range its.toArray.size).all λ i=>eqV (xs.getD i .non) (ys.getD i .non):=by
      unfold Fc;rw [hl,beq_self_eq_true,Bool.true_and,List.size_toArray, <-l1,hl]
    rw [<-e];exact hq
  · refine SeqAt.eq_list_lengthsAt pl.isList pl2.isList (by simp;omega) hu ⟨.bl _,H,I,rfl,?_⟩;have e:Fc xs ys=false:=by unfold Fc;rw [beq_eq_false_iff_ne.mpr hl,Bool.false_and]
    rw [<-e];exact hq
theorem JF {α:Type} [DecidableEq α] (f:α->V) (hf:∀ a b,eqV (f a) (f b)=decide (a=b)) (as bs:List α):Fc (as.map f) (bs.map f)=decide (as=bs):=by
  unfold Fc;rw [Bool.eq_iff_iff,Bool.and_eq_true,List.all_eq_true,decide_eq_true_iff,beq_iff_eq,List.length_map,List.length_map];constructor
  · rintro ⟨h1,h2⟩;refine List.ext_getElem h1 λ i g1 g2=> ?_;have:=h2 i (by simpa using g1);rw [List.getD_eq_getElem?_getD,List.getD_eq_getElem?_getD,List.getElem?_map,List.getElem?_map,List.getElem?_eq_getElem g1,List.getElem?_eq_getElem g2] at this;have:=(hf _ _).symm.trans this;exact of_decide_eq_true this
  · rintro rfl;refine ⟨rfl,λ i hi=> ?_⟩;have hi:i<as.length:=by simpa using hi
    rw [List.getD_eq_getElem?_getD,List.getElem?_map,List.getElem?_eq_getElem hi];show eqV (f as[i]) (f as[i])=true;rw [hf];exact decide_eq_true rfl
theorem Iu (as bs:List Int):Fc (as.map V.int) (bs.map V.int)=decide (as=bs):=JF V.int (λ a b=>by show (a == b)=_;rw [Bool.eq_iff_iff,beq_iff_eq,decide_eq_true_iff]) as bs
theorem FA (as:List Int):(as.map V.int).all AE=true:=by simp [AE]
end
def Au (P:Program) (w:World) (K:PySem.W.Frag) (mg:Str->Option Value) (base:Heap) (x:Str) (k:Nat) (ps:List Str) (sp:Sp):Prop:=
  ∃ f fd,mg x=some (.ref f)/\PySem.W.keepIn K (.ref f)=true/\FnOk P w K mg base CX0 k f fd ps sp/\Binds K fd ps []
section
variable {X:Cx} {x:Str} {k:Nat} {ps:List Str} {sp:Sp} {e:Expr} {es:List Expr} {t:TA} {p pos:Pos}
theorem Ag (h:Au X.prog X.w X.K X.mg X.base x k ps sp) (hr:Room k X.A) (ha:PA X (e::es) t) (hg:Gl X x:=by rfl) (hdb:(x == ("__debug__":Str))=false:=by decide)
    (he:starEach (e::es) X.env=(false,eval e X.env)::starEach es X.env:=by rfl) (hpl:(backTo pos (starEach es X.env)).any (·.1)=false:=by rfl):
    PE X (.Call (.Name x p) (e::es) [] pos) (FV sp [] E0 t):=by
  obtain ⟨f,fd,hm,hk,F,hb⟩:=h;exact GN F hr hg hm hk hb .nil H0 ha hdb he hpl
end
structure DefAt (K:PySem.W.Frag) (mg:Str->Option Value) (x:Str) (st:Stmt) (ps:List Str) (f:Addr) (fd:FuncData):Prop where
  fn:Fun K x x st f fd
  at':mg x=some (.ref f)
  bi:Binds K fd ps []
theorem DefAt.call {P:Program} {w:World} {K:PySem.W.Frag} {mg:Str->Option Value} {base:Heap} {x:Str} {st:Stmt} {ps:List Str} {f:Addr} {fd:FuncData} {k:Nat} {sp:Sp} (d:DefAt K mg x st ps f fd)
    (F:FnOk P w K mg base CX0 k f fd ps sp):Au P w K mg base x k ps sp:=⟨f,fd,d.at',d.fn.kp,F,d.bi⟩
def Ie:V->Bool | .int _=>true | _=>false
def Kb:V->Bool | .bl _=>true | _=>false
def Ty (K:PySem.W.Frag) (H:Hp) (x:V):Prop:=∃ n,TyOf K H x (.type n)
def MN (n T:String):Option Bool:=if (Value.type n == Value.type T)=true then some true else if PySem.W.kitMeta T=true then (fastBuiltinMro n).map (·.contains (.type T)) else none
section
variable {K:PySem.W.Frag} {H:Hp} {x:V} {n:String}
theorem kb {n T:String} {b:Bool} (h:MN n T=some b):PySem.W.kitOne K (.type n) (.type T)=some b:=h
theorem Jz (h:TyOf K H x (.type n)):PySem.W.kitOne K (.type n) (.type "int")=some (Ie x||Kb x):=by
  cases h <;> first
    | exact (show PySem.W.kitOne K _ _=some true from kb (by decide +kernel))
    | exact (show PySem.W.kitOne K _ _=some false from kb (by decide +kernel))
theorem HQ (h:TyOf K H x (.type n)):PySem.W.kitOne K (.type n) (.type "bool")=some (Kb x):=by
  cases h <;> first
    | exact (show PySem.W.kitOne K _ _=some true from kb (by decide +kernel))
    | exact (show PySem.W.kitOne K _ _=some false from kb (by decide +kernel))
end
section
variable {X:Cx}
def Own (mg:Str->Option Value) (names:List Str):Prop:=∀ x∈names,mg x=none
theorem Hv:bootBuiltins "all"=some (.builtin "all"):=by decide +kernel
theorem CP {x:Str} {T:String} {pos:Pos} (hg:Gl X x) (hm:X.mg x=none) (hv:bootBuiltins x=some (.type T)) (hn:x≠"__name__":=by decide) (hd:(x == ("__debug__":Str))=false:=by decide):PE X (.Name x pos) (tC (.ty T)):=
  Je hg hm hv (show RelV (.ty T) (.type T) from rfl) hn hd
end
def FM (N:List Str) (scope:Scope):List (Str × Nat):=scope.names.filterMap λ y=>if y.2= .free then (N.findIdx? λ n=>decide (n=y.1)).map λ i=>(y.1,i) else none
def Dm (sc:Scope) (N:List Str) (scope:Scope) (own:List Str) (fr:List (Str × Nat)):Bool:=
  decide (scope.kind= .function)&&
  (scope.names.all λ y=>decide (y.2≠ .cell)&&(decide (y.2≠ .local)||decide (scope.names.lookup y.1=some .local))&&
    (decide (y.2≠ .free)||((decide (sc.names.lookup y.1=some .cell)||decide (sc.names.lookup y.1=some .free))&&decide (scope.names.lookup y.1=some .free))))&&
  (fr.all λ p=>decide (N[p.2]?=some p.1)&&decide ((p.1,NameKind.free)∈scope.names))&&
  (own.all λ x=>decide (scope.names.lookup x=some .local))&&decide ((own++fr.map (·.1)).Nodup)
section
variable {X:Cx} {scope:Scope} {own:List Str} {fr:List (Str × Nat)}
theorem BlkScope.of (h:Dm X.env.scope X.N scope own fr=true):BlkScope X scope own fr:=by
  unfold Dm at h;simp only [Bool.and_eq_true,List.all_eq_true,decide_eq_true_iff,Bool.or_eq_true] at h;obtain ⟨⟨⟨⟨h1,h2⟩,h3⟩,h4⟩,h5⟩:=h;exact ⟨h1,λ y hy=>(h2 y hy).1.1,λ y hy e=>(h2 y hy).1.2.resolve_left (λ z=>z e),λ y hy e=>((h2 y hy).2.resolve_left (λ z=>z e)).1,λ p hp=>h3 p hp,λ x hx=>((h2 _ hx).2.resolve_left (λ z=>z rfl)).2⟩
theorem Hd (h:Dm X.env.scope X.N scope own fr=true):(∀ x∈own,scope.names.lookup x=some .local)/\(own++fr.map (·.1)).Nodup:=by
  unfold Dm at h;simp only [Bool.and_eq_true,List.all_eq_true,decide_eq_true_iff,Bool.or_eq_true] at h;exact ⟨h.1.2,h.2⟩
theorem Gu {i:Nat} {x:Str} {px:Pos} (h:Dm X.env.scope X.N scope own fr=true) (hi:own[i]?=some x) (C:Addr) (ex:List Addr) (s:Shared) (H:Hp):PG (AM X scope own fr C ex s H) (.Name x px) (AC i):=by
  obtain ⟨h1,h2⟩:=Hd h;have hl:(relabel scope X.env).names.lookup x=some .local:=lookup_relabel_local (h1 x (List.mem_of_getElem? hi));have hlt:=(List.getElem?_eq_some_iff.mp hi).1;refine Bg h2 ?_ (.inl hl) (.inr hl);show (own++fr.map (·.1))[i]?=some x;rw [List.getElem?_append_left hlt];exact hi
theorem Bv {elt iter:Expr} {x:Str} {px:Pos} {ifs:List Expr} {pos:Pos} {wi:TI} {tc:TT} {te:TE} (hi:PI X (.Name x px) iter wi)
    (ht:∀ C ex s H,PTs (AM X scope [x] (FM X.N scope) C ex s H) ifs tc) (he:∀ C ex s H,PE (AM X scope [x] (FM X.N scope) C ex s H) elt te)
    (hb:Dm X.env.scope X.N scope [x] (FM X.N scope)=true:=by with_unfolding_all rfl) (hc:X.calm=true:=by rfl)
    (hs:∀ x,foldedSetIterable iter X.env x=pure x:=by intro _;rfl):PE X (.ListComp elt [⟨.Name x px,iter,ifs,0⟩] scope pos) (GG wi [x] (FM X.N scope) (AC 0) tc te):=
  GR hc (.of hb) hi (λ C ex s H=>Gu hb rfl C ex s H) ht he hs
end
def Le (K:PySem.W.Frag):List V->Hp->VK->Prop:=λ xs H Q=>∃ x n,xs=[x]/\LM K x H n/\Q (.int n) H
def Mp (K:PySem.W.Frag):List V->Hp->VK->Prop:=λ xs H Q=>∃ (p:Addr) (bs:List Bool),xs=[.ref p]/\SqL K H p (bs.map V.bl)/\Q (.bl (bs.all id)) H
def J9 (K:PySem.W.Frag):List V->Hp->VK->Prop:=λ xs H Q=>∃ x n t b,xs=[x, .ty n]/\TyOf K H x t/\PySem.W.kitOne K t (.type n)=some b/\Q (.bl b) H
def Ff (K:PySem.W.Frag):List V->Hp->VK->Prop:=λ xs H Q=>∃ p ys,xs=[.ref p]/\(SqL K H p ys\/SqT K H p ys)/\∀ l,H l=none->Q (.ref l) (upd H l (.lst ys))
def FD (K:PySem.W.Frag):List V->Hp->VK->Prop:=λ xs H Q=>∃ p ys,xs=[.ref p]/\((SqL K H p ys/\∀ l,H l=none->Q (.ref l) (upd H l (.tup ys)))\/(SqT K H p ys/\Q (.ref p) H))
section
variable {X:Cx} {K:PySem.W.Frag}
theorem BN (hK:X.K=K:=by rfl):Bb X (.builtin "len") (Le K):=by subst hK;exact Hz
theorem L8 (hK:X.K=K:=by rfl) (hc:X.calm=true:=by rfl):Bb X (.builtin "all") (Mp K):=by subst hK;exact Iy hc
theorem Ca (hK:X.K=K:=by rfl):Bb X (.builtin "isinstance") (J9 K):=by subst hK;exact FI
theorem HP (hK:X.K=K:=by rfl):Bb X (.type "list") (Ff K):=by subst hK;exact Fd
theorem GO (hK:X.K=K:=by rfl):Bb X (.type "tuple") (FD K):=by subst hK;exact Ey
theorem Dn (hK:X.K=K:=by rfl):IxR X (Ls K):=by subst hK;exact Jg
theorem Eb (hK:X.K=K:=by rfl):IxR X (Lo K):=by subst hK;exact LC
theorem E9 (hK:X.K=K:=by rfl):OpR X (binaryOp .Add) (IH K):=by subst hK;exact JA
theorem LT (hu:X.A.units<cLine) (hK:X.K=K:=by rfl):OpR X (compareOp .Eq) (Kw K false):=by subst hK;exact Lr hu
theorem GU (hK:X.K=K:=by rfl):SlR X (Ll K):=by subst hK;exact Jo
theorem E7 {tg l:Expr} {tl:TE} (hl:PE X l tl) (hK:X.K=K:=by rfl):PI X tg l (ID K tl):=by subst hK;exact JP hl
theorem LG {tg l:Expr} {tl:TE} (hl:PE X l tl) (hK:X.K=K:=by rfl):PI X tg l (KZ K tl):=by subst hK;exact KI hl
end
section
variable {X:Cx} {pins:List (Addr × Obj)} {σ:St} {H:Hp} {s:Shared} {h':Heap}
theorem Inv.turnedL {t':Nat} (ch:List Addr) (I:Inv X pins σ H s) (hf:∀ b∈ch,Cj X pins H b) (k:∀ b o,b∉ch->s.heap.get? b=some o->h'.get? b=some o):Inv X pins σ H { s with heap:=h',toks:=t' }:=by
  have nit:∀ b u,H b=some u->b∉ch:=λ b u e z=>by rw [(hf b z).1] at e;cases e
  refine I.step (g':=s.gens) (d':=s.drawn) (ch:=ch) (λ b hb=> ?_) (λ b o _ _ hc e _=>k b o hc e) (λ b o _ _ hc e _=>⟨o.slots,k b o hc e⟩) (λ _ _ _ _ n=>n)
    (λ b o hc e=>⟨o,k b o hc e⟩) (λ _ _ e=>e) (λ _ _ _ e=>e) (λ b ps e=>⟨#[],by rw [e];simp⟩) (λ m hm=> ?_) (λ b u e=> ?_) I.bare
  · obtain ⟨f0,f1,f2,f3,f4,f5⟩:=hf b hb;exact ⟨f3,f1,f4,f5⟩
  · obtain ⟨o,es,ep,ho,r⟩:=hm;exact ⟨o,es,ep,k _ o (λ z=>(hf _ z).2.1 rfl) ho,r⟩
  · refine (I.hok b u e).stay (λ c v hc q=>k c v ?_ q) (λ _ q=>q) λ _ _ q=>q;rcases hc with z | z
    · rw [z];exact nit b u e
    · exact nit c _ z
end
def Ite (K:PySem.W.Frag) (a:Addr):It:=
  ⟨λ i H=>∃ xs x,SqL K H a xs/\xs[i]?=some x,λ i H v H'=>∃ p x,H p=none/\v= .ref p/\H'=upd H p (.tup [.int i,x])/\∀ xs,SqL K H a xs->xs[i]?=some x,λ i H=>∃ xs,SqL K H a xs/\xs.length<=i⟩
theorem Ia {X:Cx} {pins:List (Addr × Obj)} {H:Hp} {b p:Addr} {o:HO} (h:Cj X pins H b) (n:b≠p):Cj X pins (upd H p o) b:=⟨by rw [Am n];exact h.1,h.2⟩
theorem Hr {P:Program} {w:World} {K:PySem.W.Frag} {elts:List Expr} {k:Nat} {pos:Pos} (a e it:Addr) (hne:e≠it):
    Turn P w K (.Tuple elts k pos) (Ite K a) [e,it] e (λ i h=>(∃ old,IsEnum h e it i old)/\h.IsListIter it a i) where
  mem:=by simp
  obj:=λ i h st b hb=>by
    obtain ⟨⟨old,he⟩,o,eo,c,d⟩:=st;rcases List.mem_cons.mp hb with z | z
    · subst z;exact ⟨_,he,λ v z=>by cases (show Data.fields _=Data.cell v from z)⟩
    · have z:b=it:=by simpa using z
      subst z;exact ⟨o,eo,λ v z=>by rw [d] at z;cases z⟩
  keep:=λ i h h' st kp=>by
    obtain ⟨⟨old,he⟩,hi⟩:=st;exact ⟨⟨old,kp e (by simp) _ he⟩,hi.at λ o z=>kp it (by simp) o z⟩
  item:=by
    intro X hP hw hK hc i pins s σ H E I hf st hg;subst hP hw hK;obtain ⟨xs,x,hq,hx⟩:=hg;obtain ⟨its,rv,p,hz⟩:=I.list hq;obtain ⟨u,hu,ru⟩:=rv.get hx;obtain ⟨⟨old,he⟩,hi⟩:=st;have hel:e<s.heap.objs.size:=Heap.lt_size he;have hil:it<s.heap.objs.size:=by obtain ⟨_,z,_⟩:=hi;exact Heap.lt_size z
    refine wpAny_pyNext_enum_item he hi p.isList (x:=u) (by simpa using hu) hne λ h' ho hi' hT hsz hk=> ?_;have I0:=I.laid (h':=s.heap.push { cls:= .type "tuple",data:= .seq #[.int i s.toks,u] }) (a:=s.heap.objs.size) (o:= .tup [.int i,x]) (t':=s.toks+1) (λ _ _ q=>Heap.get?_push_of_some _ q) (Nat.le_refl _)
      ⟨(by show 2<=sizeLine;decide),[.int i s.toks,u], .cons ⟨_,rfl⟩ (.cons ru .nil),⟨_,Heap.get?_push_size _ rfl,rfl,_,rfl⟩⟩
    have f0:∀ b∈[e,it],Cj X pins (upd H s.heap.objs.size (.tup [.int i,x])) b:=λ b hb=>Ia (hf b hb) (by
      rcases List.mem_cons.mp hb with z | z
      · rw [z];exact Nat.ne_of_lt hel
      · rw [show b=it by simpa using z];exact Nat.ne_of_lt hil)
    have I1:=Inv.turnedL (t':=s.toks+1) (h':=h') [e,it] I0 f0 (λ b o hb z=>by
      have hb1:b≠e:=λ q=>hb (by simp [q]);have hb2:b≠it:=λ q=>hb (by simp [q]);rcases Heap.get?_push_cases (show (s.heap.push { cls:= .type "tuple",data:= .seq #[.int i s.toks,u] }).get? b=some o from z) with ⟨q1,q2⟩ | q
      · rw [q1,q2];exact hT
      · exact hk b o hb1 hb2 q)
    refine ⟨.ref s.heap.objs.size,rfl,wpAny_letOwnedTupleGo_enum (s:={ s with heap:=h',toks:=s.toks+1 }) ho λ h2 he2 sb=> ?_⟩;refine ⟨.ref s.heap.objs.size,_,Inv.turnedL (t':=s.toks+1) (h':=h2) [e,it] I1 f0 (λ b o hb z=>(sb.2 b λ q=>hb (by simp [q])).trans z),rfl,⟨_,x,I.fresh,rfl,rfl,λ ys hy=>by rw [I.list_inj hy hq];exact hx⟩,⟨⟨u,by simpa using he2⟩,hi'.at λ o z=>(sb.2 it hne.symm).trans z⟩,λ b hb=>(f0 b hb).1⟩
  done:=by
    intro X hP hw hK hc i pins s σ H E I hf st hg;subst hP hw hK;obtain ⟨xs,hq,hx⟩:=hg;obtain ⟨its,rv,p,hz⟩:=I.list hq;obtain ⟨⟨old,he⟩,hi⟩:=st;have hl:=rv.length;exact wpAny_pyNext_enum_end (I.ok.hd hc) he hi p.isList (by simp;omega) λ h' eb=>⟨rfl,I.turnedL (t':=s.toks) [e,it] hf λ b o hb z=>eb b o (λ q=>hb (by simp [q])) z⟩
  self:=λ _ _ _ _ _ st h=>by
    obtain ⟨⟨old,he⟩,_⟩:=st;exact wpAny_pyIter_enum he h
section
variable {X:Cx} {elts:List Expr} {k:Nat} {tpos:Pos} {K:PySem.W.Frag}
def J7 (K:PySem.W.Frag) (ta:TA):TI:=λ σ H R=>ta σ H λ vs H1=>∃ a,vs=[.ref a]/\(∃ xs,SqL K H1 a xs)/\R (Ite K a) H1
theorem EX:bootBuiltins "enumerate"=some (.type "enumerate"):=by decide +kernel
theorem GD {l:Expr} {ta:TA} {p pos:Pos} (hg:Gl X "enumerate") (hm:X.mg "enumerate"=none) (ha:PA X [l] ta) (hK:X.K=K:=by rfl) (hs:starEach [l] X.env=[(false,eval l X.env)]:=by rfl):PI X (.Tuple elts k tpos) (.Call (.Name "enumerate" p) [l] [] pos) (J7 K ta):=by
  subst hK;intro pins s σ H R I h;refine Call_ (Da I hg hm EX (PyProof.Rows.callWith_type1 (thn (ha pos pins s σ H _ I h) λ us s1 ⟨vs,H1,I1,r1,q1⟩=> ?_) hs rfl));obtain ⟨a,e,⟨xs,hq⟩,q⟩:=q1;subst e;cases r1 with
  | cons r rr=>
    cases rr;cases r;obtain ⟨its,rv,pl,hz⟩:=I1.list hq;refine call_enumerate_list pl.isList λ h' he hi hsz hk=> ?_;refine wpAny_pyIter_enum he ?_;have I2:=I1.kept (t':=s1.toks) hk;refine ⟨s1.heap.objs.size+1,[s1.heap.objs.size+1,s1.heap.objs.size],_,_,H1,rfl,I2,Hr a _ _ (Nat.succ_ne_self _),⟨⟨_,he⟩,hi⟩,λ b hb=> ?_,q⟩;have hb':s1.heap.objs.size<=b:=by
      rcases List.mem_cons.mp hb with z | z
      · rw [z];exact Nat.le_succ _
      · have z:b=s1.heap.objs.size:=by simpa using z
        rw [z];exact Nat.le_refl _
    exact I1.fpOk hb' (I1.hok.fresh hb')
end
section
variable {X:Cx} {elts:List Expr} {k:Nat} {tpos:Pos} {K:PySem.W.Frag}
end
def BQ (tp:Bool) (h:Heap) (it l:Addr) (i:Nat):Prop:=if tp=true then h.IsTupleIter it l i else h.IsListIter it l i
def Dk (tp:Bool) (h:Heap) (l:Addr) (xs:Array Value):Prop:=if tp=true then h.IsTuple l xs else h.IsList l xs
theorem CQ {tp:Bool} {h h':Heap} {it l:Addr} {i:Nat} (x:BQ tp h it l i) (k:∀ o,h.get? it=some o->h'.get? it=some o):BQ tp h' it l i:=by
  cases tp with
  | false=>obtain ⟨o,e,r⟩:=(show h.IsListIter it l i from x);exact (show h'.IsListIter it l i from ⟨o,k o e,r⟩)
  | true=>obtain ⟨o,e,r⟩:=(show h.IsTupleIter it l i from x);exact (show h'.IsTupleIter it l i from ⟨o,k o e,r⟩)
theorem FU {tp:Bool} {h h':Heap} {l:Addr} {xs:Array Value} (x:Dk tp h l xs) (k:∀ o,h.get? l=some o->h'.get? l=some o):Dk tp h' l xs:=by
  cases tp with
  | false=>obtain ⟨o,e,r⟩:=(show h.IsList l xs from x);exact (show h'.IsList l xs from ⟨o,k o e,r⟩)
  | true=>obtain ⟨o,e,r⟩:=(show h.IsTuple l xs from x);exact (show h'.IsTuple l xs from ⟨o,k o e,r⟩)
theorem Ci {tp:Bool} {h:Heap} {it l:Addr} {i:Nat} (x:BQ tp h it l i):∃ o,h.get? it=some o/\o.data= .fields #[.ref l, .int i 0]:=by
  cases tp with
  | false=>obtain ⟨o,e,_,d⟩:=(show h.IsListIter it l i from x);exact ⟨o,e,d⟩
  | true=>obtain ⟨o,e,_,d⟩:=(show h.IsTupleIter it l i from x);exact ⟨o,e,d⟩
theorem E6 {tp:Bool} {h:Heap} {l:Addr} {xs:Array Value} (x:Dk tp h l xs):∃ o n,h.get? l=some o/\o.data= .seq xs n:=by
  cases tp with
  | false=>obtain ⟨o,e,_,n,d⟩:=(show h.IsList l xs from x);exact ⟨o,n,e,d⟩
  | true=>obtain ⟨o,e,_,n,d⟩:=(show h.IsTuple l xs from x);exact ⟨o,n,e,d⟩
section
variable {prog:Program} {w:World} {A:Around} {E:Value->Shared->Prop} {s:Shared}
theorem HD {tp:Bool} {it l:Addr} {i:Nat} {xs:Array Value} {x:Value} {Q:Value->Shared->Prop} (ht:BQ tp s.heap it l i) (hq:Dk tp s.heap l xs) (hx:xs[i]?=some x)
    (k:∀ h',BQ tp h' it l (i+1)->Heap.SameBut it s.heap h'->Q x { s with heap:=h' }):wpAny (model prog w) A (Builtin.SmallTypes.nextOf (.ref it)) Q E s:=by
  cases tp with
  | false=>exact wpAny_nextOf_list_item (show s.heap.IsListIter it l i from ht) (show s.heap.IsList l xs from hq) hx k
  | true=>
    have ht:s.heap.IsTupleIter it l i:=ht;obtain ⟨ob,eb,cb,db⟩:=id ht;obtain ⟨ol,el,_,nl,dl⟩:=(show s.heap.IsTuple l xs from hq);unfold Builtin.SmallTypes.nextOf;refine wpAny_bind (wpAny_callSpecial?_slot (name:=Str.ofString "__next__") ht.typeIs F.slot_tuple_iterator_next (wpAny_call_entry F.slot_tuple_iterator_next ht.typeIs F.entry_tuple_iterator_next ?_ (F.args_tuple_iterator_next_1 _)));show wpAny _ _ (field (.ref it) 0 >>= _) _ _ s;refine wpAny_bind (wpAny_field eb db (x:= .ref l) rfl ?_);show wpAny _ _ (if (Value.ref l == Value.none)=true then _ else _) _ _ s;rw [if_neg (show ¬ ((Value.ref l == Value.none)=true) from Bool.false_ne_true)];show wpAny _ _ (field (.ref it) 1 >>= _) _ _ s;refine wpAny_bind (wpAny_field eb db (x:= .int i 0) rfl ?_);show wpAny _ _ (seqItems? (.ref l) >>= _) _ _ s;refine wpAny_bind (wpAny_seqItems el dl ?_);simp only [Int.toNat_natCast,hx];refine wpAny_bind (wpAny_setField eb db (by simp) (wpAny_pure ⟨x,rfl,wpAny_pure (k _ ?_ (Heap.SameBut.update ..))⟩));exact (show Heap.IsTupleIter _ it l (i+1) from ⟨_,Heap.get?_update_self _ eb (Obj.isFreed_of_fields (Obj.data_mapFields db _)),(Obj.cls_mapFields ..).trans cb,by rw [Obj.data_mapFields db];simp [rawInt]⟩)
theorem GQ {tp:Bool} {it l:Addr} {i:Nat} {xs:Array Value} {Q:Value->Shared->Prop} (hh:A.handled=none) (ht:BQ tp s.heap it l i) (hq:Dk tp s.heap l xs) (hx:xs[i]?=none)
    (k:∀ h' e,Heap.ExtBut it s.heap h'->(∃ o,h'.get? e=some o/\o.cls= .type "StopIteration")->E (.ref e) { s with heap:=h' }):wpAny (model prog w) A (Builtin.SmallTypes.nextOf (.ref it)) Q E s:=by
  cases tp with
  | false=>exact wpAny_nextOf_list_end hh (show s.heap.IsListIter it l i from ht) (show s.heap.IsList l xs from hq) hx k
  | true=>
    have ht:s.heap.IsTupleIter it l i:=ht;obtain ⟨ob,eb,cb,db⟩:=id ht;obtain ⟨ol,el,_,nl,dl⟩:=(show s.heap.IsTuple l xs from hq);unfold Builtin.SmallTypes.nextOf;refine wpAny_bind (wpAny_callSpecial?_slot (name:=Str.ofString "__next__") ht.typeIs F.slot_tuple_iterator_next (wpAny_call_entry F.slot_tuple_iterator_next ht.typeIs F.entry_tuple_iterator_next ?_ (F.args_tuple_iterator_next_1 _)));show wpAny _ _ (field (.ref it) 0 >>= _) _ _ s;refine wpAny_bind (wpAny_field eb db (x:= .ref l) rfl ?_);show wpAny _ _ (if (Value.ref l == Value.none)=true then _ else _) _ _ s;rw [if_neg (show ¬ ((Value.ref l == Value.none)=true) from Bool.false_ne_true)];show wpAny _ _ (field (.ref it) 1 >>= _) _ _ s;refine wpAny_bind (wpAny_field eb db (x:= .int i 0) rfl ?_);show wpAny _ _ (seqItems? (.ref l) >>= _) _ _ s;refine wpAny_bind (wpAny_seqItems el dl ?_);simp only [Int.toNat_natCast,hx];refine wpAny_bind (wpAny_rule (wpAny_bind (wpAny_setField eb db (by simp) ?_)));show wpAny _ _ (newExc (.type "StopIteration") [] >>= _) _ _ _;refine wpAny_bind ?_;simp only [newExc,newTuple];refine wpAny_bind (wpAny_newObj_type ?_ (by size_fits));refine wpAny_bind (m:=firstArgMember _ _) (wpAny_of_eq (a:=Value.none) (by first | rfl | (simp only [firstArgMember];rfl)) ?_);refine wpAny_newObj_type ?_ (by size_fits);simp only [raiseNew];refine wpAny_bind (wpAny_handled ?_)
    first | rw [show A.in1.handled=none from hh] | rw [hh]
    exact wpAny_bind (wpAny_pure (wpAny_throw (k _ _ (((Heap.SameBut.update ..).extBut.push _).push _) ⟨_,Heap.get?_push_size _ rfl,rfl⟩)))
end
section
variable {prog:Program} {w:World} {A:Around} {E:Value->Shared->Prop} {s:Shared}
structure ZipSt (t1 t2:Bool) (h:Heap) (z TI TO i1 i2 l1 l2:Addr) (k:Nat):Prop where
  hz:IsZip h z TI TO .none
  hTI:IsPair h TI (.ref i1) (.ref i2)
  hTO:∃ c d,IsPair h TO c d
  h1:BQ t1 h i1 l1 k
  h2:BQ t2 h i2 l2 k
def HW (tp:Bool):String:=if tp=true then "tuple_iterator" else "list_iterator"
theorem Ii {tp:Bool} {l:Addr} {xs:Array Value} {Q:Value->Shared->Prop} (hq:Dk tp s.heap l xs) (k:Q (.ref s.heap.objs.size) { s with heap:=s.heap.push { cls:= .type (HW tp),data:= .fields #[.ref l, .int 0 0] } }):
    wpAny (model prog w) A (pyIter (.ref l)) Q E s:=by
  cases tp with
  | false=>exact wpAny_pyIter_list (show s.heap.IsList l xs from hq) k
  | true=>exact wpAny_pyIter_tuple (show s.heap.IsTuple l xs from hq) k
theorem G1 {tp:Bool} {h:Heap} {l:Addr}:BQ tp (h.push { cls:= .type (HW tp),data:= .fields #[.ref l, .int 0 0] }) h.objs.size l 0:=by
  cases tp with
  | false=>exact (show Heap.IsListIter _ _ l 0 from ⟨_,Heap.get?_push_size _ rfl,rfl,rfl⟩)
  | true=>exact (show Heap.IsTupleIter _ _ l 0 from ⟨_,Heap.get?_push_size _ rfl,rfl,rfl⟩)
end
def SqS (tp:Bool) (K:PySem.W.Frag) (H:Hp) (a:Addr) (xs:List V):Prop:=if tp=true then SqT K H a xs else SqL K H a xs
theorem Fu {X:Cx} {pins:List (Addr × Obj)} {σ:St} {H:Hp} {s:Shared} {tp:Bool} {a:Addr} {xs:List V} (I:Inv X pins σ H s) (h:SqS tp X.K H a xs):∃ its:List Value,Vals xs its/\Dk tp s.heap a its.toArray:=by
  cases tp with
  | false=>
    obtain ⟨its,r,p,_⟩:=I.list (show SqL X.K H a xs from h);exact ⟨its,r,(show s.heap.IsList a its.toArray from p.isList)⟩
  | true=>
    obtain ⟨its,r,p,_⟩:=I.tuple (show SqT X.K H a xs from h);exact ⟨its,r,(show s.heap.IsTuple a its.toArray from p)⟩
theorem JX {X:Cx} {pins:List (Addr × Obj)} {σ:St} {H:Hp} {s:Shared} {tp:Bool} {a:Addr} {xs ys:List V} (I:Inv X pins σ H s) (h:SqS tp X.K H a xs) (h2:SqS tp X.K H a ys):xs=ys:=by
  cases tp with
  | false=>exact I.list_inj h h2
  | true=>exact I.tuple_inj h h2
section
variable {X:Cx} {elts:List Expr} {k:Nat} {tpos:Pos} {K:PySem.W.Frag}
end
section
variable {X:Cx} {K:PySem.W.Frag}
theorem BA:bootBuiltins "list"=some (.type "list"):=by decide +kernel
theorem Cb:bootBuiltins "tuple"=some (.type "tuple"):=by decide +kernel
theorem Ln {es:List Expr} {k:Nat} {t:TGs} {n:Nat} {pos:Pos} (hc:X.calm=true) (h:PGs X es t) (hK:X.K=K:=by rfl)
    (hn:(assignEach es X.env).length=n:=by rfl) (hst:(assignEach es X.env).findIdx? (·.1)=none:=by rfl):PG X (.Tuple es k pos) (FL K n t):=by
  subst hK;exact Im hc h hn hst
variable {scope:Scope} {fr:List (Str × Nat)}
theorem Jd {x y:Str} {px py pt:Pos} {k:Nat} (h:Dm X.env.scope X.N scope [x,y] fr=true) (hc:X.calm=true) (C:Addr) (ex:List Addr) (s:Shared) (H:Hp) (hK:X.K=K:=by rfl):
    PG (AM X scope [x,y] fr C ex s H) (.Tuple [.Name x px, .Name y py] k pt) (FL K 2 (Bu (AC 0) (Bu (AC 1) Gv))):=by
  subst hK;exact Im (X:=AM X scope [x,y] fr C ex s H) hc (CM (Gu h rfl C ex s H) (CM (Gu h rfl C ex s H) GK))
theorem FR {elt iter:Expr} {x y:Str} {px py pt:Pos} {k:Nat} {ifs:List Expr} {pos:Pos} {wi:TI} {tc:TT} {te:TE} (hi:PI X (.Tuple [.Name x px, .Name y py] k pt) iter wi)
    (ht:∀ C ex s H,PTs (AM X scope [x,y] (FM X.N scope) C ex s H) ifs tc) (he:∀ C ex s H,PE (AM X scope [x,y] (FM X.N scope) C ex s H) elt te) (hK:X.K=K:=by rfl)
    (hb:Dm X.env.scope X.N scope [x,y] (FM X.N scope)=true:=by with_unfolding_all rfl) (hc:X.calm=true:=by rfl)
    (hs:∀ x,foldedSetIterable iter X.env x=pure x:=by intro _;rfl):PE X (.ListComp elt [⟨.Tuple [.Name x px, .Name y py] k pt,iter,ifs,0⟩] scope pos) (GG wi [x,y] (FM X.N scope) (FL K 2 (Bu (AC 0) (Bu (AC 1) Gv))) tc te):=
  GR hc (.of hb) hi (λ C ex s H=>Jd hb hc C ex s H hK) ht he hs
end
section
variable {K:PySem.W.Frag} {D:Addr} {σ0:St} {tc:TT} {te:TE} {Q:VK} {H:Hp}
end
inductive Dt where
  | non | bl (b:Bool) | int (i:Int) | str (z:Str) | lst (xs:List Dt) | tup (xs:List Dt)
inductive Rp (H:Hp) (F:Addr->Prop):Nat->V->Dt->Prop where
  | non {n:Nat}:Rp H F n .non .non
  | bl {n:Nat} (b:Bool):Rp H F n (.bl b) (.bl b)
  | int {n:Nat} (i:Int):Rp H F n (.int i) (.int i)
  | str {n:Nat} (z:Str):Rp H F n (.str z) (.str z)
  | lst {n:Nat} {a:Addr} {vs:List V} {ds:List Dt} (h:H a=some (.lst vs)) (f:F a) (b:vs.length<=100000) (l:vs.length=ds.length) (e:∀ (i:Nat) (v:V) (d:Dt),vs[i]?=some v->ds[i]?=some d->Rp H F n v d):Rp H F (n+1) (.ref a) (.lst ds)
  | tup {n:Nat} {a:Addr} {vs:List V} {ds:List Dt} (h:H a=some (.tup vs)) (b:vs.length<=100000) (l:vs.length=ds.length) (e:∀ (i:Nat) (v:V) (d:Dt),vs[i]?=some v->ds[i]?=some d->Rp H F n v d):Rp H F (n+1) (.ref a) (.tup ds)
theorem Rp.mono {H H':Hp} {F F':Addr->Prop} {n:Nat} {v:V} {d:Dt} (r:Rp H F n v d) (k:∀ a o,H a=some o->(∀ xs,o= .lst xs->F a)->H' a=some o) (f:∀ a,F a->F' a):Rp H' F' n v d:=by
  induction r with
  | non=>exact .non
  | bl b=>exact .bl b
  | int i=>exact .int i
  | str z=>exact .str z
  | lst h p b l e ih=>exact .lst (k _ _ h λ _ _=>p) (f _ p) b l λ i v d h1 h2=>ih i v d h1 h2
  | tup h b l e ih=>exact .tup (k _ _ h λ xs q=>by cases q) b l λ i v d h1 h2=>ih i v d h1 h2
theorem Rp.same {H H':Hp} {F:Addr->Prop} {n:Nat} {v:V} {d:Dt} (r:Rp H F n v d) (s:Same H H'):Rp H' F n v d:=r.mono (λ a o h _=>s a o h) λ _ h=>h
theorem Rp.imp {H:Hp} {F F':Addr->Prop} {n:Nat} {v:V} {d:Dt} (r:Rp H F n v d) (f:∀ a,F a->F' a):Rp H F' n v d:=r.mono (λ a o h _=>h) f
abbrev FT:Addr->Prop:=λ _=>True
abbrev FN (H:Hp):Addr->Prop:=λ a=>H a=none
def Ki (ns:List Int):Dt:= .lst (ns.map .int)
theorem Gz {H:Hp} {F:Addr->Prop} {n:Nat} {v:V} {ns:List Int} (r:Rp H F n v (Ki ns)):∃ a,v= .ref a/\H a=some (.lst (ns.map V.int))/\F a:=by
  unfold Ki at r;cases r with
  | @lst n a vs _ h f b l e=>
    refine ⟨a,rfl,?_,f⟩;rw [h];congr 2;refine List.ext_getElem (by simpa using l) λ i h1 h2=> ?_;have h2':i<ns.length:=by simpa using h2
    have:=e i vs[i] (.int ns[i]) (by simp [h1]) (by simp [h2']);cases hv:vs[i] <;> rw [hv] at this <;> cases this;simp
section
variable {t u:TS} {D:Ends} {σ:St} {H:Hp} {te ta tb tk:TE} {tt tu:TT} {g:TG} {Q:VK} {QT:Bool->Hp->Prop} {QA:List V->Hp->Prop} {i:Nat} {v x y:V} {r:R2} {tr:TA} {K:PySem.W.Frag}
theorem JH (h:D.nx σ H):Kk D σ H:=h
theorem Lm (h:te σ H λ x H1=>g x σ H1 D.nx):Mv te g D σ H:=h
theorem Js {QS:St->Hp->Prop} (h:QS (σ.set i (some v)) H):AC i v σ H QS:=h
theorem Lb (e:σ[i]?=some (some v)) (h:Q v H):Lk i σ H Q:=⟨v,e,h⟩
theorem NO (h:Q v H):tC v σ H Q:=h
theorem Ma (h:ta σ H λ x H1=>tb σ H1 λ y H2=>r x y H2 Q):tOp r ta tb σ H Q:=h
theorem LF {ru:V->Hp->VK->Prop} (h:ta σ H λ x H1=>ru x H1 Q):tUn ru ta σ H Q:=h
theorem An {C:Int->Int->Prop} {gg:Int->Int->V} {a b:Int} (c:C a b) (h:Q (gg a b) H):rI C gg (.int a) (.int b) H Q:=⟨a,b,rfl,rfl,c,h⟩
theorem K4 {gg:Int->Int->V} {a b:Int} (h:Q (gg a b) H):rI0 gg (.int a) (.int b) H Q:=⟨a,b,rfl,rfl,h⟩
theorem LH {gg:Int->V} {a:Int} (h:Q (gg a) H):rU gg (.int a) H Q:=⟨a,rfl,h⟩
theorem La {a b:Int} (h:Q (.bl (decide (a=b))) H):rEq (.int a) (.int b) H Q:=⟨rfl,by rw [show decide (V.int a=V.int b)=decide (a=b) by rw [Bool.eq_iff_iff];simp];exact h⟩
theorem Kx {a b:Int} (h:Q (.bl (!decide (a=b))) H):rNe (.int a) (.int b) H Q:=⟨rfl,by rw [show decide (V.int a=V.int b)=decide (a=b) by rw [Bool.eq_iff_iff];simp];exact h⟩
theorem Lq {a b:Str} (h:Q (.bl (decide (a=b))) H):rEq (.str a) (.str b) H Q:=⟨rfl,by rw [show decide (V.str a=V.str b)=decide (a=b) by rw [Bool.eq_iff_iff];simp];exact h⟩
theorem Lu (h:tt σ H λ c H1=>QT (!c) H1):Mt tt σ H QT:=h
theorem Jw (h:te σ H λ x H'=>∃ k,x= .bl k/\QT k H'):Ka te σ H QT:=h
theorem LU (h:te σ H λ x H'=>∃ k,x= .bl k/\QT k H'):tB te σ H QT:=h
theorem LO {b:Bool} {R:Bool->Prop} (h:R b):∃ k,V.bl b= .bl k/\R k:=⟨b,rfl,h⟩
theorem Mo (h:tt σ H λ c H1=>if c=true then QT true H1 else tu σ H1 QT):tOr tt tu σ H QT:=h
theorem JG (h:ta σ H λ x H1=>∃ c,x= .bl c/\if c=true then tb σ H1 Q else Q (.bl false) H1):Kc ta tb σ H Q:=h
theorem J1 (h:ta σ H λ x H1=>∃ c,x= .bl c/\Q (.bl (!c)) H1):J3 ta σ H Q:=h
theorem KM (h:tt σ H λ b H1=>if b=true then t D σ H1 else u D σ H1):Mm tt t u D σ H:=h
theorem KA (h:te σ H D.rt):Mr te D σ H:=h
theorem JO (h:te σ H λ _ H1=>D.nx σ H1):Ke te D σ H:=h
theorem K1 (h:QA [] H):JB σ H QA:=h
theorem JZ (h:te σ H λ x H1=>tr σ H1 λ xs H2=>QA (x::xs) H2):Km te tr σ H QA:=h
theorem KW (h:tr σ H λ xs H1=>xs.length<=sizeLine/\∀ p,H1 p=none->Q (.ref p) (upd H1 p (.lst xs))):LZ tr σ H Q:=h
theorem Lj (h:tr σ H λ xs H1=>xs.length<=sizeLine/\∀ p,H1 p=none->Q (.ref p) (upd H1 p (.tup xs))):Ml tr σ H Q:=h
theorem LX {rr:List V->Hp->VK->Prop} (h:tr σ H λ vs H1=>rr vs H1 Q):tCB rr tr σ H Q:=h
theorem JU {sp:Sp} {E:XK} (h:tr σ H λ vs H1=>sp vs H1 Q E):FV sp [] E tr σ H Q:=by
  unfold FV;simpa using h
theorem LV {rs:V->Option Int->Option Int->Hp->VK->Prop} {tl th:TO} (h:te σ H λ x H1=>tl σ H1 λ l H2=>th σ H2 λ u H3=>rs x l u H3 Q):tSl rs te tl th σ H Q:=h
theorem JM {QO:Option Int->Hp->Prop} (h:te σ H λ x H1=>∃ i,x= .int i/\QO (some i) H1):Kd te σ H QO:=h
theorem G9 {QO:Option Int->Hp->Prop} (h:QO none H):GH σ H QO:=h
theorem Ku {a:Int} {R:Int->Prop} (h:R a):∃ k,V.int a= .int k/\R k:=⟨a,rfl,h⟩
theorem Fk {p:Addr} {xs:List V} {lo hi:Option Int} (c:SqL K H p xs) (h:∀ q,H q=none->Q (.ref q) (upd H q (.lst (Ek xs lo hi)))):Ll K (.ref p) lo hi H Q:=⟨p,xs,rfl,c,h⟩
theorem AT {p:Addr} {xs:List V} (c:SqL K H p xs) (h:Q (.int xs.length) H):Le K [.ref p] H Q:=⟨_,_,rfl, .inl ⟨xs,c,rfl⟩,h⟩
theorem GE {p:Addr} {xs:List V} (c:SqT K H p xs) (h:Q (.int xs.length) H):Le K [.ref p] H Q:=⟨_,_,rfl, .inr ⟨xs,c,rfl⟩,h⟩
theorem K9 {p:Addr} {bs:List Bool} (c:SqL K H p (bs.map V.bl)) (h:Q (.bl (bs.all id)) H):Mp K [.ref p] H Q:=⟨p,bs,rfl,c,h⟩
theorem AX {n:String} {ty:Value} {b:Bool} (c:TyOf K H x ty) (e:PySem.W.kitOne K ty (.type n)=some b) (h:Q (.bl b) H):J9 K [x, .ty n] H Q:=⟨x,n,ty,b,rfl,c,e,h⟩
theorem BS {p:Addr} {xs:List V} {k:Int} (c:SqL K H p xs) (e:atI xs k=some v) (h:Q v H):Ls K (.ref p) (.int k) H Q:=⟨p,xs,k,v,rfl,rfl,c,e,h⟩
theorem Cz {p:Addr} {xs:List V} {k:Int} (c:SqT K H p xs) (e:atI xs k=some v) (h:Q v H):Lo K (.ref p) (.int k) H Q:=⟨p,xs,k,v,rfl,rfl,c,e,h⟩
theorem KB {xs:List V} {B:Prop} (c:xs.length<=1000) (h:B):xs.length<=sizeLine/\B:=⟨Nat.le_trans c (by decide),h⟩
end
theorem JN {p A B:Prop} [Decidable p] (h1:p->A) (h2:¬ p->B):if decide p=true then A else B:=by
  by_cases h:p
  · rw [if_pos (decide_eq_true h)];exact h1 h
  · rw [if_neg (λ q=>h (of_decide_eq_true q))];exact h2 h
def DM:Dt->Bool | .lst _=>true | _=>false
def Dv:Dt->Bool | .tup _=>true | _=>false
def HG:Dt->List Dt | .lst ds=>ds | .tup ds=>ds | _=>[]
theorem Rp.seq {K:PySem.W.Frag} {H:Hp} {F:Addr->Prop} {n:Nat} {v:V} {d:Dt} (r:Rp H F n v d) (h:(DM d||Dv d)=true):
    ∃ m a vs,n=m+1/\v= .ref a/\SqS (Dv d) K H a vs/\vs.length=(HG d).length/\vs.length<=100000/\∀ (i:Nat) (x:V) (e:Dt),vs[i]?=some x->(HG d)[i]?=some e->Rp H F m x e:=by
  cases r with
  | @lst m a vs ds q f b l e=>exact ⟨m,a,vs,rfl,rfl,(show SqL K H a vs from SqL.of q),l,b,e⟩
  | @tup m a vs ds q b l e=>exact ⟨m,a,vs,rfl,rfl,(show SqT K H a vs from SqT.of q),l,b,e⟩
  | non=>cases h
  | bl _=>cases h
  | int _=>cases h
  | str _=>cases h
theorem SqS.same {K:PySem.W.Frag} {H H':Hp} {tp:Bool} {p:Addr} {xs:List V} (c:SqS tp K H p xs) (s:Same H H'):SqS tp K H' p xs:=by
  cases tp with
  | false=>exact (show SqL K H' p xs from s.seq c)
  | true=>
    rcases (show SqT K H p xs from c) with (q | ⟨o,q⟩) | q
    · exact (show SqT K H' p xs from .inl (.inl (s _ _ q)))
    · exact (show SqT K H' p xs from .inl (.inr ⟨o,s _ _ q⟩))
    · exact (show SqT K H' p xs from .inr q)
theorem Ai {H:Hp} {p:Addr} {o:HO} (h:H p=none):Same H (upd H p o):=λ b u e=>by rw [Am (As e h)];exact e
theorem GC {H H':Hp} {D:Addr} {o:HO} (s:Same H H') (h:H D=none):Same H (upd H' D o):=λ b u e=>by rw [Am (As e h)];exact s b u e
structure SrcOk (J:It) (g:TG) (σ0:St) (H:Hp) (n:Nat) (st:Nat->St):Prop where
  go:∀ i H',i<n->Same H H'->J.go i H'
  stop:∀ H',Same H H'->J.stop n H'
  yld:∀ i H' x H'' (R:St->Hp->Prop),i<n->Same H H'->J.yld i H' x H''->(∀ H3,Same H' H3->R (st i) H3)->g x σ0 H'' R
  kp:∀ i,i<n->Kp σ0 (st i)
section
variable {J:It} {g:TG} {σ0:St} {H:Hp} {n:Nat} {st:Nat->St} {tc:TT} {te:TE} {Q:VK} {D:Addr}
theorem Rp.off {H:Hp} {F:Addr->Prop} {m:Nat} {v:V} {d:Dt} {D:Addr} {xs:List V} {o:HO} (r:Rp H F m v d) (hD:H D=some (.lst xs)) (hF:¬ F D):Rp (L2.upd H D o) F m v d:=by
  refine r.mono (λ a u e q=> ?_) λ _ h=>h;have n:a≠D:=λ z=>by
    subst z;rw [hD] at e;cases e;exact hF (q _ rfl)
  rw [Am n];exact e
theorem EY {m:Nat} {p:Nat->Bool} {G:Nat->Dt} (S:SrcOk J g σ0 H n st) (hD:H D=none) (hn:n<=100000)
    (ht:∀ i H' (R:Bool->Hp->Prop),i<n->Same H H'->(∀ H3,Same H' H3->R (p i) H3)->tc (st i) H' R)
    (he:∀ i H' (R:VK),i<n->p i=true->Same H H'->(∀ H3 y,Same H' H3->Rp H3 (FN H') m y (G i)->R y H3)->te (st i) H' R)
    (hd:∀ H' ys,Same H H'->H' D=some (.lst ys)->Rp H' (FN H) (m+1) (.ref D) (.lst (((List.range n).filter p).map G))->Q (.ref D) H'):
    Ds J σ0 g tc te Q H D:=by
  refine ⟨λ i k ys H'=>k=n - i/\i<=n/\Same H H'/\H' D=some (.lst ys)/\ys.length=(((List.range i).filter p).map G).length/\∀ (j:Nat) (y:V) (d:Dt),ys[j]?=some y->(((List.range i).filter p).map G)[j]?=some d->Rp H' (λ a=>H a=none/\a≠D) m y d,
    ⟨_,rfl,Nat.zero_le _,GC (Same.refl _) hD,Ae,rfl,λ j y d q=>by simp at q⟩,?_⟩
  rintro i k ys H1 ⟨rfl,hi,s1,hl,len,el⟩;have bnd:∀ i,(((List.range i).filter p).map G).length<=i:=λ i=>by
    rw [List.length_map];exact Nat.le_trans (List.length_filter_le _ _) (by simp)
  by_cases hlt:i<n
  · refine .inr ⟨S.go i H1 hlt s1,λ ys' H'=>Same H H'/\H' D=some (.lst ys')/\ys'.length=(((List.range (i+1)).filter p).map G).length/\∀ (j:Nat) (y:V) (d:Dt),ys'[j]?=some y->(((List.range (i+1)).filter p).map G)[j]?=some d->Rp H' (λ a=>H a=none/\a≠D) m y d,
      λ ys' H' q=>⟨n - (i+1),by omega,rfl,hlt,q⟩,λ x H2 y=> ?_⟩
    refine S.yld i H1 x H2 _ hlt s1 y λ H3 s3=>⟨S.kp i hlt,?_⟩;refine ht i H3 _ hlt (s1.trans s3) λ H4 s4=> ?_;have hl4:H4 D=some (.lst ys):=s4 _ _ (s3 _ _ hl);have s14:Same H H4:=s1.trans (s3.trans s4);cases hp:p i with
    | false=>
      refine Fl ⟨s14,hl4,?_,?_⟩
      · rw [List.range_succ,List.filter_append,List.filter_cons,hp];simpa using len
      · intro j y d h1 h2;have e:((List.range (i+1)).filter p).map G=((List.range i).filter p).map G:=by
          rw [List.range_succ,List.filter_append,List.filter_cons,hp];simp
        rw [e] at h2;exact (el j y d h1 h2).same (s3.trans s4)
    | true=>
      refine Jp ?_;refine he i H4 _ hlt hp s14 λ H5 y s5 ry=> ?_;have hl5:H5 D=some (.lst ys):=s5 _ _ hl4;have e:((List.range (i+1)).filter p).map G=((List.range i).filter p).map G++[G i]:=by
        rw [List.range_succ,List.filter_append,List.filter_cons,hp];simp
      refine ⟨hl5,?_,?_,Ae,?_,?_⟩
      · have:=bnd i;exact Nat.lt_of_le_of_lt (by omega:ys.length<=100000) (by decide)
      · exact GC (s14.trans s5) hD
      · rw [e,List.length_append,List.length_append,len];rfl
      · intro j z d h1 h2;rw [e] at h2;have nF:¬ (H D=none/\D≠D):=λ q=>q.2 rfl;by_cases hj:j<ys.length
        · rw [List.getElem?_append_left hj] at h1;rw [List.getElem?_append_left (by omega)] at h2;exact ((el j z d h1 h2).same (s3.trans (s4.trans s5))).off hl5 nF
        · have ej:j=ys.length:=by
            have:=(List.getElem?_eq_some_iff.mp h1).1;rw [List.length_append] at this;have:([y]:List V).length=1:=rfl;omega
          subst ej;rw [List.getElem?_append_right (Nat.le_refl _),Nat.sub_self] at h1;rw [len,List.getElem?_append_right (Nat.le_refl _),Nat.sub_self] at h2;cases h1;cases h2;refine (ry.imp (F':=λ a=>H a=none/\a≠D) λ a ha=>⟨s14.free ha,λ q=> ?_⟩).off hl5 nF;subst q;rw [show H4 a=none from ha] at hl4;cases hl4
  · have e:i=n:=by omega
    subst e;refine .inl ⟨S.stop H1 s1,hd H1 ys s1 hl (.lst hl hD ?_ len λ j y d h1 h2=>(el j y d h1 h2).imp λ a q=>q.1)⟩;have:=bnd i;omega
theorem Fx {m:Nat} {G:Nat->Dt} (S:SrcOk J g σ0 H n st) (hD:H D=none) (hn:n<=100000)
    (he:∀ i H' (R:VK),i<n->Same H H'->(∀ H3 y,Same H' H3->Rp H3 (FN H') m y (G i)->R y H3)->te (st i) H' R)
    (hd:∀ H' ys,Same H H'->H' D=some (.lst ys)->Rp H' (FN H) (m+1) (.ref D) (.lst ((List.range n).map G))->Q (.ref D) H'):
    Ds J σ0 g JW te Q H D:=by
  refine EY (p:=λ _=>true) (m:=m) (G:=G) S hD hn (λ i H' R _ _ k=>k H' (Same.refl _)) (λ i H' R hi _ s k=>he i H' R hi s k) λ H' ys s hl r=>hd H' ys s hl ?_;have e:(List.range n).filter (λ _=>true)=List.range n:=by simp
  rw [e] at r;exact r
variable {K:PySem.W.Frag} {a b:Addr} {xs zs:List V}
theorem CY (h:SqL K H a xs) (h0:σ0[0]?=some none):SrcOk (Itl K a) (AC 0) σ0 H xs.length (λ i=>σ0.set 0 (some (xs.getD i .non))) where
  go:=λ i H' hi s=>⟨xs,xs[i],s.seq h,by simp [hi]⟩
  stop:=λ H' s=>⟨xs,s.seq h,Nat.le_refl _⟩
  yld:=λ i H' x H'' R hi s y k=>by
    obtain ⟨e,hv⟩:=y;subst e;have e:x=xs.getD i .non:=by
      have:=hv xs (s.seq h);rw [List.getD_eq_getElem?_getD,this];rfl
    subst e;exact k _ (Same.refl _)
  kp:=λ i hi=>(Kp.refl _).set h0
theorem Jl (h:SqT K H a xs) (h0:σ0[0]?=some none):SrcOk (Itt K a) (AC 0) σ0 H xs.length (λ i=>σ0.set 0 (some (xs.getD i .non))) where
  go:=λ i H' hi s=>⟨xs,xs[i],(SqS.same (tp:=true) h s),by simp [hi]⟩
  stop:=λ H' s=>⟨xs,(SqS.same (tp:=true) h s),Nat.le_refl _⟩
  yld:=λ i H' x H'' R hi s y k=>by
    obtain ⟨e,hv⟩:=y;subst e;have e:x=xs.getD i .non:=by
      have:=hv xs (SqS.same (tp:=true) h s);rw [List.getD_eq_getElem?_getD,this];rfl
    subst e;exact k _ (Same.refl _)
  kp:=λ i hi=>(Kp.refl _).set h0
theorem G2 {lo:Int} {n:Nat} (h0:σ0[0]?=some none):SrcOk (Itr lo n) (AC 0) σ0 H n (λ i=>σ0.set 0 (some (.int (lo+i)))) where
  go:=λ i H' hi s=>hi
  stop:=λ H' s=>Nat.le_refl _
  yld:=λ i H' x H'' R hi s y k=>by
    obtain ⟨e,hv⟩:=y;subst e hv;exact k _ (Same.refl _)
  kp:=λ i hi=>(Kp.refl _).set h0
theorem IY (h:SqL K H a xs) (h0:σ0[0]?=some none) (h1:σ0[1]?=some none):SrcOk (Ite K a) (FL K 2 (Bu (AC 0) (Bu (AC 1) Gv))) σ0 H xs.length (λ i=>(σ0.set 0 (some (.int i))).set 1 (some (xs.getD i .non))) where
  go:=λ i H' hi s=>⟨xs,xs[i],s.seq h,by simp [hi]⟩
  stop:=λ H' s=>⟨xs,s.seq h,Nat.le_refl _⟩
  yld:=λ i H' x H'' R hi s y k=>by
    obtain ⟨p,v,hp,rfl,rfl,hv⟩:=y;have e:v=xs.getD i .non:=by
      have:=hv xs (s.seq h);rw [List.getD_eq_getElem?_getD,this];rfl
    subst e;exact ⟨p,_,rfl,SqT.of Ae,rfl,_,_,rfl,_,_,rfl,rfl,k _ (Ai hp)⟩
  kp:=λ i hi=>((Kp.refl _).set h0).set h1
end
theorem AS {α β:Type} (f:α->β) (xs:List α) (d:α):(List.range xs.length).map (λ i=>f (xs.getD i d))=xs.map f:=by
  refine List.ext_getElem (by simp) λ i h1 h2=> ?_;have hi:i<xs.length:=by simpa using h2
  simp [List.getD_eq_getElem?_getD,hi]
section
variable {X:Cx} {tg:Expr}
def Me:List V->Hp->VK->Prop:=λ xs H Q=>∃ b:Bool,xs=[.bl b]/\Q (.int (if b=true then 1 else 0)) H
end
theorem KG {X:Cx}:Bb X (.type "int") Me:=by
  intro pins s σ H xs us Q I r h;obtain ⟨b,rfl,q⟩:=h;exact G3 pins s σ H _ us Q I r (.inr ⟨b,rfl,q⟩)
section
variable {X:Cx} {K:PySem.W.Frag} {e st:Expr} {te ts:TE} {pos p2:Pos}
end
end L2
namespace MM
theorem IU {α:Type} {p:List α->Prop} (h0:p []) (h1:∀ l a,p l->p (l++[a])):∀ l,p l:=λ l=>by
  have h:∀ r:List α,p r.reverse:=λ r=>by
    induction r with
    | nil=>exact h0
    | cons a r ih=>rw [List.reverse_cons];exact h1 _ _ ih
  have:=h l.reverse
  rwa [List.reverse_reverse] at this
theorem or_add_and (a:Nat):∀ b:Nat,(a ||| b)+(a &&& b)=a+b:=by
  induction a using Nat.strongRecOn with
  | ind a ih=>
    intro b;by_cases h:a=0
    · subst h;simp
    · have ih':=ih (a / 2) (by omega) (b / 2);have e1:(a ||| b)=2*((a ||| b) / 2)+(a ||| b)%2:=by omega
      have e2:(a &&& b)=2*((a &&& b) / 2)+(a &&& b)%2:=by omega
      have d1:(a ||| b) / 2=a / 2 ||| b / 2:=by simpa using Nat.or_div_two (a:=a) (b:=b)
      have d2:(a &&& b) / 2=a / 2 &&& b / 2:=by simpa using Nat.and_div_two (a:=a) (b:=b)
      have m1:(a ||| b)%2+(a &&& b)%2=a%2+b%2:=by
        have z:∀ x:Nat,x%2=(x.testBit 0).toNat:=λ x=>by rw [Nat.toNat_testBit];simp
        rw [z (a ||| b),z (a &&& b),z a,z b,Nat.testBit_or,Nat.testBit_and];cases a.testBit 0 <;> cases b.testBit 0 <;> rfl
      rw [d1] at e1;rw [d2] at e2;omega
theorem xor_eq (a b:Nat):(a ^^^ b)+(a &&& b)=(a ||| b):=by
  have h1:=or_add_and (a ^^^ b) (a &&& b);have e1:((a ^^^ b) ||| (a &&& b))=(a ||| b):=by
    refine Nat.eq_of_testBit_eq λ i=> ?_;simp only [Nat.testBit_or,Nat.testBit_xor,Nat.testBit_and];cases a.testBit i <;> cases b.testBit i <;> rfl
  have e2:((a ^^^ b) &&& (a &&& b))=0:=by
    refine Nat.eq_of_testBit_eq λ i=> ?_;simp only [Nat.testBit_and,Nat.testBit_xor,Nat.zero_testBit];cases a.testBit i <;> cases b.testBit i <;> rfl
  rw [e1,e2] at h1;omega
def ofB (f:Nat->Bool):Nat->Nat
  | 0=>0
  | w+1=>ofB f w+(f w).toNat*2 ^ w
theorem HC (f:Nat->Bool):∀ w,ofB f w<2 ^ w
  | 0=>by simp [ofB]
  | w+1=>by
    have:=HC f w;unfold ofB;rw [Nat.pow_succ];cases f w <;> simp <;> omega
theorem ofB_bit (f:Nat->Bool):∀ w i,(ofB f w).testBit i=(decide (i<w)&&f i)
  | 0,i=>by simp [ofB]
  | w+1,i=>by
    have hl:=HC f w;unfold ofB;have e:ofB f w+(f w).toNat*2 ^ w=2 ^ w*(f w).toNat+ofB f w:=by rw [Nat.mul_comm];omega
    rw [e,Nat.testBit_two_pow_mul_add _ hl];by_cases h:i<w
    · rw [if_pos h,ofB_bit f w i];simp [h,Nat.lt_succ_of_lt h]
    · rw [if_neg h];by_cases h2:i=w
      · subst h2;cases f i <;> simp
      · have h3:¬ i<w+1:=by omega
        have h4:i - w≠0:=by omega
        have h5:(1:Nat).testBit (i - w)=false:=by
          obtain ⟨d,hd⟩:∃ d,i - w=d+1:=⟨i - w - 1,by omega⟩;rw [hd,Nat.testBit_succ];simp
        cases f w
        · simp [h3]
        · simp only [Bool.toNat_true,h5,h3,decide_false,Bool.false_and]
theorem bit_div (m e:Nat):m / 2 ^ e%2=(m.testBit e).toNat:=by
  rw [Nat.testBit_eq_decide_div_mod_eq];have:m / 2 ^ e%2<2:=Nat.mod_lt _ (by decide);by_cases h:m / 2 ^ e%2=1
  · simp [h]
  · have:m / 2 ^ e%2=0:=by omega
    simp [this]
def mOf (ns:List Nat):Nat:=ns.foldl (λ m n=>m ||| 2 ^ (n - 1)) 0
theorem mOf_snoc (ns:List Nat) (n:Nat):mOf (ns++[n])=mOf ns ||| 2 ^ (n - 1):=by unfold mOf;rw [List.foldl_append];rfl
theorem mOf_bit (ns:List Nat) (i:Nat):(mOf ns).testBit i=ns.any λ n=>decide (n - 1=i):=by
  refine IU (p:=λ ns=>(mOf ns).testBit i=ns.any λ n=>decide (n - 1=i)) (by simp [mOf]) (λ l a ih=> ?_) ns
  · rw [mOf_snoc,Nat.testBit_or,ih,List.any_append,Nat.testBit_two_pow];simp
theorem Lz {ns:List Nat} {w:Nat} (h:∀ n∈ns,n - 1<w):mOf ns<2 ^ w:=by
  refine Nat.lt_pow_two_of_testBit _ λ i hi=> ?_;rw [mOf_bit,List.any_eq_false];intro n hn;have:=h n hn;simp;omega
def bits (m:Nat):Nat:=if m=0 then 0 else m.log2+1
theorem GF (m:Nat):m<2 ^ bits m:=by
  unfold bits;split
  · subst_vars;decide
  · exact Nat.lt_log2_self
theorem bits_le {m w:Nat} (h:m<2 ^ w):bits m<=w:=by
  unfold bits;split
  · exact Nat.zero_le _
  · rename_i h0
    exact (Nat.log2_lt h0).mpr h
def nOf (m:Nat):List Nat:=((List.range (bits m)).filter m.testBit).map (· + 1)
theorem nOf_mem (m n:Nat):n∈nOf m↔1<=n/\m.testBit (n - 1)=true:=by
  unfold nOf;simp only [List.mem_map,List.mem_filter,List.mem_range];constructor
  · rintro ⟨k,⟨_,h⟩,rfl⟩;exact ⟨by omega,by simpa using h⟩
  · rintro ⟨h1,h2⟩;refine ⟨n - 1,⟨?_,h2⟩,by omega⟩;rcases Nat.lt_or_ge (n - 1) (bits m) with q | q
    · exact q
    · rw [Nat.testBit_lt_two_pow (Nat.lt_of_lt_of_le (GF m) (Nat.pow_le_pow_right (by decide) q))] at h2;cases h2
theorem IX {m w:Nat} (h:m<2 ^ w):nOf m=((List.range w).filter m.testBit).map (· + 1):=by
  unfold nOf;have hb:=bits_le h;obtain ⟨d,rfl⟩:∃ d,w=bits m+d:=⟨w - bits m,by omega⟩;congr 1;rw [List.range_add,List.filter_append];have e:((List.range d).map (bits m+ ·)).filter m.testBit=[]:=by
    rw [List.filter_eq_nil_iff];intro x hx;obtain ⟨k,_,rfl⟩:=List.mem_map.mp hx;rw [Nat.testBit_lt_two_pow (Nat.lt_of_lt_of_le (GF m) (Nat.pow_le_pow_right (by decide) (Nat.le_add_right _ _)))];simp
  rw [e,List.append_nil]
theorem nOf_len {m w:Nat} (h:m<2 ^ w):(nOf m).length<=w:=by
  rw [IX h,List.length_map];exact Nat.le_trans (List.length_filter_le _ _) (by simp)
def tOf (m w:Nat):Nat:=mOf ((nOf m).map λ n=>w+1 - n)
theorem tOf_bit {m w i:Nat} (h:m<2 ^ w) (hi:i<w):(tOf m w).testBit i=m.testBit (w - 1 - i):=by
  unfold tOf;rw [mOf_bit,Bool.eq_iff_iff,List.any_eq_true];constructor
  · rintro ⟨n,hn,e⟩;obtain ⟨k,hk,rfl⟩:=List.mem_map.mp hn;have:=(nOf_mem m k).mp hk;have e:=of_decide_eq_true e;rw [show w - 1 - i=k - 1 by
      have:k - 1<w:=by
        rcases Nat.lt_or_ge (k - 1) w with q | q
        · exact q
        · rw [Nat.testBit_lt_two_pow (Nat.lt_of_lt_of_le h (Nat.pow_le_pow_right (by decide) q))] at this;cases this.2
      omega]
    exact this.2
  · intro q;refine ⟨i+1,List.mem_map.mpr ⟨w - i,(nOf_mem m (w - i)).mpr ⟨by omega,?_⟩,by omega⟩,by simp⟩;rw [show w - i - 1=w - 1 - i by omega];exact q
theorem tOf_lt {m w:Nat} (h:m<2 ^ w):tOf m w<2 ^ w:=by
  refine Lz λ n hn=> ?_;obtain ⟨k,hk,rfl⟩:=List.mem_map.mp hn;have:=(nOf_mem m k).mp hk;have:0<w:=by
    rcases Nat.eq_zero_or_pos w with q | q
    · subst q;have:m=0:=by simpa using h
      subst this;simp at this
    · exact q
  omega
theorem Ip (w i:Nat):(2 ^ w - 1).testBit i=decide (i<w):=Nat.testBit_two_pow_sub_one w i
theorem other_bit {m w i:Nat} (hi:i<w):((2 ^ w - 1) ^^^ m).testBit i= !m.testBit i:=by
  rw [Nat.testBit_xor,Ip];simp [hi]
theorem other_lt {m w:Nat} (h:m<2 ^ w):((2 ^ w - 1) ^^^ m)<2 ^ w:=Nat.xor_lt_two_pow (by have:0<2 ^ w:=Nat.two_pow_pos w;omega) h
end MM
namespace L2
open PySem PySem.Spec PyProof.Rows
section
variable {X:Cx}
theorem Kg {x:Str} {i:Int} {pos:Pos} (h:∃ t,X.mg x=some (.int i t)) (hg:Gl X x:=by rfl) (hd:(x == ("__debug__":Str))=false:=by decide):PE X (.Name x pos) (tC (.int i)):=by
  obtain ⟨t,e⟩:=h;exact GL hg e ⟨t,rfl⟩ hd
end
section
variable {H:Hp} {Q:VK} {σ:St} {td ty tv:TE} {D:Ends} {a:Addr} {kvs:List (Key × V)}
end
section
variable {H:Hp} {Q:VK} {σ:St} {K:PySem.W.Frag} {to:TE} {t:TA} {r:V->List V->Hp->VK->Prop} {T:String} {l p q:Addr} {xs ys:List V} {y:V}
theorem Kv (h:to σ H λ x H1=>tyV K T x H1/\r x [] H1 Q):KU K T r to σ H Q:=h
theorem Mu (h:to σ H λ x H1=>tyV K T x H1/\t σ H1 λ xs H2=>r x xs H2 Q):tBM K T r to t σ H Q:=h
theorem tyL {B:Prop} (c:SqL K H l xs) (h:B):tyV K "list" (.ref l) H/\B:=⟨.inl ⟨rfl,xs,c⟩,h⟩
theorem tyI {B:Prop} {i:Int} (h:B):tyV K "int" (.int i) H/\B:=⟨rfl,h⟩
theorem HR (c:H l=some (.lst xs)) (h:Q .non (upd H l (.lst []))):rClear (.ref l) [] H Q:=⟨l,xs,rfl,rfl,c,h⟩
theorem Dh (c:SqL K H l xs) (d:SqL K H p ys) (b:xs.length+ys.length<=16777216) (h:∀ q,H q=none->Q (.ref q) (upd H q (.lst (xs++ys)))):IH K (.ref l) (.ref p) H Q:=⟨l,p,xs,ys,rfl,rfl,c,d,by rw [sizeLine_eq];exact b,h⟩
theorem Ks {k:Int} (c:H l=some (.lst xs)) (b1:0<=k) (b2:k<=100000) (b3:xs.length<=100) (h:∀ q,H q=none->Q (.ref q) (upd H q (.lst (List.replicate k.toNat xs).flatten))):L7 (.ref l) (.int k) H Q:=
  ⟨l,k,xs,rfl,rfl,c,by omega,by omega,by
    rw [sizeLine_eq];have h1:k.toNat<=100000:=by omega
    exact Nat.le_trans (Nat.mul_le_mul b3 h1) (by decide),h⟩
theorem JL {as bs:List Int} (c:SqL K H l (as.map V.int)) (d:SqL K H p (bs.map V.int)) (h:Q (.bl (decide (as=bs))) H):Kw K false (.ref l) (.ref p) H Q:=
  ⟨l,p,_,_,rfl,rfl,c,d,FA as,FA bs,by rw [Iu];exact h⟩
theorem G0 {z:Addr} (c:SqL K H z xs) (h:∀ q,H q=none->Q (.ref q) (upd H q (.lst xs))):Ff K [.ref z] H Q:=⟨z,xs,rfl, .inl c,h⟩
theorem Gi {z:Addr} (c:SqT K H z xs) (h:∀ q,H q=none->Q (.ref q) (upd H q (.lst xs))):Ff K [.ref z] H Q:=⟨z,xs,rfl, .inr c,h⟩
theorem FK {z:Addr} (c:SqL K H z xs) (h:∀ q,H q=none->Q (.ref q) (upd H q (.tup xs))):FD K [.ref z] H Q:=⟨z,xs,rfl, .inl ⟨c,h⟩⟩
end
end L2
namespace L2
open PySem
open Sem (wp)
open AutoSeq1 (wpAny_loadPart')
section
variable {prog:Program} {w:World} {A:Around} {E:Value->Shared->Prop} {s:Shared}
theorem FC {T newId:String} {Bn:Builtin} {v:Value} {x:Str} {u:Value} {Q:Value->Shared->Prop} (ft:TypeCalled T newId "object.__init__") (hne:(some newId != some "object.__new__")=true)
    (hct:checkTypeCall T ⟨[v],[(x,u)]⟩=pure ()) (hcn:checkBuiltinCall newId ⟨[.type T,v],[(x,u)]⟩=pure ()) (hok:∀ obj,argsOk "object.__init__" ⟨[obj,v],[(x,u)]⟩) (entryN:entryFor table newId=some Bn)
    (g:wpAny (model prog w) A.in1.in1 (Bn ⟨[.type T,v],[(x,u)]⟩) (λ fin s1=>∃ obj,fin= .done (.ret obj)/\s1.TypeIs obj T/\Q obj s1) E s):wpAny (model prog w) A (call (.type T) [v] [(x,u)]) Q E s:=by
  obtain ⟨c,tl,hmro⟩:=ft.mro;have hmade:=ft.made;have hsub:=ft.sub;refine wpAny_call (codeAny_of_tree ?_);show wpAny _ _ (callAny (.type T) _) _ _ _;refine wpAny_pure ⟨Code.quiet_builtin _ (by decide +kernel),codeAny_builtin F.entry_type_call ?_⟩;rw [Around.under_plain (weight_type_call_type T [v] [(x,u)]) (units_type_call_type T [v] [(x,u)])];have h1:=ft.notType;have h2:=ft.canCreate
  repeat (any_goals (first | assumption | wp_step))
  refine codeAny_call_builtin ft.plain entryN (wpAny_of_eq hcn (wpAny_mono g (λ fin s1 q=> ?_) λ _ _ q=>q));obtain ⟨obj,rfl,hT,q⟩:=q;have hli:=ft.init.lookup;have hbi:=ft.init.bind obj;show wpAny _ _ _ _ _ _
  repeat (any_goals (first | assumption | wp_step))
  refine codeAny_call_builtin ft.init.plain F.entry_object_init (ft.init.check _ _ _ _ _ _ _ _ hT (hok obj) ?_)
  repeat (any_goals (first | assumption | wp_step))
  trace_state
theorem Fy {v:Value} {t:Tok} {Q:Value->Shared->Prop}
    (h:wpAny (model prog w) A (pyIter v) (λ itv s1=>Q (.ref s1.heap.objs.size) { s1 with heap:=s1.heap.push { cls:= .type "enumerate",data:= .fields #[.none, .bool false,itv,rawInt 1, .none, .none] } }) E s):
    wpAny (model prog w) A (Builtin.«enumerate.__new__» ⟨[.type "enumerate",v],[("start", .int 1 t)]⟩) (λ fin s1=>∃ obj,fin= .done (.ret obj)/\Q obj s1) E s:=by
  have hsub:=sub_enumerate;have hit:∀ {R:Value->Shared->Prop},(∀ itv s1,Q (.ref s1.heap.objs.size) { s1 with heap:=s1.heap.push { cls:= .type "enumerate",data:= .fields #[.none, .bool false,itv,rawInt 1, .none, .none] } }->R itv s1)->wpAny (model prog w) A (pyIter v) R E s:=λ k=>wpAny_mono h k λ _ _ q=>q;unfold Builtin.«enumerate.__new__»
  wp_walk
  refine wpAny_stack_any λ st=>wpAny_pure ?_;split
  · rename_i c _ _ _ _ _
    cases (c == Value.type "enumerate")
    · wp_walk using hit
      intro itv s1 q
      wp_walk
      exact ⟨_,rfl,q⟩
    · wp_walk using hit
      intro itv s1 q
      wp_walk
      exact ⟨_,rfl,q⟩
  · wp_walk using hit
    intro itv s1 q
    wp_walk
    exact ⟨_,rfl,q⟩
theorem Gj {v:Value} {t:Tok} {Q:Value->Shared->Prop}
    (h:wpAny (model prog w) A.in1.in1 (pyIter v) (λ itv s1=>∃ it,itv= .ref it/\∀ h',IsEnum h' s1.heap.objs.size it 1 .none->(∀ b o,s1.heap.get? b=some o->h'.get? b=some o)->h'.objs.size=s1.heap.objs.size+1->Q (.ref s1.heap.objs.size) { s1 with heap:=h' }) E s):
    wpAny (model prog w) A (call (.type "enumerate") [v] [("start", .int 1 t)]) Q E s:=by
  refine FC F.called_enumerate (by decide) (by kernel_rfl) (by kernel_rfl) (λ obj=>by unfold argsOk;kernel_rfl) F.entry_enumerate_new (Fy (wpAny_mono h (λ itv s1 q=> ?_) λ _ _ q=>q));obtain ⟨it,rfl,q⟩:=q;refine ⟨⟨_,Heap.get?_push_size _ rfl,rfl⟩,q _ (Heap.get?_push_size _ rfl) (λ b o e=>Heap.get?_push_of_some _ e) (Heap.size_push ..)⟩
end
theorem LB {prog:Program} {w:World} {A:Around} {it:Addr} {fp:List Addr} {n:Nat} {Pv:Nat->Value->Prop} {St:Nat->Heap->Prop} (k:Nat) (D:Draws prog w A it fp n Pv St):
    Draws prog w A it fp (n+k) (λ i v=>∃ j,i=j+k/\Pv j v) (λ i h=>∃ j,i=j+k/\St j h) where
  live:=λ i h ⟨j,_,st⟩=>D.live j h st
  frame:=λ i h h' ⟨j,e,st⟩ q=>⟨j,e,D.frame j h h' st q⟩
  item:=λ i s Q E hi ⟨j,e,st⟩ hQ=>D.item j s Q E (by omega) st λ x h' tk p st' sb=>hQ x h' tk ⟨j,e,p⟩ ⟨j+1,by omega,st'⟩ sb
  done:=λ s Q E ⟨j,e,st⟩ hE=>D.done s Q E (by
    have q:j=n:=by omega
    rw [q] at st;exact st) hE
theorem FZ {M:Model} {A:Around} {E:Value->Shared->Prop} {s:Shared} {pos:Pos} {T:String} {args:List (Bool × Sem Value)} {kws:List (Option Str × Sem Value)} {Q:Value->Shared->Prop}
    (hp:args.any (·.1)=false) (hk:kws.any (·.1.isNone)=false) (h:wpAny M A (evalArgs (.type T) true args kws) (λ a s1=>wpAny M A (call (.type T) a.pos a.kw) Q E s1) E s):wpAny M A (callWith pos (.type T) [] args kws) Q E s:=by
  unfold callWith;refine wpAny_bind (wpAny_holding (wpAny_mono h (λ a s1 h1=>wpAny_bind (wpAny_standAt ?_)) λ _ _ q=>q));simp only [hp,hk,Bool.or_false];refine wpAny_bind (wpAny_pure ?_);refine wpAny_bind (wpAny_mono h1 (λ r s2 hr=> ?_) λ _ _ q=>q);exact wpAny_bind (wpAny_holding (wpAny_point (wpAny_pure hr)))
end L2
namespace L2
open PySem PySem.Spec PyProof.Rows
theorem KS {prog:Program} {w:World} {A:Around} (hh:A.handled=none) (tp:Bool) (it l:Addr) (hne:l≠it) (items:Array Value):
    Draws prog w A it [it,l] items.size (λ i v=>items[i]?=some v) (λ i h=>BQ tp h it l i/\Dk tp h l items) where
  live:=λ _ _ st=>let ⟨o,e,_⟩:=Ci st.1;⟨o,e⟩
  frame:=λ _ _ _ st hk=>⟨CQ st.1 λ o e=>hk it (by simp) o e,FU st.2 λ o e=>hk l (by simp) o e⟩
  item:=λ i s Q E hi st hQ=>HD st.1 st.2 (x:=items[i]) (by simp [hi]) λ h' hit sb=>hQ _ h' s.toks (by simp [hi]) ⟨hit,FU st.2 λ o e=>(sb.2 l hne).trans e⟩ sb
  done:=λ s Q E st hE=>GQ hh st.1 st.2 (by simp) hE
def HF (tp:Bool) (K:PySem.W.Frag) (a:Addr):It:=
  ⟨λ i H=>∃ xs x,SqS tp K H a xs/\xs[i]?=some x,λ i H v H'=>∃ p x,H p=none/\v= .ref p/\H'=upd H p (.tup [.int ((i+1:Nat):Int),x])/\∀ xs,SqS tp K H a xs->xs[i]?=some x,λ i H=>∃ xs,SqS tp K H a xs/\xs.length<=i⟩
theorem Gp {P:Program} {w:World} {K:PySem.W.Frag} {elts:List Expr} {k:Nat} {pos:Pos} (tp:Bool) (a e it:Addr) (hne:e≠it):
    Turn P w K (.Tuple elts k pos) (HF tp K a) [e,it] e (λ i h=>(∃ old,IsEnum h e it ((i+1:Nat):Int) old)/\BQ tp h it a i) where
  mem:=by simp
  obj:=λ i h st b hb=>by
    obtain ⟨⟨old,he⟩,hi⟩:=st;obtain ⟨o,eo,d⟩:=Ci hi;rcases List.mem_cons.mp hb with z | z
    · subst z;exact ⟨_,he,λ v z=>by cases (show Data.fields _=Data.cell v from z)⟩
    · have z:b=it:=by simpa using z
      subst z;exact ⟨o,eo,λ v z=>by rw [d] at z;cases z⟩
  keep:=λ i h h' st kp=>by
    obtain ⟨⟨old,he⟩,hi⟩:=st;exact ⟨⟨old,kp e (by simp) _ he⟩,CQ hi λ o z=>kp it (by simp) o z⟩
  item:=by
    intro X hP hw hK hc i pins s σ H E I hf st hg;subst hP hw hK;obtain ⟨xs,x,hq,hx⟩:=hg;obtain ⟨its,rv,p⟩:=Fu I hq;obtain ⟨u,hu,ru⟩:=rv.get hx;obtain ⟨⟨old,he⟩,hi⟩:=st;obtain ⟨oi,ei,di⟩:=Ci hi;obtain ⟨oa,na,ea,da⟩:=E6 p;have hel:e<s.heap.objs.size:=Heap.lt_size he;have hil:it<s.heap.objs.size:=Heap.lt_size ei;have nia:a≠it:=λ z=>by
      subst z;rw [ei] at ea;cases ea;rw [di] at da;cases da
    have nea:e≠a:=λ z=>by
      subst z;rw [show s.heap.get? e=_ from he] at ea;cases ea;cases (show Data.fields _=Data.seq _ _ from da)
    have hlt:i<its.toArray.size:=by
      have:=(List.getElem?_eq_some_iff.mp hu).1;simpa using this
    have D:=LB 1 (KS (prog:=X.prog) (w:=X.w) (A:=X.A.in1) (I.ok.hd hc) tp it a nia its.toArray);refine wpAny_pyNext_enum_itemD (i:=i+1) D he ⟨i,rfl,hi,p⟩ (by omega) hne (by simp [hne,nea]) λ v h' tk pv ho st' hT hsz hk=> ?_;obtain ⟨j,ej,ev⟩:=pv;obtain ⟨j2,ej2,hi',p'⟩:=st';have ej:j=i:=by omega
    have ej2:j2=i+1:=by omega
    subst ej ej2;have ev:v=u:=by
      rw [show its.toArray[j]?=some u by simpa using hu] at ev;exact (Option.some.inj ev).symm
    subst ev;have I0:=I.laid (h':=s.heap.push { cls:= .type "tuple",data:= .seq #[.int ((j+1:Nat):Int) tk,v] }) (a:=s.heap.objs.size) (o:= .tup [.int ((j+1:Nat):Int),x]) (t':=tk+1) (λ _ _ q=>Heap.get?_push_of_some _ q) (Nat.le_refl _)
      ⟨(by show 2<=sizeLine;decide),[.int ((j+1:Nat):Int) tk,v], .cons ⟨_,rfl⟩ (.cons ru .nil),⟨_,Heap.get?_push_size _ rfl,rfl,_,rfl⟩⟩
    have f0:∀ b∈[e,it],Cj X pins (upd H s.heap.objs.size (.tup [.int ((j+1:Nat):Int),x])) b:=λ b hb=>Ia (hf b hb) (by
      rcases List.mem_cons.mp hb with z | z
      · rw [z];exact Nat.ne_of_lt hel
      · rw [show b=it by simpa using z];exact Nat.ne_of_lt hil)
    have I1:=Inv.turnedL (t':=tk+1) (h':=h') [e,it] I0 f0 (λ b o hb z=>by
      have hb1:b≠e:=λ q=>hb (by simp [q]);have hb2:b≠it:=λ q=>hb (by simp [q]);rcases Heap.get?_push_cases (show (s.heap.push { cls:= .type "tuple",data:= .seq #[.int ((j+1:Nat):Int) tk,v] }).get? b=some o from z) with ⟨q1,q2⟩ | q
      · rw [q1,q2];exact hT
      · exact hk b o hb1 hb2 q)
    refine ⟨.ref s.heap.objs.size,rfl,wpAny_letOwnedTupleGo_enum (s:={ s with heap:=h',toks:=tk+1 }) ho λ h2 he2 sb=> ?_⟩;exact ⟨.ref s.heap.objs.size,_,Inv.turnedL (t':=tk+1) (h':=h2) [e,it] I1 f0 (λ b o hb z=>(sb.2 b λ q=>hb (by simp [q])).trans z),rfl,⟨_,x,I.fresh,rfl,rfl,λ ys hy=>by rw [JX I hy hq];exact hx⟩,
      ⟨⟨v,by simpa using he2⟩,CQ hi' λ o z=>(sb.2 it hne.symm).trans z⟩,λ b hb=>(f0 b hb).1⟩
  done:=by
    intro X hP hw hK hc i pins s σ H E I hf st hg;subst hP hw hK;obtain ⟨xs,hq,hx⟩:=hg;obtain ⟨its,rv,p⟩:=Fu I hq;obtain ⟨⟨old,he⟩,hi⟩:=st;obtain ⟨oi,ei,di⟩:=Ci hi;obtain ⟨oa,na,ea,da⟩:=E6 p;have hT:s.TypeIs (.ref e) "enumerate":=⟨_,he,rfl⟩;have hl:=rv.length;unfold pyNext;refine wpAny_bind (wpAny_attempt (wpAny_callSpecial?_slot (name:=Str.ofString "__next__") hT F.slot_enumerate_next (wpAny_call_entry F.slot_enumerate_next hT F.entry_enumerate_next ?_ (F.args_enumerate_next_1 _))));show wpAny _ _ (field (.ref e) 2 >>= _) _ _ _;refine wpAny_bind (wpAny_field he rfl (x:= .ref it) rfl ?_);refine wpAny_bind (GQ (A:=X.A.in1) (I.ok.hd hc) hi p (by simp;omega) λ h' x eb hx'=> ?_);obtain ⟨o,ho,hc2⟩:=hx';exact wpAny_bind (wpAny_isInstance (T:="StopIteration") (b:=true) ⟨o,ho,hc2⟩ isSubtype_stop (wpAny_pure ⟨rfl,I.turnedL (t':=s.toks) [e,it] hf λ b o hb z=>eb b o (λ q=>hb (by simp [q])) z⟩))
  self:=λ _ _ _ _ _ st h=>by
    obtain ⟨⟨old,he⟩,_⟩:=st;exact wpAny_pyIter_enum he h
section
variable {X:Cx} {elts:List Expr} {k:Nat} {tpos:Pos} {K:PySem.W.Frag}
def HE (K:PySem.W.Frag) (ta:TA):TI:=λ σ H R=>ta σ H λ vs H1=>∃ tp a,vs=[.ref a]/\(∃ xs,SqS tp K H1 a xs)/\R (HF tp K a) H1
theorem IG {l:Expr} {ta:TA} {p pos kp cp:Pos} {cj:Nat} (hg:Gl X "enumerate") (hm:X.mg "enumerate"=none) (ha:PA X [l] ta) (hK:X.K=K:=by rfl) (hs:starEach [l] X.env=[(false,eval l X.env)]:=by rfl):
    PI X (.Tuple elts k tpos) (.Call (.Name "enumerate" p) [l] [⟨some "start", .Constant (.int 1) cj cp,kp⟩] pos) (HE K ta):=by
  subst hK;intro pins s σ H R I h;refine wpAny_Call_Name_kw (Da I hg hm EX (FZ (by rw [hs];rfl) rfl (PyProof.Rows.evalArgs_kw2 rfl ?_ (by rw [hs];rfl))));refine thn (ha pos pins s σ H _ I h) λ us s1 ⟨vs,H1,I1,r1,q1⟩=>PyProof.Rows.kwAll_cons ?_;refine Ac pins s1 σ H1 (λ v H2=>v= .int 1/\H2=H1) I1 ⟨rfl,rfl⟩ |> λ z=>thn z λ u s2 ⟨v,H2,I2,r2,ev,eh⟩=> ?_
  subst ev eh;obtain ⟨t,rfl⟩:=r2;refine PyProof.Rows.kwAll_nil ?_;obtain ⟨tp,a,e,⟨xs,hq⟩,q⟩:=q1;subst e;cases r1 with
  | cons r rr=>
    cases rr;cases r;obtain ⟨its,rv,pl⟩:=Fu I2 hq;refine Gj ?_;refine Ii pl ⟨_,rfl,λ h' he hk hsz=> ?_⟩;refine wpAny_pyIter_enum he ?_;have hz:(s2.heap.push { cls:= .type (HW tp),data:= .fields #[.ref a, .int 0 0] }).objs.size=s2.heap.objs.size+1:=Heap.size_push ..;have hk2:∀ b o,s2.heap.get? b=some o->h'.get? b=some o:=λ b o z=>hk b o (Heap.get?_push_of_some _ z);have I3:=I2.kept (t':=s2.toks) hk2;have st:BQ tp h' s2.heap.objs.size a 0:=CQ G1 λ o z=>hk _ o z;refine ⟨_,[_,s2.heap.objs.size],_,_,H2,rfl,I3,Gp tp a _ _ (by rw [hz];exact Nat.succ_ne_self _),⟨⟨_,he⟩,st⟩,λ b hb=> ?_,q⟩;have hb':s2.heap.objs.size<=b:=by
      rcases List.mem_cons.mp hb with z | z
      · rw [z,hz];exact Nat.le_succ _
      · have z:b=s2.heap.objs.size:=by simpa using z
        rw [z];exact Nat.le_refl _
    exact I2.fpOk hb' (I2.hok.fresh hb')
end
def Isq (tp:Bool) (K:PySem.W.Frag) (a:Addr):It:=if tp=true then Itt K a else Itl K a
section
variable {X:Cx} {tg:Expr} {K:PySem.W.Frag}
def iSq (K:PySem.W.Frag) (tl:TE):TI:=λ σ H R=>tl σ H λ x H1=>∃ tp a,x= .ref a/\(∃ xs,SqS tp K H1 a xs)/\R (Isq tp K a) H1
theorem L4 {l:Expr} {tl:TE} (hl:PE X l tl) (hK:X.K=K:=by rfl):PI X tg l (iSq K tl):=by
  subst hK;intro pins s σ H R I h;refine thn (hl pins s σ H _ I h) λ v s1 ⟨x,H1,I1,r1,q1⟩=> ?_;obtain ⟨tp,a,e,⟨xs,hq⟩,q⟩:=q1;subst e;cases r1;cases tp with
  | false=>
    obtain ⟨its,rv,p,hz⟩:=I1.list (show SqL X.K H1 a xs from hq);refine wpAny_pyIter_list p.isList ?_;refine ⟨s1.heap.objs.size,[s1.heap.objs.size],_,_,H1,rfl,I1.kept (t':=s1.toks) λ b o e=>Heap.get?_push_of_some _ e,ER a _,⟨_,Heap.get?_push_size _ rfl,rfl,rfl⟩,λ b hb=> ?_,q⟩;have e:b=s1.heap.objs.size:=by simpa using hb
    subst e;exact I1.fpOk (Nat.le_refl _) (I1.hok.fresh (Nat.le_refl _))
  | true=>
    obtain ⟨its,rv,p,hz⟩:=I1.tuple (show SqT X.K H1 a xs from hq);refine wpAny_pyIter_tuple (show s1.heap.IsTuple a its.toArray from p) ?_;refine ⟨s1.heap.objs.size,[s1.heap.objs.size],_,_,H1,rfl,I1.kept (t':=s1.toks) λ b o e=>Heap.get?_push_of_some _ e,Ea a _,⟨_,Heap.get?_push_size _ rfl,rfl,rfl⟩,λ b hb=> ?_,q⟩;have e:b=s1.heap.objs.size:=by simpa using hb
    subst e;exact I1.fpOk (Nat.le_refl _) (I1.hok.fresh (Nat.le_refl _))
end
structure FSrc (J:It) (g:TG) (H:Hp) (n:Nat) (set:Nat->St->St):Prop where
  go:∀ i H',i<n->Same H H'->J.go i H'
  stop:∀ H',Same H H'->J.stop n H'
  yld:∀ i σ H' x H'' (R:St->Hp->Prop),i<n->Same H H'->J.yld i H' x H''->(∀ H3,Same H' H3->R (set i σ) H3)->g x σ H'' R
theorem Cg {J:It} {g:TG} {H:Hp} {n:Nat} {set:Nat->St->St} {tb:TS} {D:Ends} {σ:St} (S:FSrc J g H n set) (Pv:Nat->St->Hp->Prop) (h0:Pv 0 σ H) (hk:∀ i σ H',Pv i σ H'->Same H H')
    (hs:∀ i σ H' H3,i<n->Pv i σ H'->Same H' H3->tb { D with nx:=Pv (i+1),ct:=Pv (i+1),bk:=D.nx } (set i σ) H3) (hd:∀ σ H',Pv n σ H'->D.nx σ H'):
    ∃ W:Nat->Nat->St->Hp->Prop,(∃ m,W 0 m σ H)/\∀ i m σ H,W i m σ H->
      (J.stop i H/\D.nx σ H)\/(J.go i H/\∃ N:St->Hp->Prop,(∀ σ' H',N σ' H'->∃ m',m'<m/\W (i+1) m' σ' H')/\∀ x H',J.yld i H x H'->g x σ H' λ σ2 H2=>tb { D with nx:=N,ct:=N,bk:=D.nx } σ2 H2):=by
  refine ⟨λ i m σ H'=>m=n - i/\i<=n/\Pv i σ H',⟨n,by simp,Nat.zero_le _,h0⟩,?_⟩;rintro i m σ H1 ⟨rfl,hi,p⟩;by_cases hlt:i<n
  · exact .inr ⟨S.go i H1 hlt (hk _ _ _ p),Pv (i+1),λ σ' H' p'=>⟨n - (i+1),by omega,rfl,hlt,p'⟩,λ x H' y=>S.yld i σ H1 x H' _ hlt (hk _ _ _ p) y λ H3 s3=>hs i σ H1 H3 hlt p s3⟩
  · have e:i=n:=by omega
    subst e;exact .inl ⟨S.stop H1 (hk _ _ _ p),hd σ H1 p⟩
section
variable {K:PySem.W.Frag} {H:Hp} {a b:Addr} {xs zs:List V} {tp t1 t2:Bool} {i1 i2:Nat}
theorem Ko (h:SqS tp K H a xs):FSrc (Isq tp K a) (AC i1) H xs.length (λ i σ=>σ.set i1 (some (xs.getD i .non))):=by
  cases tp with
  | false=>exact {
      go:=λ i H' hi s=>⟨xs,xs[i],SqS.same (tp:=false) h s,by simp [hi]⟩
      stop:=λ H' s=>⟨xs,SqS.same (tp:=false) h s,Nat.le_refl _⟩
      yld:=λ i σ H' x H'' R hi s y k=>by
        obtain ⟨e,hv⟩:=y;subst e;have e:x=xs.getD i .non:=by
          rw [List.getD_eq_getElem?_getD,hv xs (SqS.same (tp:=false) h s)];rfl
        subst e;exact k _ (Same.refl _) }
  | true=>exact {
      go:=λ i H' hi s=>⟨xs,xs[i],SqS.same (tp:=true) h s,by simp [hi]⟩
      stop:=λ H' s=>⟨xs,SqS.same (tp:=true) h s,Nat.le_refl _⟩
      yld:=λ i σ H' x H'' R hi s y k=>by
        obtain ⟨e,hv⟩:=y;subst e;have e:x=xs.getD i .non:=by
          rw [List.getD_eq_getElem?_getD,hv xs (SqS.same (tp:=true) h s)];rfl
        subst e;exact k _ (Same.refl _) }
theorem GY (h:SqL K H a xs):FSrc (Itl K a) (AC i1) H xs.length (λ i σ=>σ.set i1 (some (xs.getD i .non))):=Ko (tp:=false) h
theorem Fw {lo:Int} {n:Nat}:FSrc (Itr lo n) (AC i1) H n (λ i σ=>σ.set i1 (some (.int (lo+i)))) where
  go:=λ i H' hi s=>hi
  stop:=λ H' s=>Nat.le_refl _
  yld:=λ i σ H' x H'' R hi s y k=>by
    obtain ⟨e,hv⟩:=y;subst e hv;exact k _ (Same.refl _)
theorem Jb (h:SqS tp K H a xs):FSrc (HF tp K a) (FL K 2 (Bu (AC i1) (Bu (AC i2) Gv))) H xs.length (λ i σ=>(σ.set i1 (some (.int ((i+1:Nat):Int)))).set i2 (some (xs.getD i .non))) where
  go:=λ i H' hi s=>⟨xs,xs[i],h.same s,by simp [hi]⟩
  stop:=λ H' s=>⟨xs,h.same s,Nat.le_refl _⟩
  yld:=λ i σ H' x H'' R hi s y k=>by
    obtain ⟨p,v,hp,rfl,rfl,hv⟩:=y;have e:v=xs.getD i .non:=by
      rw [List.getD_eq_getElem?_getD,hv xs (h.same s)];rfl
    subst e;exact ⟨p,_,rfl,SqT.of Ae,rfl,_,_,rfl,_,_,rfl,rfl,k _ (Ai hp)⟩
theorem Jj (h:SqL K H a xs):FSrc (Ite K a) (FL K 2 (Bu (AC i1) (Bu (AC i2) Gv))) H xs.length (λ i σ=>(σ.set i1 (some (.int i))).set i2 (some (xs.getD i .non))) where
  go:=λ i H' hi s=>⟨xs,xs[i],s.seq h,by simp [hi]⟩
  stop:=λ H' s=>⟨xs,s.seq h,Nat.le_refl _⟩
  yld:=λ i σ H' x H'' R hi s y k=>by
    obtain ⟨p,v,hp,rfl,rfl,hv⟩:=y;have e:v=xs.getD i .non:=by
      rw [List.getD_eq_getElem?_getD,hv xs (s.seq h)];rfl
    subst e;exact ⟨p,_,rfl,SqT.of Ae,rfl,_,_,rfl,_,_,rfl,rfl,k _ (Ai hp)⟩
theorem FSrc.src {J:It} {g:TG} {n:Nat} {set:Nat->St->St} {σ0:St} (S:FSrc J g H n set) (kp:∀ i,i<n->Kp σ0 (set i σ0)):SrcOk J g σ0 H n (λ i=>set i σ0) where
  go:=S.go
  stop:=S.stop
  yld:=λ i H' x H'' R hi s y k=>S.yld i σ0 H' x H'' R hi s y k
  kp:=kp
theorem Ho {σ0:St} (h:SqS tp K H a xs) (h0:σ0[0]?=some none) (h1:σ0[1]?=some none):SrcOk (HF tp K a) (FL K 2 (Bu (AC 0) (Bu (AC 1) Gv))) σ0 H xs.length (λ i=>(σ0.set 0 (some (.int ((i+1:Nat):Int)))).set 1 (some (xs.getD i .non))):=
  (Jb h).src λ i _=>((Kp.refl _).set h0).set h1
end
theorem bA (a b:Nat):Builtin.bitAnd (a:Int) (b:Int)=((a &&& b:Nat):Int):=by
  rw [PyProof.Rows.bitAnd_pp (by omega) (by omega)];rfl
theorem bO (a b:Nat):Builtin.bitOr (a:Int) (b:Int)=((a ||| b:Nat):Int):=by
  have h:=MM.or_add_and a b;rw [PyProof.Rows.bitOr_and,bA];omega
theorem bX (a b:Nat):Builtin.bitXor (a:Int) (b:Int)=((a ^^^ b:Nat):Int):=by
  have h:=MM.xor_eq a b;show Builtin.bitOr (a:Int) b - Builtin.bitAnd (a:Int) b=_;rw [bO,bA];omega
theorem Jx (m:Nat):((Builtin.Int.intBits (m:Int):Nat):Int)=((MM.bits m:Nat):Int):=by
  unfold Builtin.Int.intBits MM.bits;by_cases h:m=0
  · subst h;rfl
  · have e:((m:Int) == 0)=false:=by simp [h]
    rw [e,if_neg h];simp
theorem FQ (n:Nat):(1:Int)*2 ^ n=((2 ^ n:Nat):Int):=by
  rw [Int.one_mul];push_cast;rfl
section
variable {X:Cx}
def rBits:V->List V->Hp->VK->Prop:=λ x vs H Q=>∃ i:Int,x= .int i/\vs=[]/\Q (.int (Builtin.Int.intBits i:Nat)) H
theorem EE:MtM X "int.bit_length" rBits:=by
  intro pins s σ H x vs v us Q I rx rv h;obtain ⟨i,rfl,rfl,q⟩:=h;obtain ⟨t,rfl⟩:=rx;have hus:=rv.zero;subst hus;exact PyProof.Rows.call_int_bit_length ⟨.int _,H,I.tok _,⟨_,rfl⟩,q⟩
end
section
variable {H:Hp} {Q:VK} {σ:St} {D:Ends} {te:TE} {ti:TIp} {i:Nat} {x:V}
theorem Jr {m:Nat} (h:Q (.int (MM.bits m:Nat)) H):rBits (.int (m:Nat)) [] H Q:=⟨m,rfl,rfl,by rw [Jx];exact h⟩
theorem KO (e:σ[i]?=some (some x)) (h:te σ H λ y H1=>ti x y H1 λ z H2=>D.nx (σ.set i (some z)) H2):Ms i te ti D σ H:=⟨x,e,h⟩
end
abbrev nV (n:Nat):V:= .int (n:Nat)
theorem Bf {ns:List Nat} {i:Nat} (h:i<(ns.map nV).length):(ns.map nV).getD i .non= .int (ns.getD i 0:Nat):=by
  have h':i<ns.length:=by simpa using h
  simp [List.getD_eq_getElem?_getD,h']
theorem DI {ns:List Int} {i:Nat} (h:i<(ns.map V.int).length):(ns.map V.int).getD i .non= .int (ns.getD i 0):=by
  have h':i<ns.length:=by simpa using h
  simp [List.getD_eq_getElem?_getD,h']
theorem Jn {ns:List Int} {k:Int} (h0:0<=k) (h1:k<ns.length):atI (ns.map V.int) k=some (.int (ns.getD k.toNat 0)):=by
  obtain ⟨j,rfl⟩:∃ j:Nat,k=j:=⟨k.toNat,by omega⟩;have h':j<ns.length:=by omega
  refine A3 ?_;rw [show ((j:Int)).toNat=j by omega];simp [List.getD_eq_getElem?_getD,h']
theorem B3 {ns:List Nat} {k:Int} (h0:0<=k) (h1:k<ns.length):atI (ns.map nV) k=some (.int (ns.getD k.toNat 0:Nat)):=by
  obtain ⟨j,rfl⟩:∃ j:Nat,k=j:=⟨k.toNat,by omega⟩;have h':j<ns.length:=by omega
  refine A3 ?_;rw [show ((j:Int)).toNat=j by omega];simp [List.getD_eq_getElem?_getD,h']
theorem Hb {ns:List Nat} {i:Nat} (h:i<ns.length):ns.take (i+1)=ns.take i++[ns.getD i 0]:=by
  rw [List.take_succ_eq_append_getElem h];simp [List.getD_eq_getElem?_getD,h]
theorem Bt {J:It} {g:TG} {σ0:St} {H:Hp} {n:Nat} {st:Nat->St} {te:TE} {Q:VK} {D:Addr} {G:Nat->Int} (S:SrcOk J g σ0 H n st) (hD:H D=none) (hn:n<=100000)
    (he:∀ i H' (R:VK),i<n->Same H H'->(∀ H3,Same H' H3->R (.int (G i)) H3)->te (st i) H' R)
    (hd:∀ H',Same H H'->H' D=some (.lst (((List.range n).map G).map V.int))->Q (.ref D) H'):Ds J σ0 g JW te Q H D:=by
  refine Fx (m:=0) (G:=λ i=> .int (G i)) S hD hn (λ i H' R hi s k=>he i H' R hi s λ H3 s3=>k H3 _ s3 (.int _)) λ H' ys s hl r=> ?_;have e:(List.range n).map (λ i=>Dt.int (G i))=((List.range n).map G).map Dt.int:=by rw [List.map_map];rfl
  rw [e] at r;obtain ⟨b,eb,hb,fb⟩:=Gz r;cases eb;exact hd H' s hb
theorem DR {J:It} {g:TG} {σ0:St} {H:Hp} {n:Nat} {st:Nat->St} {tc:TT} {te:TE} {Q:VK} {D:Addr} {p:Nat->Bool} {G:Nat->Int} (S:SrcOk J g σ0 H n st) (hD:H D=none) (hn:n<=100000)
    (ht:∀ i H' (R:Bool->Hp->Prop),i<n->Same H H'->(∀ H3,Same H' H3->R (p i) H3)->tc (st i) H' R)
    (he:∀ i H' (R:VK),i<n->p i=true->Same H H'->(∀ H3,Same H' H3->R (.int (G i)) H3)->te (st i) H' R)
    (hd:∀ H',Same H H'->H' D=some (.lst ((((List.range n).filter p).map G).map V.int))->Q (.ref D) H'):Ds J σ0 g tc te Q H D:=by
  refine EY (m:=0) (p:=p) (G:=λ i=> .int (G i)) S hD hn ht (λ i H' R hi hp s k=>he i H' R hi hp s λ H3 s3=>k H3 _ s3 (.int _)) λ H' ys s hl r=> ?_;have e:((List.range n).filter p).map (λ i=>Dt.int (G i))=(((List.range n).filter p).map G).map Dt.int:=by rw [List.map_map];rfl
  rw [e] at r;obtain ⟨b,eb,hb,fb⟩:=Gz r;cases eb;exact hd H' s hb
theorem Hy {J:It} {g:TG} {σ0:St} {H:Hp} {n:Nat} {st:Nat->St} {te:TE} {Q:VK} {D:Addr} {G:Nat->Bool} (S:SrcOk J g σ0 H n st) (hD:H D=none) (hn:n<=100000)
    (he:∀ i H' (R:VK),i<n->Same H H'->(∀ H3,Same H' H3->R (.bl (G i)) H3)->te (st i) H' R)
    (hd:∀ H',Same H H'->H' D=some (.lst (((List.range n).map G).map V.bl))->Q (.ref D) H'):Ds J σ0 g JW te Q H D:=by
  refine Fx (m:=0) (G:=λ i=> .bl (G i)) S hD hn (λ i H' R hi s k=>he i H' R hi s λ H3 s3=>k H3 _ s3 (.bl _)) λ H' ys s hl r=> ?_;have e:ys=((List.range n).map G).map V.bl:=by
    cases r with
    | @lst _ _ vs _ q f b l ee=>
      rw [hl] at q;cases q;refine List.ext_getElem (by simpa using l) λ i h1 h2=> ?_;have hi:i<n:=by simpa using h2
      have:=ee i ys[i] (.bl (G i)) (by simp [h1]) (by simp [hi]);cases hv:ys[i] <;> rw [hv] at this <;> cases this;simp
  rw [e] at hl;exact hd H' s hl
def A1 (P:Program) (w:World) (K:PySem.W.Frag) (mg:Str->Option Value) (base:Heap) (C:Addr) (m:Str) (k:Nat) (ps:List Str) (sp:Sp):Prop:=
  ∃ f fd,Cls K C/\Meth K C m f/\FnOk P w K mg base CX0 k f fd ps sp/\Binds K fd ps []
section
variable {X:Cx} {x m:Str} {C:Addr} {k:Nat} {ps:List Str} {sp:Sp} {o e:Expr} {es:List Expr} {t:TA} {ta:TE} {p pos apos:Pos}
theorem DN {pl:Sem Bool} (he:PE X o ta) (h:A1 X.prog X.w X.K X.mg X.base C m k ps sp) (hr:Room k X.A) (ha:PA X (e::es) t)
    (hst:starEach (e::es) X.env=(false,eval e X.env)::starEach es X.env:=by rfl) (hpl:(backTo pos (starEach es X.env)).any (·.1)=false:=by rfl)
    (ht:eval (.Call (.Attribute o m apos) (e::es) [] pos) X.env=(do
      let ov <-eval o X.env
      standAt apos.atName
      let (f,first) <-holding [ov] (getMethod ov m pl)
      callWith pos f first (backTo pos (starEach (e::es) X.env)) (backToKw pos (keywordEach [] X.env))):=by rfl):
    PE X (.Call (.Attribute o m apos) (e::es) [] pos) (E8 C m sp [] E0 ta t):=by
  obtain ⟨f,fd,c,hm,F,hb⟩:=h;exact JJ (pl:=pl) he c hm F hr hb .nil H0 ha hst hpl ht
theorem Bz {pl:Sem Bool} (he:PE X o ta) (h:A1 X.prog X.w X.K X.mg X.base C m k ps sp) (hr:Room k X.A)
    (ht:eval (.Call (.Attribute o m apos) [] [] pos) X.env=(do
      let ov <-eval o X.env
      standAt apos.atName
      let (f,first) <-holding [ov] (getMethod ov m pl)
      callWith pos f first (backTo pos (starEach [] X.env)) (backToKw pos (keywordEach [] X.env))):=by rfl):
    PE X (.Call (.Attribute o m apos) [] [] pos) (E8 C m sp [] E0 ta JB):=by
  obtain ⟨f,fd,c,hm,F,hb⟩:=h;exact IS (pl:=pl) he c hm F hr hb .nil H0 ht
theorem Dr {x:Str} {C:Addr} {pos:Pos} (h:X.mg x=some (.ref C)) (hg:Gl X x:=by rfl) (hd:(x == ("__debug__":Str))=false:=by decide):PE X (.Name x pos) (tC (.ref C)):=GL hg h rfl hd
end
structure Kind (K:PySem.W.Frag) (C:Addr):Prop where
  cl:Cls K C
  ha:PySem.W.findIn K (.ref C) "__class__"=some (some (.builtin "object.__class__"))
  hn:PySem.W.specialIn K (.builtin "object.__class__") "__get__"=some (some (.builtin "getset_descriptor.__get__"))
  htk:PySem.W.takesIn K (.builtin "object.__class__")=some true
  hm:PySem.W.mroIn K C (.type "object")=some true
section
variable {K:PySem.W.Frag} {H:Hp} {Q:VK} {σ:St} {D:Ends} {te tv:TE} {t:TA} {a C dx:Addr} {fs:List (Str × V)} {f:Str} {v:V} {sp:Sp}
theorem Lg (h:te σ H λ x H1=>∃ a C dx fs v,x= .ref a/\H1 a=some (.ins C dx fs)/\Cls K C/\NoAttr K C f/\fs.lookup f=some v/\Q v H1):KR K te f σ H Q:=h
theorem Kt (h:tv σ H λ y H1=>te σ H1 λ x H2=>∃ a C dx fs,x= .ref a/\H2 a=some (.ins C dx fs)/\Cls K C/\NoAttr K C f/\fs.length<1000/\D.nx σ (upd H2 a (.ins C dx (BB f y fs)))):LI K te tv f D σ H:=h
theorem HY {y:V} (e:H a=some (.ins C dx fs)) (c:Cls K C) (n:NoAttr K C f) (l:fs.length<1000) (h:D.nx σ (upd H a (.ins C dx (BB f y fs)))):∃ a' C' dx' fs',V.ref a= .ref a'/\H a'=some (.ins C' dx' fs')/\Cls K C'/\NoAttr K C' f/\fs'.length<1000/\D.nx σ (upd H a' (.ins C' dx' (BB f y fs'))):=⟨a,C,dx,fs,rfl,e,c,n,l,h⟩
theorem JS (h:t σ H λ vs H1=>∀ x dx,H1 x=none->H1 dx=none->dx≠x->sp (.ref x::vs) (upd (upd H1 dx (.own x)) x (.ins C dx [])) (λ v H2=>v= .non/\Q (.ref x) H2) E0):E3 C sp [] E0 t σ H Q:=by
  unfold E3;simpa using h
theorem JY {m:Str} (h:te σ H λ x H1=>∃ a dx fs,x= .ref a/\H1 a=some (.ins C dx fs)/\fs.lookup m=none/\t σ H1 λ vs H2=>sp (x::vs) H2 Q E0):E8 C m sp [] E0 te t σ H Q:=by
  unfold E8;simpa using h
end
theorem IJ {r r':R2} {ta tb tc:TE} {σ:St} {H:Hp} {Q:VK} (h:ta σ H λ x H1=>tb σ H1 λ y H2=>r x y H2 λ z H3=>∃ k,z= .bl k/\(if k=true then tc σ H3 λ w' H4=>r' y w' H4 Q else Q (.bl false) H3)):HN r r' ta tb tc σ H Q:=h
def AH (x:V) (a b:Int):Bool:=match x with | .int i=>decide (a<=i)&&decide (i<=b) | _=>false
theorem FJ {b b':Bool} {Q:VK} {H:Hp} (e:b=b') (h:Q (.bl b') H):Q (.bl b) H:=e▸h
theorem Ij {b:Bool} {A B:Prop} (h1:b=true->A) (h2:b=false->B):if b=true then A else B:=by
  cases b with
  | true=>exact h1 rfl
  | false=>exact h2 rfl
theorem F2 {H:Hp} {x dx:Addr} {o:HO} {u:HO} (h1:H x=none) (h2:H dx=none):Same H (upd (upd H dx u) x o):=λ b q e=>by
  rw [Am (As e h1),Am (As e h2)];exact e
mutual
def eqD:Dt->Dt->Bool
  | .non, .non=>true
  | .bl a, .bl b=>a == b
  | .int a, .int b=>a == b
  | .str a, .str b=>a == b
  | .bl a, .int b=>(if a then 1 else 0) == b
  | .int a, .bl b=>a == (if b then 1 else 0)
  | .lst xs, .lst ys=>B2 xs ys
  | .tup xs, .tup ys=>B2 xs ys
  | _,_=>false
def B2:List Dt->List Dt->Bool
  | [],[]=>true
  | x::xs,y::ys=>eqD x y&&B2 xs ys
  | _,_=>false
end
theorem A6:∀ {xs ys:List Dt},xs.length≠ys.length->B2 xs ys=false
  | [],[],h=>absurd rfl h
  | [],_::_,_=>by unfold B2;rfl
  | _::_,[],_=>by unfold B2;rfl
  | x::xs,y::ys,h=>by
    unfold B2;rw [A6 (xs:=xs) (ys:=ys) (λ e=>h (by simp [e])),Bool.and_false]
theorem Bc:∀ {xs ys:List Dt},xs.length=ys.length->B2 xs ys=(List.range xs.length).all λ i=>eqD (xs.getD i .non) (ys.getD i .non)
  | [],[],_=>by unfold B2;rfl
  | [],_::_,h=>by simp at h
  | _::_,[],h=>by simp at h
  | x::xs,y::ys,h=>by
    unfold B2;rw [Bc (xs:=xs) (ys:=ys) (by simpa using h),List.length_cons,List.range_succ_eq_map,List.all_cons,List.all_map];rfl
mutual
theorem CN:∀ d:Dt,eqD d d=true
  | .non=>by unfold eqD;rfl
  | .bl a=>by unfold eqD;simp
  | .int a=>by unfold eqD;simp
  | .str a=>by unfold eqD;simp
  | .lst xs=>by unfold eqD;exact Di xs
  | .tup xs=>by unfold eqD;exact Di xs
theorem Di:∀ d:List Dt,B2 d d=true
  | []=>by unfold B2;rfl
  | x::xs=>by unfold B2;rw [CN x,Di xs];rfl
end
theorem Rp.inj {H:Hp} {F G:Addr->Prop} {n m:Nat} {v:V} {d e:Dt} (r:Rp H F n v d) (r2:Rp H G m v e):d=e:=by
  induction r generalizing m e with
  | non=>cases r2;rfl
  | bl b=>cases r2;rfl
  | int i=>cases r2;rfl
  | str z=>cases r2;rfl
  | @lst n a vs ds h f b l el ih=>
    cases r2 with
    | @lst m _ vs2 ds2 h2 f2 b2 l2 el2=>
      rw [h] at h2;cases h2;congr 1;refine List.ext_getElem (by omega) λ i h1 h3=> ?_;have hv:i<vs.length:=by omega
      exact ih i vs[i] ds[i] (by simp [hv]) (by simp [h1]) (el2 i vs[i] ds2[i] (by simp [hv]) (by simp [h3]))
    | tup h2 _ _ _=>rw [h] at h2;cases h2
  | @tup n a vs ds h b l el ih=>
    cases r2 with
    | @tup m _ vs2 ds2 h2 b2 l2 el2=>
      rw [h] at h2;cases h2;congr 1;refine List.ext_getElem (by omega) λ i h1 h3=> ?_;have hv:i<vs.length:=by omega
      exact ih i vs[i] ds[i] (by simp [hv]) (by simp [h1]) (el2 i vs[i] ds2[i] (by simp [hv]) (by simp [h3]))
    | lst h2 _ _ _ _=>rw [h] at h2;cases h2
section
variable {X:Cx} {pins:List (Addr × Obj)} {σ:St} {H:Hp} {s:Shared}
theorem Cd {F G:Addr->Prop} {n:Nat} {xs ys:List V} {ds es:List Dt} {its its2:List Value} {A:Around} (r:Vals xs its) (r2:Vals ys its2) (l1:xs.length=ds.length) (l2:ys.length=es.length)
    (el:∀ (i:Nat) (v:V) (d:Dt),xs[i]?=some v->ds[i]?=some d->Rp H F n v d) (el2:∀ (i:Nat) (v:V) (d:Dt),ys[i]?=some v->es[i]?=some d->Rp H G n v d)
    (ih:∀ {v u:V} {d e:Dt} {rv ru:Value},Rp H F n v d->Rp H G n u e->RelV v rv->RelV u ru->SeqAt.EqAt A s rv ru (eqD d e)):
    ∀ j (h1:j<its.toArray.size) (h2:j<its2.toArray.size),SeqAt.EqAt A s its.toArray[j] its2.toArray[j] (eqD (ds.getD j .non) (es.getD j .non)):=λ j h1 h2=>by
  have k1:=r.length;have k2:=r2.length;have h1':j<its.length:=by simpa using h1
  have h2':j<its2.length:=by simpa using h2
  have g1:xs[j]?=some (xs.getD j .non):=by rw [List.getD_eq_getElem?_getD,List.getElem?_eq_getElem (by omega)];rfl
  have g2:ys[j]?=some (ys.getD j .non):=by rw [List.getD_eq_getElem?_getD,List.getElem?_eq_getElem (by omega)];rfl
  have d1:ds[j]?=some (ds.getD j .non):=by rw [List.getD_eq_getElem?_getD,List.getElem?_eq_getElem (by omega)];rfl
  have d2:es[j]?=some (es.getD j .non):=by rw [List.getD_eq_getElem?_getD,List.getElem?_eq_getElem (by omega)];rfl
  obtain ⟨u,e1,ru⟩:=r.get g1;obtain ⟨u2,e2,ru2⟩:=r2.get g2;have q1:its.toArray[j]=u:=by rw [List.getElem?_eq_getElem h1'] at e1;simpa using Option.some.inj e1
  have q2:its2.toArray[j]=u2:=by rw [List.getElem?_eq_getElem h2'] at e2;simpa using Option.some.inj e2
  rw [q1,q2];exact ih (el j _ _ g1 d1) (el2 j _ _ g2 d2) ru ru2
theorem A5 (A:Around):A.in1.units=A.units+1:=rfl
theorem Fe (I:Inv X pins σ H s) {F G:Addr->Prop}:∀ {n:Nat} {A:Around} {v u:V} {d e:Dt} {rv ru:Value},Rp H F n v d->Rp H G n u e->RelV v rv->RelV u ru->A.units+n<cLine->SeqAt.EqAt A s rv ru (eqD d e):=by
  intro n;have sc:∀ {n m:Nat} {A:Around} {v u:V} {d e:Dt} {rv ru:Value},Rp H F n v d->Rp H G m u e->(DM d||Dv d)=false->(DM e||Dv e)=false->RelV v rv->RelV u ru->SeqAt.EqAt A s rv ru (eqD d e):=by
    intro n m A v u d e rv ru r r2 n1 n2 rr rr2;cases r with
    | non=>
      cases rr;cases r2 with
      | non=>
        cases rr2;simp only [eqD];exact (show SeqAt.EqAt A s Value.none Value.none true from SeqAt.EqAt.same _)
      | bl x2=>
        cases rr2;simp only [eqD];exact SeqAt.EqAt.none_bool _
      | int x2=>
        obtain ⟨t2,rfl⟩:=rr2;simp only [eqD];exact SeqAt.EqAt.none_int _ _
      | str x2=>
        obtain ⟨t2,rfl⟩:=rr2;simp only [eqD];exact SeqAt.EqAt.none_str _ _
      | lst _ _ _ _ _=>cases n2
      | tup _ _ _ _=>cases n2
    | bl x1=>
      cases rr;cases r2 with
      | non=>
        cases rr2;simp only [eqD];exact SeqAt.EqAt.bool_none _
      | bl x2=>
        cases rr2;simp only [eqD];exact SeqAt.EqAt.bool_bool _ _
      | int x2=>
        obtain ⟨t2,rfl⟩:=rr2;simp only [eqD];exact SeqAt.EqAt.bool_int _ _ _
      | str x2=>
        obtain ⟨t2,rfl⟩:=rr2;simp only [eqD];exact SeqAt.EqAt.bool_str _ _ _
      | lst _ _ _ _ _=>cases n2
      | tup _ _ _ _=>cases n2
    | int x1=>
      obtain ⟨t1,rfl⟩:=rr;cases r2 with
      | non=>
        cases rr2;simp only [eqD];exact SeqAt.EqAt.int_none _ _
      | bl x2=>
        cases rr2;simp only [eqD];exact SeqAt.EqAt.int_bool _ _ _
      | int x2=>
        obtain ⟨t2,rfl⟩:=rr2;simp only [eqD];exact SeqAt.EqAt.int_int _ _ _ _
      | str x2=>
        obtain ⟨t2,rfl⟩:=rr2;simp only [eqD];exact SeqAt.EqAt.int_str _ _ _ _
      | lst _ _ _ _ _=>cases n2
      | tup _ _ _ _=>cases n2
    | str x1=>
      obtain ⟨t1,rfl⟩:=rr;cases r2 with
      | non=>
        cases rr2;simp only [eqD];exact SeqAt.EqAt.str_none _ _
      | bl x2=>
        cases rr2;simp only [eqD];exact SeqAt.EqAt.str_bool _ _ _
      | int x2=>
        obtain ⟨t2,rfl⟩:=rr2;simp only [eqD];exact SeqAt.EqAt.str_int _ _ _ _
      | str x2=>
        obtain ⟨t2,rfl⟩:=rr2;simp only [eqD];exact SeqAt.EqAt.str_str _ _ _ _
      | lst _ _ _ _ _=>cases n2
      | tup _ _ _ _=>cases n2
    | lst _ _ _ _ _=>cases n1
    | tup _ _ _ _=>cases n1
  induction n with
  | zero=>
    intro A v u d e rv ru r r2 rr rr2 hu;exact sc r r2 (by cases r <;> rfl) (by cases r2 <;> rfl) rr rr2
  | succ n ih=>
    intro A v u d e rv ru r r2 rr rr2 hu;have hu':A.units<cLine:=by omega
    cases h1:(DM d||Dv d) with
    | false=>
      cases h2:(DM e||Dv e) with
      | false=>exact sc r r2 h1 h2 rr rr2
      | true=>
        cases r2 with
        | @lst _ b ys es q2 f2 b2 l2 el2=>
          obtain rfl:ru=Value.ref b:=rr2;obtain ⟨its2,rv2,pl2,_⟩:=I.list (SqL.of q2);cases r with
          | non=>cases rr;simp only [eqD];exact SeqAt.EqAt.none_list pl2.isList hu'
          | bl x1=>cases rr;simp only [eqD];exact SeqAt.EqAt.bool_list _ pl2.isList hu'
          | int x1=>obtain ⟨t,rfl⟩:=rr;simp only [eqD];exact SeqAt.EqAt.int_list _ _ pl2.isList hu'
          | str x1=>obtain ⟨t,rfl⟩:=rr;simp only [eqD];exact SeqAt.EqAt.str_list _ _ pl2.isList hu'
          | lst _ _ _ _ _=>cases h1
          | tup _ _ _ _=>cases h1
        | @tup _ b ys es q2 b2 l2 el2=>
          obtain rfl:ru=Value.ref b:=rr2;obtain ⟨its2,rv2,pl2,_⟩:=I.tuple (SqT.of q2);have pl2:s.heap.IsTuple b its2.toArray:=pl2;cases r with
          | non=>cases rr;simp only [eqD];exact SeqAt.EqAt.none_tuple pl2 hu'
          | bl x1=>cases rr;simp only [eqD];exact SeqAt.EqAt.bool_tuple _ pl2 hu'
          | int x1=>obtain ⟨t,rfl⟩:=rr;simp only [eqD];exact SeqAt.EqAt.int_tuple _ _ pl2 hu'
          | str x1=>obtain ⟨t,rfl⟩:=rr;simp only [eqD];exact SeqAt.EqAt.str_tuple _ _ pl2 hu'
          | lst _ _ _ _ _=>cases h1
          | tup _ _ _ _=>cases h1
        | _=>cases h2
    | true=>
      cases r with
      | @lst _ a xs ds q1 f1 b1 l1 el1=>
        obtain rfl:rv=Value.ref a:=rr;obtain ⟨its,rv1,pl,_⟩:=I.list (SqL.of q1);have k1:=rv1.length;cases r2 with
        | @lst _ b ys es q2 f2 b2 l2 el2=>
          obtain rfl:ru=Value.ref b:=rr2;obtain ⟨its2,rv2,pl2,_⟩:=I.list (SqL.of q2);have k2:=rv2.length;by_cases hab:a=b
          · subst hab;have e:=(Rp.lst (n:=n) q1 f1 b1 l1 el1).inj (Rp.lst (n:=n) q2 f2 b2 l2 el2);rw [e,CN];exact SeqAt.EqAt.same _
          · refine SeqAt.EqAt.of_refs hab ?_;simp only [eqD];by_cases hl:ds.length=es.length
            · rw [Bc hl];have q:=SeqAt.RcAt.lists (A:=A) (e:=λ i=>eqD (ds.getD i .non) (es.getD i .non)) pl.isList pl2.isList (by simp;omega) hu' (Cd rv1 rv2 l1 l2 el1 el2 λ r r2 rr rr2=>ih r r2 rr rr2 (by rw [A5];omega));rw [show its.toArray.size=ds.length by simp;omega] at q;exact q
            · rw [A6 hl];exact SeqAt.RcAt.lists_lengths pl.isList pl2.isList (by simp;omega) hu'
        | @tup _ b ys es q2 b2 l2 el2=>
          obtain rfl:ru=Value.ref b:=rr2;obtain ⟨its2,rv2,pl2,_⟩:=I.tuple (SqT.of q2);simp only [eqD];exact SeqAt.EqAt.list_tuple pl.isList (show s.heap.IsTuple b its2.toArray from pl2) hu'
        | non=>cases rr2;simp only [eqD];exact SeqAt.EqAt.list_none pl.isList hu'
        | bl x1=>cases rr2;simp only [eqD];exact SeqAt.EqAt.list_bool _ pl.isList hu'
        | int x1=>obtain ⟨t,rfl⟩:=rr2;simp only [eqD];exact SeqAt.EqAt.list_int _ _ pl.isList hu'
        | str x1=>obtain ⟨t,rfl⟩:=rr2;simp only [eqD];exact SeqAt.EqAt.list_str _ _ pl.isList hu'
      | @tup _ a xs ds q1 b1 l1 el1=>
        obtain rfl:rv=Value.ref a:=rr;obtain ⟨its,rv1,pl,_⟩:=I.tuple (SqT.of q1);have pl:s.heap.IsTuple a its.toArray:=pl;have k1:=rv1.length;cases r2 with
        | @tup _ b ys es q2 b2 l2 el2=>
          obtain rfl:ru=Value.ref b:=rr2;obtain ⟨its2,rv2,pl2,_⟩:=I.tuple (SqT.of q2);have pl2:s.heap.IsTuple b its2.toArray:=pl2;have k2:=rv2.length;by_cases hab:a=b
          · subst hab;have e:=(Rp.tup (n:=n) (F:=F) q1 b1 l1 el1).inj (Rp.tup (n:=n) (F:=G) q2 b2 l2 el2);rw [e,CN];exact SeqAt.EqAt.same _
          · refine SeqAt.EqAt.of_refs hab ?_;simp only [eqD];have q:=SeqAt.RcAt.tuples (A:=A) (e:=λ i=>eqD (ds.getD i .non) (es.getD i .non)) pl pl2 hu' (Cd rv1 rv2 l1 l2 el1 el2 λ r r2 rr rr2=>ih r r2 rr rr2 (by rw [A5];omega));have e1:its.toArray.size=ds.length:=by simp;omega
            have e2:its2.toArray.size=es.length:=by simp;omega
            rw [e1,e2] at q;by_cases hl:ds.length=es.length
            · rw [Bc hl];rw [<-hl,Nat.min_self,beq_self_eq_true,Bool.and_true] at q;exact q
            · rw [A6 hl];rw [beq_eq_false_iff_ne.mpr hl,Bool.and_false] at q;exact q
        | @lst _ b ys es q2 f2 b2 l2 el2=>
          obtain rfl:ru=Value.ref b:=rr2;obtain ⟨its2,rv2,pl2,_⟩:=I.list (SqL.of q2);simp only [eqD];exact SeqAt.EqAt.tuple_list pl pl2.isList hu'
        | non=>cases rr2;simp only [eqD];exact SeqAt.EqAt.tuple_none pl hu'
        | bl x1=>cases rr2;simp only [eqD];exact SeqAt.EqAt.tuple_bool _ pl hu'
        | int x1=>obtain ⟨t,rfl⟩:=rr2;simp only [eqD];exact SeqAt.EqAt.tuple_int _ _ pl hu'
        | str x1=>obtain ⟨t,rfl⟩:=rr2;simp only [eqD];exact SeqAt.EqAt.tuple_str _ _ pl hu'
      | _=>cases h1
def LS (neg:Bool):R2:=λ x y H Q=>∃ (n:Nat) (d e:Dt),n<=30/\Rp H FT n x d/\Rp H FT n y e/\(DM d&&DM e||Dv d&&Dv e)=true/\Q (.bl (if neg then !eqD d e else eqD d e)) H
theorem NF (hu:X.A.units+64<cLine):OpR X (compareOp .Eq) (LS false):=by
  intro pins s σ H x y v u Q I rx ry h;obtain ⟨n,d,e,hn,r,r2,hs,q⟩:=h;cases r with
  | @lst m a xs ds q1 f1 b1 l1 el1=>
    cases r2 with
    | @lst _ b ys es q2 f2 b2 l2 el2=>
      obtain rfl:v=Value.ref a:=rx;obtain rfl:u=Value.ref b:=ry;obtain ⟨its,rv1,pl,_⟩:=I.list (SqL.of q1);obtain ⟨its2,rv2,pl2,_⟩:=I.list (SqL.of q2);have k1:=rv1.length;have k2:=rv2.length;have q:Q (.bl (B2 ds es)) H:=by
        have q:=q;unfold eqD at q;exact q
      by_cases hl:ds.length=es.length
      · refine SeqAt.eq_listAt (e:=λ i=>eqD (ds.getD i .non) (es.getD i .non)) pl.isList pl2.isList (by simp;omega) (by omega) (Cd rv1 rv2 l1 l2 el1 el2 λ r r2 rr rr2=>Fe I r r2 rr rr2 (by rw [A5];omega)) ⟨.bl _,H,I,rfl,?_⟩;rw [show its.toArray.size=ds.length by simp;omega, <-Bc hl];exact q
      · refine SeqAt.eq_list_lengthsAt pl.isList pl2.isList (by simp;omega) (by omega) ⟨.bl _,H,I,rfl,?_⟩;rw [<-A6 hl];exact q
    | _=>cases hs
  | @tup m a xs ds q1 b1 l1 el1=>
    cases r2 with
    | @tup _ b ys es q2 b2 l2 el2=>
      obtain rfl:v=Value.ref a:=rx;obtain rfl:u=Value.ref b:=ry;obtain ⟨its,rv1,pl,_⟩:=I.tuple (SqT.of q1);obtain ⟨its2,rv2,pl2,_⟩:=I.tuple (SqT.of q2);have k1:=rv1.length;have k2:=rv2.length;have q:Q (.bl (B2 ds es)) H:=by
        have q:=q;unfold eqD at q;exact q
      refine SeqAt.eq_tupleAt (e:=λ i=>eqD (ds.getD i .non) (es.getD i .non)) (show s.heap.IsTuple a its.toArray from pl) (show s.heap.IsTuple b its2.toArray from pl2) (by omega) (Cd rv1 rv2 l1 l2 el1 el2 λ r r2 rr rr2=>Fe I r r2 rr rr2 (by rw [A5];omega)) ⟨.bl _,H,I,rfl,?_⟩;have e1:its.toArray.size=ds.length:=by simp;omega
      have e2:its2.toArray.size=es.length:=by simp;omega
      rw [e1,e2];by_cases hl:ds.length=es.length
      · rw [<-hl,Nat.min_self,beq_self_eq_true,Bool.and_true, <-Bc hl];exact q
      · rw [beq_eq_false_iff_ne.mpr hl,Bool.and_false, <-A6 hl];exact q
    | _=>cases hs
  | _=>cases hs
theorem KC (hu:X.A.units+64<cLine):OpR X (compareOp .NotEq) (LS true):=by
  intro pins s σ H x y v u Q I rx ry h;obtain ⟨n,d,e,hn,r,r2,hs,q⟩:=h;cases r with
  | @lst m a xs ds q1 f1 b1 l1 el1=>
    cases r2 with
    | @lst _ b ys es q2 f2 b2 l2 el2=>
      obtain rfl:v=Value.ref a:=rx;obtain rfl:u=Value.ref b:=ry;obtain ⟨its,rv1,pl,_⟩:=I.list (SqL.of q1);obtain ⟨its2,rv2,pl2,_⟩:=I.list (SqL.of q2);have k1:=rv1.length;have k2:=rv2.length;have q:Q (.bl (!B2 ds es)) H:=by
        have q:=q;unfold eqD at q;exact q
      by_cases hl:ds.length=es.length
      · refine SeqAt.RcNeAt.lists (e:=λ i=>eqD (ds.getD i .non) (es.getD i .non)) pl.isList pl2.isList (by simp;omega) (by omega) (Cd rv1 rv2 l1 l2 el1 el2 λ r r2 rr rr2=>Fe I r r2 rr rr2 (by rw [A5];omega)) _ _ _ _ ⟨.bl _,H,I,rfl,?_⟩;rw [show its.toArray.size=ds.length by simp;omega, <-Bc hl];exact q
      · refine SeqAt.RcNeAt.lists_lengths pl.isList pl2.isList (by simp;omega) (by omega) _ _ _ _ ⟨.bl _,H,I,rfl,?_⟩;rw [A6 hl] at q;exact q
    | _=>cases hs
  | @tup m a xs ds q1 b1 l1 el1=>
    cases r2 with
    | @tup _ b ys es q2 b2 l2 el2=>
      obtain rfl:v=Value.ref a:=rx;obtain rfl:u=Value.ref b:=ry;obtain ⟨its,rv1,pl,_⟩:=I.tuple (SqT.of q1);obtain ⟨its2,rv2,pl2,_⟩:=I.tuple (SqT.of q2);have k1:=rv1.length;have k2:=rv2.length;have q:Q (.bl (!B2 ds es)) H:=by
        have q:=q;unfold eqD at q;exact q
      refine SeqAt.RcNeAt.tuples (e:=λ i=>eqD (ds.getD i .non) (es.getD i .non)) (show s.heap.IsTuple a its.toArray from pl) (show s.heap.IsTuple b its2.toArray from pl2) (by omega) (Cd rv1 rv2 l1 l2 el1 el2 λ r r2 rr rr2=>Fe I r r2 rr rr2 (by rw [A5];omega)) _ _ _ _ ⟨.bl _,H,I,rfl,?_⟩;have e1:its.toArray.size=ds.length:=by simp;omega
      have e2:its2.toArray.size=es.length:=by simp;omega
      rw [e1,e2];by_cases hl:ds.length=es.length
      · rw [<-hl,Nat.min_self,beq_self_eq_true,Bool.and_true, <-Bc hl];exact q
      · rw [beq_eq_false_iff_ne.mpr hl,Bool.and_false, <-A6 hl];exact q
    | _=>cases hs
  | _=>cases hs
end
end L2
namespace L2
open PySem PySem.Spec PyProof.Rows
abbrev dN (n:Nat):Dt:= .int (n:Nat)
def dL (ns:List Nat):Dt:= .lst (ns.map dN)
def dT (ns:List Nat):Dt:= .tup (ns.map dN)
section
variable {H:Hp} {F:Addr->Prop} {n:Nat} {v:V}
theorem K6 {α:Type} {f:α->V} {g:α->Dt} {as:List α} (k:∀ a∈as,Rp H F n (f a) (g a)):∀ (i:Nat) (v:V) (d:Dt),(as.map f)[i]?=some v->(as.map g)[i]?=some d->Rp H F n v d:=by
  intro i v d h1 h2;rw [List.getElem?_map] at h1 h2;cases e:as[i]? with
  | none=>rw [e] at h1;cases h1
  | some a=>
    rw [e] at h1 h2;cases h1;cases h2;exact k a (List.mem_of_getElem? e)
theorem NL {a:Addr} {ns:List Nat} (h:H a=some (.lst (ns.map nV))) (f:F a) (b:ns.length<=100000):Rp H F (n+1) (.ref a) (dL ns):= .lst h f (by simpa using b) (by simp) (K6 λ k _=> .int _)
theorem Ec {α:Type} {as:List α} {i:Nat} {y:α} (h:i<as.length):as.getD i y∈as:=by
  rw [List.getD_eq_getElem?_getD,List.getElem?_eq_getElem h];exact List.getElem_mem h
end
def But (x:Addr) (H H':Hp):Prop:=∀ b o,H b=some o->b≠x->H' b=some o
theorem But.of {x:Addr} {H H1:Hp} (s:Same H H1):But x H H1:=λ a o e _=>s _ _ e
section
variable {H:Hp} {a:Addr} {kvs:List (Key × V)}
end
theorem HM {xs:List V} {k:Int} (h:0<=k):Ek xs (some k) none=xs.drop k.toNat:=by
  unfold Ek;have e2:HT.sIx xs.length xs.length none=xs.length:=rfl;rw [e2];have e1:HT.sIx xs.length 0 (some k)=min k.toNat xs.length:=by
    unfold HT.sIx;simp only;split <;> omega
  rw [e1];by_cases q:k.toNat<=xs.length
  · rw [Nat.min_eq_left q,List.take_of_length_le (by simp)]
  · rw [Nat.min_eq_right (by omega),List.drop_of_length_le (Nat.le_refl _),List.drop_of_length_le (by omega)];simp
theorem KN {xs:List V} {k:Int} (h:0<=k):Ek xs none (some k)=xs.take k.toNat:=by
  unfold Ek;have e2:HT.sIx xs.length 0 none=0:=rfl;rw [e2,List.drop_zero];have e1:HT.sIx xs.length xs.length (some k)=min k.toNat xs.length:=by
    unfold HT.sIx;simp only;split <;> omega
  rw [e1,Nat.sub_zero];by_cases q:k.toNat<=xs.length
  · rw [Nat.min_eq_left q]
  · rw [Nat.min_eq_right (by omega),List.take_of_length_le (Nat.le_refl _),List.take_of_length_le (by omega)]
section
variable {K:PySem.W.Frag} {wi:TI} {own:List Str} {fr:List (Str × Nat)} {g:TG} {tc:TT} {te tl:TE} {tb:TS} {D:Ends} {σ:St} {H:Hp} {Q:VK} {R:It->Hp->Prop} {ta:TA}
theorem JI (h:wi σ H λ J H1=>∀ D,H1 D=none->Ds J (CV own fr σ) g tc te Q H1 D):GG wi own fr g tc te σ H Q:=h
theorem LA (h:wi σ H λ J H1=>∃ W:Nat->Nat->St->Hp->Prop,(∃ m,W 0 m σ H1)/\∀ i m σ H,W i m σ H->
  (J.stop i H/\D.nx σ H)\/(J.go i H/\∃ N:St->Hp->Prop,(∀ σ' H',N σ' H'->∃ m',m'<m/\W (i+1) m' σ' H')/\∀ x H',J.yld i H x H'->g x σ H' λ σ2 H2=>tb { D with nx:=N,ct:=N,bk:=D.nx } σ2 H2)):LK wi g tb D σ H:=h
theorem Mh (h:tl σ H λ x H1=>∃ a,x= .ref a/\(∃ xs,SqL K H1 a xs)/\R (Itl K a) H1):ID K tl σ H R:=h
theorem LJ (h:tl σ H λ x H1=>∃ a,x= .ref a/\(∃ xs,SqT K H1 a xs)/\R (Itt K a) H1):KZ K tl σ H R:=h
theorem L5 (h:tl σ H λ x H1=>∃ tp a,x= .ref a/\(∃ xs,SqS tp K H1 a xs)/\R (Isq tp K a) H1):iSq K tl σ H R:=h
theorem LE (h:ta σ H λ vs H1=>∃ a,vs=[.ref a]/\(∃ xs,SqL K H1 a xs)/\R (Ite K a) H1):J7 K ta σ H R:=h
theorem LQ (h:ta σ H λ vs H1=>∃ tp a,vs=[.ref a]/\(∃ xs,SqS tp K H1 a xs)/\R (HF tp K a) H1):HE K ta σ H R:=h
theorem L9 (h:ta σ H λ vs H1=>∃ i j:Int,vs=[.int i, .int j]/\(-(2 ^ 62)<=i/\i<2 ^ 62/\ -(2 ^ 62)<=j/\j<2 ^ 62)/\R (Itr i (j - i).toNat) H1):Kn ta σ H R:=h
end
theorem Oe {H:Hp} {F:Addr->Prop} {n:Nat} {a:Addr} {x y:V} {d e:Dt} (h:H a=some (.lst [x,y])) (f:F a) (r1:Rp H F n x d) (r2:Rp H F n y e):Rp H F (n+1) (.ref a) (.lst [d,e]):=by
  refine .lst h f (by simp) rfl λ i v u h1 h2=> ?_
  match i with
  | 0=>cases h1;cases h2;exact r1
  | 1=>cases h1;cases h2;exact r2
  | i+2=>cases h1
theorem JD {H:Hp} {F:Addr->Prop} {n:Nat} {a:Addr} {x y:V} {d e:Dt} (h:H a=some (.tup [x,y])) (r1:Rp H F n x d) (r2:Rp H F n y e):Rp H F (n+1) (.ref a) (.tup [d,e]):=by
  refine .tup h (by simp) rfl λ i v u h1 h2=> ?_
  match i with
  | 0=>cases h1;cases h2;exact r1
  | 1=>cases h1;cases h2;exact r2
  | i+2=>cases h1
theorem Mb {A B:Prop} (h:B):if (!true)=true then A else B:=by simpa using h
theorem LN {A B:Prop} (h:A):if (!false)=true then A else B:=by simpa using h
theorem Em {vs:List V} {k:Int} {j:Nat} (e:k=j) (h:j<vs.length):atI vs k=some (vs.getD j .non):=by
  subst e;refine A3 ?_;rw [List.getD_eq_getElem?_getD,List.getElem?_eq_getElem h];rfl
end L2
namespace L2
end L2
namespace L2
open PySem PySem.Spec PyProof.Rows
theorem Mj {f:Nat->Bool} {w:Nat} (h:f w=true):MM.ofB f (w+1)=MM.ofB f w+2 ^ w:=by
  show MM.ofB f w+(f w).toNat*2 ^ w=_;rw [h,Bool.toNat_true,Nat.one_mul]
theorem Mc {f:Nat->Bool} {w:Nat} (h:f w=false):MM.ofB f (w+1)=MM.ofB f w:=by
  show MM.ofB f w+(f w).toNat*2 ^ w=_;rw [h,Bool.toNat_false,Nat.zero_mul,Nat.add_zero]
def LR (i j:Int):Prop:=0<j/\j<2 ^ 200
theorem G6 {j:Int} (h0:0<j) (h:j<2 ^ 200):j.natAbs.log2<9000:=by
  have h1:j.natAbs<2 ^ 200:=by omega
  have:=(Nat.log2_lt (show j.natAbs≠0 by omega)).mpr h1;omega
theorem Ba {X:Cx}:OpR X (binaryOp .FloorDiv) (rI LR λ i j=> .int (i / j)):=opI λ i j _ _ _ _ _ hc q=>by
  rw [<-Int.fdiv_eq_ediv_of_nonneg i (by have:=hc.1;omega)] at q;exact floordiv_int (by have:=hc.1;omega) q (.inl (PyProof.noPylong_of_log2 (G6 hc.1 hc.2)))
section
variable {prog:Program} {w:World} {A:Around} {E:Value->Shared->Prop} {s:Shared} {T:String} {r d:Addr} {n:Nat} {P:Nat->Value->Prop} {St:Nat->Heap->Prop}
end
section
variable {prog:Program} {w:World} {A:Around} {E:Value->Shared->Prop} {s:Shared}
end
section
variable {X:Cx} {K:PySem.W.Frag} {e o:Expr} {ta:TA} {to:TE} {p p2 pos pos2 apos cpos:Pos}
end
section
variable {X:Cx} {K:PySem.W.Frag} {e o:Expr} {es:List Expr} {ta to:TE} {t:TA} {f name:Str} {pos apos cpos:Pos} {T id:String} {r:V->List V->Hp->VK->Prop}
theorem Dp (he:PE X e ta) (hb:attributeBase e f X.env (eval e X.env)=eval e X.env) (hK:X.K=K:=by rfl):PE X (.Attribute e f pos) (KR K ta f):=by
  subst hK;exact K5 he hb
theorem F6 (pa:PlainAttrs T) (slot:Slot T name id) (hty:typeOf (.builtin id)=pure (.type "method_descriptor")) (hm:MtR X id r) (ho:PE X o to) (hK:X.K=K:=by rfl)
    (hbase:attributeBase o name X.env (eval o X.env)=eval o X.env:=by rfl) (hline:(apos.endLine == cpos.line)=true:=by rfl):PE X (.Call (.Attribute o name apos) [] [] cpos) (KU K T r to):=by
  subst hK;exact K2 pa slot hty hm ho hbase hline
theorem J2 (pa:PlainAttrs T) (slot:Slot T name id) (hty:typeOf (.builtin id)=pure (.type "method_descriptor")) (hm:MtR X id r) (ho:PE X o to) (ha:PA X (e::es) t) (hK:X.K=K:=by rfl)
    (hbase:attributeBase o name X.env (eval o X.env)=eval o X.env:=by rfl)
    (hfew:((backTo cpos (starEach (e::es) X.env)).all (λ x=> !x.1)&&(backToKw cpos (keywordEach [] X.env)).all (λ x=>x.1.isSome)
      && decide ((e::es).length+([]:List Keyword).length+(if ([]:List Keyword).isEmpty then 0 else 1)<30))=true:=by rfl)
    (hline:(apos.endLine == cpos.line)=true:=by rfl) (hs:starEach (e::es) X.env=(false,eval e X.env)::starEach es X.env:=by rfl) (hplain:(backTo cpos (starEach es X.env)).any (·.1)=false:=by rfl):
    PE X (.Call (.Attribute o name apos) (e::es) [] cpos) (tBM K T r to t):=by
  subst hK;exact LL pa slot hty hm ho ha hbase hfew hline hs hplain
end
section
variable {prog:Program} {w:World} {A:Around} {E:Value->Shared->Prop} {s:Shared}
end
section
variable {X:Cx} {K:PySem.W.Frag} {e o:Expr} {ta:TA} {to:TE} {p p2 pos pos2 apos cpos:Pos}
end
section
variable {X:Cx} {k:Nat} {e o:Expr} {es:List Expr} {t:TA} {to:TE} {pos:Pos} {S:Addr->Sp->Prop}
end
theorem arg1 {α:Type} {P:List α->Prop} (h:∀ a0,P [a0]):∀ us:List α,us.length=1->P us:=λ us hl=>match us,hl with | [a0],_=>h a0
theorem arg2 {α:Type} {P:List α->Prop} (h:∀ a0 a1,P [a0,a1]):∀ us:List α,us.length=2->P us:=λ us hl=>match us,hl with | [a0,a1],_=>h a0 a1
theorem arg3 {α:Type} {P:List α->Prop} (h:∀ a0 a1 a2,P [a0,a1,a2]):∀ us:List α,us.length=3->P us:=λ us hl=>match us,hl with | [a0,a1,a2],_=>h a0 a1 a2
theorem arg4 {α:Type} {P:List α->Prop} (h:∀ a0 a1 a2 a3,P [a0,a1,a2,a3]):∀ us:List α,us.length=4->P us:=λ us hl=>match us,hl with | [a0,a1,a2,a3],_=>h a0 a1 a2 a3
theorem arg5 {α:Type} {P:List α->Prop} (h:∀ a0 a1 a2 a3 a4,P [a0,a1,a2,a3,a4]):∀ us:List α,us.length=5->P us:=λ us hl=>match us,hl with | [a0,a1,a2,a3,a4],_=>h a0 a1 a2 a3 a4
theorem arg6 {α:Type} {P:List α->Prop} (h:∀ a0 a1 a2 a3 a4 a5,P [a0,a1,a2,a3,a4,a5]):∀ us:List α,us.length=6->P us:=λ us hl=>match us,hl with | [a0,a1,a2,a3,a4,a5],_=>h a0 a1 a2 a3 a4 a5
theorem arg7 {α:Type} {P:List α->Prop} (h:∀ a0 a1 a2 a3 a4 a5 a6,P [a0,a1,a2,a3,a4,a5,a6]):∀ us:List α,us.length=7->P us:=λ us hl=>match us,hl with | [a0,a1,a2,a3,a4,a5,a6],_=>h a0 a1 a2 a3 a4 a5 a6
theorem arg8 {α:Type} {P:List α->Prop} (h:∀ a0 a1 a2 a3 a4 a5 a6 a7,P [a0,a1,a2,a3,a4,a5,a6,a7]):∀ us:List α,us.length=8->P us:=λ us hl=>match us,hl with | [a0,a1,a2,a3,a4,a5,a6,a7],_=>h a0 a1 a2 a3 a4 a5 a6 a7
theorem arg9 {α:Type} {P:List α->Prop} (h:∀ a0 a1 a2 a3 a4 a5 a6 a7 a8,P [a0,a1,a2,a3,a4,a5,a6,a7,a8]):∀ us:List α,us.length=9->P us:=λ us hl=>match us,hl with | [a0,a1,a2,a3,a4,a5,a6,a7,a8],_=>h a0 a1 a2 a3 a4 a5 a6 a7 a8
structure BlkScopeC (X:Cx) (scope:Scope) (cx:Str) (own:List Str) (fr:List (Str × Nat)):Prop where
  kind:scope.kind= .function
  onec:∀ y∈scope.names,y.2= .cell->y.1=cx
  isc:scope.names.lookup cx=some .cell
  lay:∀ n cl,cellsFrom n scope.names cl=(cx,n)::cl
  push:∀ h:Heap,pushCells h scope.names=h.push { cls:= .type "cell",data:= .cell none }
  loc:∀ y∈scope.names,y.2= .local->scope.names.lookup y.1=some .local
  free:∀ y∈scope.names,y.2= .free->(X.env.scope.names.lookup y.1=some .cell\/X.env.scope.names.lookup y.1=some .free)
  fr:∀ p∈fr,X.N[p.2]?=some p.1/\(p.1,NameKind.free)∈scope.names
  only:∀ x,(x,NameKind.free)∈scope.names->scope.names.lookup x=some .free
section
variable {X:Cx} {pins:List (Addr × Obj)} {σ:St} {H:Hp} {s:Shared} {scope:Scope} {cx:Str} {own:List Str} {fr:List (Str × Nat)} {fp:List Addr}
end
section
variable {X:Cx}
end
def Ja (sc:Scope) (N:List Str) (scope:Scope) (cx:Str) (own:List Str) (fr:List (Str × Nat)):Bool:=
  decide (scope.kind= .function)&&
  (scope.names.all λ y=>(decide (y.2≠ .cell)||decide (y.1=cx))&&(decide (y.2≠ .local)||decide (scope.names.lookup y.1=some .local))&&
    (decide (y.2≠ .free)||((decide (sc.names.lookup y.1=some .cell)||decide (sc.names.lookup y.1=some .free))&&decide (scope.names.lookup y.1=some .free))))&&
  (fr.all λ p=>decide (N[p.2]?=some p.1)&&decide ((p.1,NameKind.free)∈scope.names))&&
  decide (scope.names.lookup cx=some .cell)&&decide ((own++fr.map (·.1)).Nodup)
section
variable {X:Cx} {scope:Scope} {cx:Str} {own:List Str} {fr:List (Str × Nat)}
theorem BlkScopeC.of (h:Ja X.env.scope X.N scope cx own fr=true) (lay:∀ n cl,cellsFrom n scope.names cl=(cx,n)::cl) (push:∀ h:Heap,pushCells h scope.names=h.push { cls:= .type "cell",data:= .cell none }):BlkScopeC X scope cx own fr:=by
  unfold Ja at h;simp only [Bool.and_eq_true,List.all_eq_true,decide_eq_true_iff,Bool.or_eq_true] at h;obtain ⟨⟨⟨⟨h1,h2⟩,h3⟩,h4⟩,h5⟩:=h;exact ⟨h1,λ y hy e=>(h2 y hy).1.1.resolve_left (λ z=>z e),h4,lay,push,λ y hy e=>(h2 y hy).1.2.resolve_left (λ z=>z e),λ y hy e=>((h2 y hy).2.resolve_left (λ z=>z e)).1,λ p hp=>h3 p hp,λ x hx=>((h2 _ hx).2.resolve_left (λ z=>z rfl)).2⟩
end
section
variable {X:Cx} {K:PySem.W.Frag} {scope:Scope} {fr:List (Str × Nat)}
end
section
variable {X:Cx} {e o:Expr} {es:List Expr} {t:TA} {to:TE} {pos:Pos} {S:Addr->Sp->Prop}
end
section
variable {X:Cx} {K:PySem.W.Frag}
end
theorem GI {xs:List V} {k l:Int} (h:0<=k) (h2:k<=l):Ek xs (some k) (some l)=(xs.take l.toNat).drop k.toNat:=by
  unfold Ek;have e1:HT.sIx xs.length 0 (some k)=min k.toNat xs.length:=by
    unfold HT.sIx;simp only;split <;> omega
  have e2:HT.sIx xs.length xs.length (some l)=min l.toNat xs.length:=by
    unfold HT.sIx;simp only;split <;> omega
  rw [e1,e2];by_cases q:k.toNat<=xs.length
  · rw [Nat.min_eq_left q];by_cases q2:l.toNat<=xs.length
    · rw [Nat.min_eq_left q2,List.drop_take]
    · rw [Nat.min_eq_right (by omega),List.take_of_length_le (l:=xs) (by omega),List.take_of_length_le (by simp)]
  · rw [List.drop_of_length_le (by omega),List.drop_of_length_le (by simp;omega)];simp
end L2
namespace HT
open PySem PySem.Spec PyProof.Rows
variable {prog:Program} {w:World} {A:Around} {E:Value->Shared->Prop} {s:Shared}
end HT
namespace L2
open PySem PySem.Spec PyProof.Rows
def f2 (o:Obj):Option Value:=match o.data with
  | .fields vs=>vs[2]?
  | _=>none
def DK {α:Type}:Sem α->Prop
  | .rule _ k=>DK (k ())
  | .at _ k=>DK (k ())
  | .load _ _ k=>∀ o,DK (k o)
  | .update _ _ f k=>(∀ o,(f o).dict=o.dict/\f2 (f o)=f2 o)/\DK (k ())
  | .loadIfAlive _ k=>∀ o,DK (k o)
  | .point _ k=>DK (k ())
  | .alloc _ k=>∀ a,DK (k a)
  | .fresh k=>∀ t,DK (k t)
  | .ask k=>∀ t,DK (k t)
  | .choose _ _ k=>∀ t,DK (k t)
  | .os _ _ k=>∀ t,DK (k t)
  | .call .. => False
  | .handled _ k=>∀ t,DK (k t)
  | .genState _ k=>∀ t,DK (k t)
  | .newGen _ k=>∀ t,DK (k t)
  | .resume .. => False
  | .stack k=>∀ t,DK (k t)
  | .thread k=>∀ t,DK (k t)
  | _=>True
def KD (h h':Heap):Prop:=∀ (b:Nat) (o:Obj),h.objs[b]?=some o->∃ o',h'.objs[b]?=some o'/\o'.dict=o.dict/\f2 o'=f2 o
theorem KD.refl (h:Heap):KD h h:=λ b o e=>⟨o,e,rfl,rfl⟩
theorem KD.trans {h h1 h2:Heap} (a:KD h h1) (b:KD h1 h2):KD h h2:=λ c o e=>by
  obtain ⟨o1,e1,d1,c1⟩:=a c o e;obtain ⟨o2,e2,d2,c2⟩:=b c o1 e1;exact ⟨o2,e2,d2.trans d1,c2.trans c1⟩
theorem IW {h:Heap} {b:Addr} {o:Obj} (e:h.get? b=some o):h.objs[b]?=some o:=by
  unfold Heap.get? at e;split at e
  · cases e
  · exact e
theorem KD.at' {h h':Heap} (k:KD h h') {b:Addr} {o o':Obj} (e:h.get? b=some o) (e':h'.get? b=some o'):o'.dict=o.dict/\f2 o'=f2 o:=by
  obtain ⟨o1,e1,d1⟩:=k b o (IW e);rw [IW e'] at e1;cases e1;exact d1
theorem KD.push (h:Heap) (o:Obj):KD h (h.push o):=λ b u e=>by
  refine ⟨u,?_,rfl,rfl⟩;show (h.objs.push o)[b]?=some u;have hb:b<h.objs.size:=(Array.getElem?_eq_some_iff.mp e).1;rw [Array.getElem?_push_lt hb];rw [Array.getElem?_eq_getElem hb] at e;exact e
theorem KD.upd (h:Heap) (a:Addr) {f:Obj->Obj} (hf:∀ o,(f o).dict=o.dict/\f2 (f o)=f2 o):KD h (h.update a f):=λ b u e=>by
  have hb:b<h.objs.size:=(Array.getElem?_eq_some_iff.mp e).1;show ∃ o',(h.objs.modify a f)[b]?=some o'/\_;rw [Array.getElem?_modify,e];by_cases q:a=b
  · rw [if_pos q];exact ⟨f u,rfl,hf u⟩
  · rw [if_neg q];exact ⟨u,rfl,rfl,rfl⟩
theorem L6 {α:Type} {M:Model} {Γ:PySem.Ctx}:∀ (t:Sem α) (Q:α->Pos->Shared->Prop) (E:Value->Pos->Shared->Prop) (p:Pos) (s s0:Shared),DK t->KD s0.heap s.heap->Sem.wp M Γ t Q E p s->
    Sem.wp M Γ t (λ a p s'=>Q a p s'/\KD s0.heap s'.heap) (λ a p s'=>E a p s'/\KD s0.heap s'.heap) p s:=by
  intro t
  induction t with
  | pure a=>intro Q E p s s0 _ k h;rw [Sem.wp] at h ⊢;exact ⟨h,k⟩
  | raise e=>intro Q E p s s0 _ k h;rw [Sem.wp] at h ⊢;exact ⟨h,k⟩
  | unsupported w=>intro Q E p s s0 _ k h;rw [Sem.wp] at h;exact h.elim
  | finish e=>intro Q E p s s0 _ k h;rw [Sem.wp] at h;exact h.elim
  | rule t k ih=>intro Q E p s s0 d k h;rw [Sem.wp] at h ⊢;exact ih () Q E p s s0 d k h
  | «at» t k ih=>intro Q E p s s0 d k h;rw [Sem.wp] at h ⊢;exact ih () Q E _ s s0 d k h
  | load a part k ih=>
    intro Q E p s s0 d k h;rw [Sem.wp] at h ⊢;obtain ⟨o,e,h⟩:=h;exact ⟨o,e,ih o Q E p s s0 (d o) k h⟩
  | update a part f k ih=>
    intro Q E p s s0 d k h;rw [Sem.wp] at h ⊢;exact ⟨h.1,ih () Q E p _ s0 d.2 (k.trans (KD.upd s.heap a d.1)) h.2⟩
  | alloc o k ih=>intro Q E p s s0 d k h;rw [Sem.wp] at h ⊢;exact ih _ Q E p _ s0 (d _) (k.trans (KD.push _ _)) h
  | loadIfAlive a k ih=>intro Q E p s s0 d k h;rw [Sem.wp] at h ⊢;exact ih _ Q E p _ s0 (d _) k h
  | point l k ih=>intro Q E p s s0 d k h;rw [Sem.wp] at h ⊢;exact ih _ Q E p _ s0 d k h
  | register a k ih=>intro Q E p s s0 d k h;rw [Sem.wp] at h;exact h.elim
  | fresh k ih=>intro Q E p s s0 d k h;rw [Sem.wp] at h ⊢;exact ih _ Q E p _ s0 (d _) k h
  | ask k ih=>intro Q E p s s0 d k h;rw [Sem.wp] at h ⊢;exact ih _ Q E p _ s0 (d _) k h
  | choose a n k ih=>intro Q E p s s0 d k h;rw [Sem.wp] at h ⊢;exact ⟨h.1,ih _ Q E p _ s0 (d _) k h.2⟩
  | os a n k ih=>intro Q E p s s0 d k h;rw [Sem.wp] at h ⊢;exact ih _ Q E p _ s0 (d _) k h
  | call c a b l k ih=>intro Q E p s s0 d k h;exact d.elim
  | handled a k ih=>intro Q E p s s0 d k h;rw [Sem.wp] at h ⊢;exact ih _ Q E p _ s0 (d _) k h
  | newGen c k ih=>intro Q E p s s0 d k h;rw [Sem.wp] at h ⊢;exact ih _ Q E p _ s0 (d _) k h
  | genState g k ih=>
    intro Q E p s s0 d k h;rw [Sem.wp] at h ⊢;obtain ⟨st,e,h⟩:=h;exact ⟨st,e,ih _ Q E p s s0 (d _) k h⟩
  | resume g r l k ih=>intro Q E p s s0 d k h;exact d.elim
  | yield v g l k ih=>intro Q E p s s0 d k h;rw [Sem.wp] at h;exact h.elim
  | stack k ih=>intro Q E p s s0 d k h;rw [Sem.wp] at h ⊢;exact ih _ Q E p _ s0 (d _) k h
  | fork c k ih=>intro Q E p s s0 d k h;rw [Sem.wp] at h;exact h.elim
  | thread k ih=>intro Q E p s s0 d k h;rw [Sem.wp] at h ⊢;exact ih _ Q E p _ s0 (d _) k h
  | await a t b l k ih=>intro Q E p s s0 d k h;rw [Sem.wp] at h;exact h.elim
theorem BU {α:Type} {M:Model} {A:Around} {t:Sem α} {Q:α->Shared->Prop} {E:Value->Shared->Prop} {s:Shared} (d:DK t) (h:wpAny M A t Q E s):wpAny M A t (λ a s'=>Q a s'/\KD s.heap s'.heap) (λ e s'=>E e s'/\KD s.heap s'.heap) s:=
  λ Γ p hΓ=>L6 t _ _ p s s d (KD.refl _) (h Γ p hΓ)
theorem DK.bind {α β:Type} {f:α->Sem β}:∀ {t:Sem α},DK t->(∀ a,DK (f a))->DK (t >>= f):=by
  intro t;show _->_->DK (Sem.bind t f)
  induction t with
  | pure a=>intro _ h;exact h a
  | raise e=>intro _ _;trivial
  | unsupported w=>intro _ _;trivial
  | finish e=>intro _ _;trivial
  | rule t k ih=>intro d h;exact ih () d h
  | «at» t k ih=>intro d h;exact ih () d h
  | load a part k ih=>intro d h o;exact ih o (d o) h
  | update a part f k ih=>intro d h;exact ⟨d.1,ih () d.2 h⟩
  | alloc o k ih=>intro d h a;exact ih a (d a) h
  | loadIfAlive a k ih=>intro d h o;exact ih o (d o) h
  | point l k ih=>intro d h;exact ih () d h
  | register a k ih=>intro _ _;trivial
  | fresh k ih=>intro d h o;exact ih o (d o) h
  | ask k ih=>intro d h o;exact ih o (d o) h
  | choose a n k ih=>intro d h o;exact ih o (d o) h
  | os a n k ih=>intro d h o;exact ih o (d o) h
  | call c a b l k ih=>intro d h;exact d.elim
  | handled a k ih=>intro d h o;exact ih o (d o) h
  | newGen c k ih=>intro d h o;exact ih o (d o) h
  | genState g k ih=>intro d h o;exact ih o (d o) h
  | resume g r l k ih=>intro d h;exact d.elim
  | yield v g l k ih=>intro _ _;trivial
  | stack k ih=>intro d h o;exact ih o (d o) h
  | fork c k ih=>intro _ _;trivial
  | thread k ih=>intro d h o;exact ih o (d o) h
  | await a t b l k ih=>intro _ _;trivial
theorem Aw {α:Type} (a:α):DK (pure a:Sem α):=trivial
theorem Br {α:Type} (w:String):DK (unsupported w:Sem α):=trivial
theorem Fm (a:Addr):DK (load a):=λ _=>trivial
theorem FF (v:Value):DK (fieldsOf v):=by
  unfold fieldsOf;split
  · refine DK.bind (Fm _) λ o=> ?_;split
    · exact Aw _
    · exact Br _
  · exact Br _
theorem CU (v:Value) (i:Nat):DK (field v i):=by
  unfold field;refine DK.bind (FF v) λ vs=> ?_;split
  · exact Aw _
  · exact Br _
theorem Es (i:Nat) (x:Value) (hi:i≠2) (o:Obj):(Obj.mapFields (·.setIfInBounds i x) o).dict=o.dict/\f2 (Obj.mapFields (·.setIfInBounds i x) o)=f2 o:=by
  unfold Obj.mapFields;split
  · exact ⟨rfl,Array.getElem?_setIfInBounds_ne hi⟩
  · exact ⟨rfl,rfl⟩
theorem E5 (a:Addr) {f:Obj->Obj} (h:∀ o,(f o).dict=o.dict/\f2 (f o)=f2 o):DK (update a f):=⟨h,trivial⟩
theorem BY (v:Value) (i:Nat) (x:Value) (hi:i≠2:=by decide):DK (setField v i x):=by
  unfold setField;split
  · unfold updateField;refine DK.bind (Fm _) λ o=> ?_;split
    · split
      · exact E5 _ (Es _ _ hi)
      · exact Br _
    · exact Br _
  · exact Br _
theorem El:DK (stack):=λ _=>trivial
theorem BW {α:Type} {c:Prop} [Decidable c] {x y:Sem α} (hx:DK x) (hy:DK y):DK (if c then x else y):=by
  split
  · exact hx
  · exact hy
theorem BK (e:Value) (f:Option Addr):DK (setFlight e f):=by
  unfold setFlight;refine DK.bind (CU _ _) λ tb=> ?_;exact BW (BY _ _ _) (Aw _)
theorem Hj (env:Env) (outer:List Env):DK (behindIsImport env outer):=by
  unfold behindIsImport;refine BW (Aw _) (BW (Aw _) ?_);exact DK.bind (CU _ _) λ _=>Aw _
theorem Jy (env:Env) (i:Bool) (l:List Env):DK (keptBack env i l):=by
  unfold keptBack;split
  · refine BW (Aw _) ?_;unfold underTheClaimsCaller;exact DK.bind (DK.bind El λ _=>Aw _) λ _=>Aw _
  · exact Aw _
theorem F0:∀ l:List Env,DK (readyFrames l)
  | []=>trivial
  | env::outer=>by
    unfold readyFrames;split
    · refine DK.bind (Fm _) λ o=> ?_;refine BW (Aw _) ?_;refine DK.bind (Hj _ _) λ _=>DK.bind (Jy _ _ _) λ _=>DK.bind (E5 _ λ _=>⟨rfl,rfl⟩) λ _=>F0 outer
    · exact Br _
theorem Gk (env:Env):DK (PySem.frameOf env):=by
  unfold PySem.frameOf;refine DK.bind ?_ λ _=>DK.bind ?_ λ o=> ?_
  · unfold frameEnvs;exact DK.bind El λ _=>Aw _
  · unfold frameObject;split
    · exact Aw _
    · exact DK.bind (F0 _) λ _=>Aw _
  · split
    · exact Aw _
    · exact Br _
theorem Fj (ty:String) (vs:List Value):DK (newFields ty vs):=by
  unfold newFields newObj;have hj:DK (newObjAsIs (.type ty) (.fields vs.toArray)):=by
    unfold newObjAsIs;exact λ _=>trivial
  exact BW (DK.bind (Br _) λ _=>hj) hj
theorem IE (f:Addr) (b:Bool):DK (entryPlaceOf f b):=by
  unfold entryPlaceOf;refine DK.bind El λ _=> ?_;split
  · exact Aw _
  · exact Aw _
theorem GV (e:Value) (env:Env):DK (noteFrame e env):=by
  unfold noteFrame;split
  · rename_i f _
    refine DK.bind (CU _ _) λ head=> ?_;have hj:DK (do
        let fr <-PySem.frameOf env
        let pl <-entryPlaceOf f (head != Value.none)
        let b <-EntryCells.newEntry head fr Value.none (rawInt f) Value.none pl
        setField e 1 b):=DK.bind (Gk env) λ _=>DK.bind (IE _ _) λ _=>DK.bind (Fj _ _) λ _=>BY _ _ _
    refine BW (DK.bind (CU _ _) λ _=>BW (Aw _) (DK.bind (BY _ _ _) λ _=>hj)) hj
  · exact Br _
theorem DH (env:Env) (e:Value):DK (leaving env e):=by
  unfold leaving;exact DK.bind (GV _ _) λ _=>BK _ _
section
variable {M:Model} {A:Around} {E:Value->Shared->Prop} {s:Shared}
theorem Gr {base:Heap} {env:Env} {outer:List Env} {L e:Addr} {cls a0:Value} {Q:Unit->Shared->Prop} (hfr:A.frames=some (env::outer)) (hf:env.frame=some L) (hfl:Heap.FlyingW base (env::outer) e cls a0 s.heap)
    (hQ:∀ h',Heap.FlyingW base outer e cls a0 h'->s.heap.UpToSlots h'->KD s.heap h'->Q () { s with heap:=h' }):wpAny M A (leaving env (.ref e)) Q E s:=
  wpAny_mono (BU (DH env (.ref e)) (wpAny_leaves_onW (Q:=λ _ s'=>∃ h',s'={ s with heap:=h' }/\Heap.FlyingW base outer e cls a0 h'/\s.heap.UpToSlots h') hfr hf hfl λ h' a b=>⟨h',rfl,a,b⟩))
    (λ _ _ ⟨⟨h',e,a,b⟩,k⟩=>by subst e;exact hQ h' a b k) λ _ _ z=>z.1
theorem Fg {base h:Heap} {env:Env} {outer:List Env} {L e:Addr} {cls:Value} {args:List Value} {Q:Unit->Shared->Prop}
    (hfr:A.frames=some (env::outer)) (hf:env.frame=some L) (hkb:base.StaysIn h) (hl:h.FunFrames base (env::outer)) (hx:Heap.MadeExcOf h s.heap e cls args)
    (hQ:∀ h' t,Heap.FlyingW base outer e cls (.ref t) h'->s.heap.UpToSlots h'->KD s.heap h'->Q () { s with heap:=h' }):wpAny M A (leaving env (.ref e)) Q E s:=
  wpAny_mono (BU (DH env (.ref e)) (wpAny_leaves_madeW (Q:=λ _ s'=>∃ h' t,s'={ s with heap:=h' }/\Heap.FlyingW base outer e cls (.ref t) h'/\s.heap.UpToSlots h') hfr hf hkb hl hx λ h' t a _ _ b=>⟨h',t,rfl,a,b⟩))
    (λ _ _ ⟨⟨h',t,e,a,b⟩,k⟩=>by subst e;exact hQ h' t a b k) λ _ _ z=>z.1
theorem Hf {base:Heap} {env:Env} {outer:List Env} {L e:Addr} {cls a0:Value} {Q:Unit->Shared->Prop} (hfr:A.frames=some (env::outer)) (hf:env.frame=some L) (hfl:Heap.FlyingW base (env::outer) e cls a0 s.heap)
    (hQ:∀ h',Heap.HeldW base (env::outer) e cls a0 L h'->s.heap.UpToSlots h'->KD s.heap h'->Q () { s with heap:=h' }):wpAny M A (noteFrame (.ref e) env) Q E s:=
  wpAny_mono (BU (GV (.ref e) env) (wpAny_looks_onW (Q:=λ _ s'=>∃ h',s'={ s with heap:=h' }/\Heap.HeldW base (env::outer) e cls a0 L h'/\s.heap.UpToSlots h') hfr hf hfl λ h' a b=>⟨h',rfl,a,b⟩))
    (λ _ _ ⟨⟨h',e,a,b⟩,k⟩=>by subst e;exact hQ h' a b k) λ _ _ z=>z.1
theorem KY {base:Heap} {l:List Env} {e L:Addr} {cls a0:Value} {Q:Unit->Shared->Prop} (hh:Heap.HeldW base l e cls a0 L s.heap)
    (hQ:∀ h',Heap.FlyingW base l e cls a0 h'->s.heap.UpToSlots h'->KD s.heap h'->Q () { s with heap:=h' }):wpAny M A (setFlight (.ref e) none) Q E s:=
  wpAny_mono (BU (BK (.ref e) none) (wpAny_landsW (Q:=λ _ s'=>∃ h',s'={ s with heap:=h' }/\Heap.FlyingW base l e cls a0 h'/\s.heap.UpToSlots h') hh λ h' a b=>⟨h',rfl,a,b⟩))
    (λ _ _ ⟨⟨h',e,a,b⟩,k⟩=>by subst e;exact hQ h' a b k) λ _ _ z=>z.1
theorem Ji {base:Heap} {l:List Env} {e:Addr} {cls a0 fl:Value} {Q:Unit->Shared->Prop} (hkb:base.StaysIn s.heap) (hl:s.heap.FunFrames base l) (ht:s.heap.TracedAtW base e cls a0 fl)
    (h:∀ h',base.StaysIn h'->h'.FunFrames base l->h'.TracedW base e cls a0->(∀ b o,s.heap.get? b=some o->(∀ vs,o.data≠ .fields vs)->h'.get? b=some o)->KD s.heap h'->Q () { s with heap:=h' }):
    wpAny M A (setFlight (.ref e) none) Q E s:=
  wpAny_mono (BU (BK (.ref e) none) (wpAny_setFlight_noneW (Q:=λ _ s'=>∃ h',s'={ s with heap:=h' }/\base.StaysIn h'/\h'.FunFrames base l/\h'.TracedW base e cls a0/\∀ b o,s.heap.get? b=some o->(∀ vs,o.data≠ .fields vs)->h'.get? b=some o) hkb hl ht λ h' a b c d=>⟨h',rfl,a,b,c,d⟩))
    (λ _ _ ⟨⟨h',e,a,b,c,d⟩,k⟩=>by subst e;exact h h' a b c d k) λ _ _ z=>z.1
def MkR (H:Hp) (od:Option Addr):Prop:=∃ dx o,od=some dx/\H dx=some o/\∀ (P:Program) (w:World) (H:Hp) (h:Heap),ObjOk P w H h dx o->∃ mA u,h.Ns1 dx mA/\mA "row"=some u
def DictIs (H:Hp) (h:Heap) (a:Addr) (od:Option Addr):Prop:=∃ o,h.get? a=some o/\o.dict=od/\(f2 o=some .none\/MkR H od)
theorem DictIs.on {H:Hp} {h h':Heap} {a:Addr} {od:Option Addr} (x:DictIs H h a od) (k:KD h h') (t:∃ o,h'.get? a=some o):DictIs H h' a od:=by
  obtain ⟨o,e,d,c⟩:=x;obtain ⟨o',e'⟩:=t;obtain ⟨k1,k2⟩:=k.at' e e';exact ⟨o',e',k1.trans d,c.imp k2.trans id⟩
end
theorem HOk.on {P:Program} {w:World} {H:Hp} {h h':Heap} (x:HOk P w H h) (k:∀ b u,H b≠none->h.get? b=some u->h'.get? b=some u):HOk P w H h':=λ a o e=>
  (x a o e).stay (λ b u hb q=>k b u (by
    rcases hb with rfl | hb
    · rw [e];exact λ z=>by cases z
    · rw [hb];exact λ z=>by cases z) q) (λ _ q=>q) λ _ _ q=>q
theorem F3 {P:Program} {w:World} {H:Hp} {h:Heap} {a:Addr} {o:HO} (x:ObjOk P w H h a o):∃ u,h.get? a=some u:=by
  cases o with
  | lst xs=>obtain ⟨_,_,_,_,e⟩:=x;exact ⟨_,e⟩
  | tup xs=>obtain ⟨_,_,_,o,e,_⟩:=x;exact ⟨_,e⟩
  | dK kvs=>obtain ⟨_,_,_,_,o,_,_,e,_⟩:=x;exact ⟨_,e⟩
  | dT kvs=>obtain ⟨_,_,_,_,o,_,_,e,_⟩:=x;exact ⟨_,e⟩
  | set S n=>obtain ⟨o,_,_,_,e,_⟩:=x;exact ⟨_,e⟩
  | ins C dx fs=>obtain ⟨_,_,_,e,_⟩:=x;exact ⟨_,e⟩
  | own y=>exact x
  | xd fs=>obtain ⟨_,⟨_,_,_,e,_⟩,_⟩:=x;exact ⟨_,e⟩
  | rng lo hi=>obtain ⟨_,_,_,e⟩:=x;exact ⟨_,e⟩
  | frz ob u=>obtain ⟨e,_⟩:=x;exact ⟨_,e⟩
  | tbl ps=>exact ⟨_,(show h.get? a=some _ from x)⟩
  | met f y=>exact ⟨_,(show h.get? a=some _ from x)⟩
  | ext φ=>obtain ⟨_,e,_⟩:=x;exact e
def LD (outer:List Env) (s:Shared) (H':Hp) (a C t:Addr) (s':Shared):Prop:=
  ∃ B:Heap,B.FlyingW outer a (.ref C) (.ref t) s'.heap/\∀ b,(H' b≠none\/∃ o,s.heap.get? b=some o)->b∉frs outer->∀ o,s'.heap.get? b=some o->B.get? b=some o
def CXE (P:Program) (w:World):CXT:=λ outer H s E e s'=>
  ∃ a C t od H',e= .ref a/\s'.os=s.os/\AllBare s'.gens/\Un (frs outer) [] H H' s.heap s'.heap/\HOk P w H' s'.heap/\LD outer s H' a C t s'/\DictIs H' s'.heap a od/\E (.ref C) od H'
theorem CJ {env:Env} {L:Addr} {outer:List Env} (h:env.frame=some L):frs (env::outer)=L::frs outer:=by
  unfold frs;rw [List.filterMap_cons,h]
theorem AI {h base:Heap}:∀ {l:List Env} {b:Addr},h.FunFrames base l->b∈frs l->base.get? b=none/\∃ o,h.get? b=some o/\∀ vs,o.data≠ .fields vs
  | [],b,_,hb=>by cases hb
  | env::l,b,⟨_,⟨L,o,e1,e2,e3,e4⟩,r⟩,hb=>by
    rw [CJ e1] at hb;rcases List.mem_cons.mp hb with rfl | hb
    · exact ⟨e2,o,e3,e4⟩
    · exact AI r hb
theorem Ht {P:Program} {w:World} {K:PySem.W.Frag} {mg:Str->Option Value} {base:Heap} {N:List Str} {qual:Str} {scope:Scope} {f:Addr} {cd:Value} {A:Around} {outer:List Env} {s₀:Shared} {H₀:Hp} {E E':XK}
    (hE:∀ c o H,E c o H->E' c o H):AQ (CXE P w) (BR (CXE P w) P w K mg base N qual scope f cd A outer s₀ H₀ E') E:=by
  intro pins σ H s e s' I h;obtain ⟨a,C,t,od,H',rfl,os,bare,un,hok,⟨B,fl,cov⟩,di,q⟩:=h;have hfr:(envOfC qual scope s₀.heap.objs.size f cd).frame=some s₀.heap.objs.size:=rfl;have hfs:frs (envOfC qual scope s₀.heap.objs.size f cd::outer)=s₀.heap.objs.size::frs outer:=CJ hfr;refine Gr I.ok.frames hfr fl λ h' fl' ups kd=> ?_;have ib:Un (frs outer) [] H₀ H s₀.heap s.heap:=I.base;have nl:∀ b o,s₀.heap.get? b=some o->b≠s₀.heap.objs.size:=λ b o e=>Nat.ne_of_lt (Heap.lt_size e);have toB:∀ b,(H' b≠none\/∃ o,s.heap.get? b=some o)->b∉frs (envOfC qual scope s₀.heap.objs.size f cd::outer)->∀ o,s'.heap.get? b=some o->h'.get? b=some o:=λ b hb hn o e=>fl'.1 b o (cov b hb hn o e);have untr:∀ b,b∈frs (envOfC qual scope s₀.heap.objs.size f cd::outer)->H' b=none:=λ b hb=>by
    obtain ⟨_,o,e,_⟩:=AI I.stack hb;exact un.free b o e (I.stkFree b hb) (by simp)
  have hok':HOk P w H' h':=hok.on λ b u hb e=>by
    refine toB b (.inl hb) (λ z=>hb (untr b z)) u e
  refine ⟨a,C,t,od,H',rfl,os.trans I.os,bare,?_,hok',⟨B,fl',λ b hb hn o e=> ?_⟩,di.on kd (let ⟨o,e,_⟩:=fl'.there;⟨o,e⟩),hE _ _ _ q⟩
  · have notin:∀ b o,s₀.heap.get? b=some o->b∉frs outer->b∉frs (envOfC qual scope s₀.heap.objs.size f cd::outer):=λ b o e hn z=>by
      rw [hfs] at z;rcases List.mem_cons.mp z with z | z
      · exact nl b o e z
      · exact hn z
    have isin:∀ b,b∈frs outer->b∈frs (envOfC qual scope s₀.heap.objs.size f cd::outer):=λ b hb=>by rw [hfs];exact List.mem_cons_of_mem _ hb
    refine ⟨λ b o e hH hn _=> ?_,λ b o e hH hb _=> ?_,λ b o e hH _=> ?_,λ b o e _=> ?_,λ b xs e=>un.tups b xs (ib.tups b xs e),λ b o u e=>un.frzs b o u (ib.frzs b o u e),λ b ps e=> ?_⟩
    · have e1:=ib.keep b o e hH hn (by simp);exact toB b (.inr ⟨o,e1⟩) (notin b o e hn) o (un.keep b o e1 (ib.free b o e hH (by simp)) (notin b o e hn) (by simp))
    · obtain ⟨sl,e1⟩:=ib.slot b o e hH hb (by simp);obtain ⟨sl2,e2⟩:=un.slot b _ e1 (ib.free b o e hH (by simp)) (isin b hb) (by simp);obtain ⟨_,o',e',nf⟩:=AI fl.2.2.1 (isin b hb);rw [e2] at e';cases e';obtain ⟨sl3,e3⟩:=ups b _ e2 nf;exact ⟨sl3,e3⟩
    · obtain ⟨o1,e1⟩:=ib.there b o e (by simp);exact un.free b o1 e1 (ib.free b o e hH (by simp)) (by simp)
    · obtain ⟨o1,e1⟩:=ib.there b o e (by simp);obtain ⟨o2,e2⟩:=un.there b o1 e1 (by simp);by_cases hb:b∈frs outer
      · obtain ⟨_,o',e',nf⟩:=AI fl.2.2.1 (isin b hb);obtain ⟨sl3,e3⟩:=ups b _ e' nf;exact ⟨_,e3⟩
      · exact ⟨o2,toB b (.inr ⟨o1,e1⟩) (notin b o e hb) o2 e2⟩
    · obtain ⟨m1,e1⟩:=ib.tbls b ps e;obtain ⟨m2,e2⟩:=un.tbls b _ e1;exact ⟨m1++m2,by rw [e2,Array.append_assoc]⟩
  · have hn2:b∉frs (envOfC qual scope s₀.heap.objs.size f cd::outer):=λ z=>by
      have z0:=z;rw [hfs] at z;rcases List.mem_cons.mp z with z | z
      · rcases hb with hb | ⟨o1,e1⟩
        · exact hb (untr b z0)
        · exact nl b o1 e1 z
      · exact hn z
    obtain ⟨o2,e2,hb2⟩:∃ o2,s'.heap.get? b=some o2/\(H' b≠none\/∃ o,s.heap.get? b=some o):=by
      rcases hb with hb | ⟨o1,e1⟩
      · cases hx:H' b with
        | none=>exact absurd hx hb
        | some u=>
          obtain ⟨o2,e2⟩:=F3 (hok b u hx);exact ⟨o2,e2, .inl (λ z=>by cases z)⟩
      · obtain ⟨o3,e3⟩:=ib.there b o1 e1 (by simp);obtain ⟨o2,e2⟩:=un.there b o3 e3 (by simp);exact ⟨o2,e2, .inr ⟨o3,e3⟩⟩
    have e3:=cov b hb2 hn2 o2 e2;have e4:=fl'.1 b o2 e3;rw [show h'.get? b=some o from e] at e4;cases e4;exact e3
theorem EU {h base B:Heap}:∀ {l:List Env},h.FunFrames base l->(∀ b∈frs l,B.get? b=none)->h.FunFrames B l
  | [],_,_=>trivial
  | env::l,⟨k,⟨L,o,e1,e2,e3,e4⟩,r⟩,hb=>by
    rw [CJ e1] at hb;exact ⟨k,⟨L,o,e1,hb L (List.mem_cons_self ..),e3,e4⟩,EU r λ b h'=>hb b (List.mem_cons_of_mem _ h')⟩
section
variable {P:Program} {w:World} {K:PySem.W.Frag} {mg:Str->Option Value} {base:Heap} {N:List Str} {qual:Str} {scope:Scope} {f:Addr} {cd:Value} {A:Around} {outer:List Env} {s₀:Shared} {H₀:Hp} {E:XK}
theorem Hw {pins:List (Addr × Obj)} {σ:St} {H:Hp} {s:Shared} {e C:Addr} {vs:List Value} {h':Heap} (I:Inv (BR (CXE P w) P w K mg base N qual scope f cd A outer s₀ H₀ E) pins σ H s) (mk:Heap.MadeExcOf s.heap h' e (.ref C) vs) (q:E (.ref C) none H):
    (BR (CXE P w) P w K mg base N qual scope f cd A outer s₀ H₀ E).xe (.ref e) { s with heap:=h' }:=by
  have hfr:(envOfC qual scope s₀.heap.objs.size f cd).frame=some s₀.heap.objs.size:=rfl;have hfs:frs (envOfC qual scope s₀.heap.objs.size f cd::outer)=s₀.heap.objs.size::frs outer:=CJ hfr;refine Fg (base:=PySem.W.hideAll s.heap (frs (envOfC qual scope s₀.heap.objs.size f cd::outer))) (h:=s.heap) I.ok.frames hfr (λ b o e=>PySem.W.of_hideAll _ e) (EU I.stack λ b hb=>PySem.W.hideAll_none _ hb) mk λ h2 t fl ups kd=> ?_;have ib:Un (frs outer) [] H₀ H s₀.heap s.heap:=I.base;have nl:∀ b o,s₀.heap.get? b=some o->b≠s₀.heap.objs.size:=λ b o e=>Nat.ne_of_lt (Heap.lt_size e);have inB:∀ b o,s.heap.get? b=some o->b∉frs (envOfC qual scope s₀.heap.objs.size f cd::outer)->h2.get? b=some o:=λ b o e hn=>fl.1 b o (PySem.W.hideAll_get _ e hn);have notin:∀ b o,s₀.heap.get? b=some o->b∉frs outer->b∉frs (envOfC qual scope s₀.heap.objs.size f cd::outer):=λ b o e hn z=>by
    rw [hfs] at z;rcases List.mem_cons.mp z with z | z
    · exact nl b o e z
    · exact hn z
  have isin:∀ b,b∈frs outer->b∈frs (envOfC qual scope s₀.heap.objs.size f cd::outer):=λ b hb=>by rw [hfs];exact List.mem_cons_of_mem _ hb
  refine ⟨e,C,t,none,H,rfl,I.os,I.bare,?_,I.hok.on λ b u hb e=>inB b u e (λ z=>hb (I.stkFree b z)),⟨_,fl,λ b hb hn o e=> ?_⟩,DictIs.on (let ⟨_,e,_⟩:=mk.there;⟨_,e,rfl, .inl rfl⟩) kd (let ⟨o,e,_⟩:=fl.there;⟨o,e⟩),q⟩
  · refine ⟨λ b o e hH hn _=> ?_,λ b o e hH hb _=> ?_,λ b o e hH _=>ib.free b o e hH (by simp),λ b o e _=> ?_,λ b xs e=>ib.tups b xs e,λ b o u e=>ib.frzs b o u e,λ b ps e=>ib.tbls b ps e⟩
    · exact inB b o (ib.keep b o e hH hn (by simp)) (notin b o e hn)
    · obtain ⟨sl,e1⟩:=ib.slot b o e hH hb (by simp);obtain ⟨_,o',e',nf⟩:=AI I.stack (isin b hb);rw [e1] at e';cases e';obtain ⟨sl3,e3⟩:=ups b _ (mk.keeps b _ e1) nf;exact ⟨sl3,e3⟩
    · obtain ⟨o1,e1⟩:=ib.there b o e (by simp);by_cases hb:b∈frs outer
      · obtain ⟨_,o',e',nf⟩:=AI I.stack (isin b hb);obtain ⟨sl3,e3⟩:=ups b _ (mk.keeps b _ e') nf;exact ⟨_,e3⟩
      · exact ⟨o1,inB b o1 e1 (notin b o e hb)⟩
  · have hn2:b∉frs (envOfC qual scope s₀.heap.objs.size f cd::outer):=λ z=>by
      rcases hb with hb | ⟨o1,e1⟩
      · exact hb (I.stkFree b z)
      · exact notin b o1 e1 hn z
    obtain ⟨o2,e2⟩:∃ o2,s.heap.get? b=some o2:=by
      rcases hb with hb | ⟨o1,e1⟩
      · cases hx:H b with
        | none=>exact absurd hx hb
        | some u=>exact F3 (I.hok b u hx)
      · exact ib.there b o1 e1 (by simp)
    have e3:=inB b o2 e2 hn2;have e:h2.get? b=some o:=e;rw [e] at e3;cases e3;exact PySem.W.hideAll_get _ e2 hn2
def Il (E:XK) (C:Addr) (ta:TA):TS:=λ _ σ H=>ta σ H λ vs H1=>vs.length<=1000/\E (.ref C) none H1
theorem Iz {x:Str} {C:Addr} {B newId initId:String} {bm:List Value} {e₀:Expr} {rest:List Expr} {np cpos pos:Pos} {ta:TA} (O:OwnCls x C bm newId mg base) (FB:ExcBaseFacts B newId initId bm)
    (ha:PA (BR (CXE P w) P w K mg base N qual scope f cd A outer s₀ H₀ E) (e₀::rest) ta)
    (he:starEach (e₀::rest) (envOfC qual scope s₀.heap.objs.size f cd)=(false,eval e₀ (envOfC qual scope s₀.heap.objs.size f cd))::starEach rest (envOfC qual scope s₀.heap.objs.size f cd):=by rfl)
    (hplain:(backTo cpos (starEach rest (envOfC qual scope s₀.heap.objs.size f cd))).any (·.1)=false:=by rfl)
    (hg:Gl (BR (CXE P w) P w K mg base N qual scope f cd A outer s₀ H₀ E) x:=by rfl) (hd:(x == ("__debug__":Str))=false:=by decide):
    PS (BR (CXE P w) P w K mg base N qual scope f cd A outer s₀ H₀ E) (.Raise (some (.Call (.Name x np) (e₀::rest) [] cpos)) none pos) (Il E C ta):=by
  intro pins s σ H D I h;obtain ⟨tl,Nn,nm,q,bs,hdct,sn,sub,ab,col,dd,k0,k1,k2,k3,k5,mN,hC,hN,hni,T⟩:=O.obj;have hw:=ha cpos pins s σ H _ I h;refine wpAny_Raise_call_subT (C:=C) (nm:=nm) (q:=q) (N:=Nn) (bs:=bs) (bm:=tl) (hdct:=hdct) (sn:=sn) (sub:=sub) (ab:=ab) (col:=col) (dd:=dd) (k0:=k0) (k1:=k1) (k2:=k2) (k3:=k3) (k5:=k5)
    FB (mN:=mN) (T.hasType FB.hasBase) (I.ok.hd rfl) (by
      show (backTo cpos (starEach (e₀::rest) (envOfC qual scope s₀.heap.objs.size f cd))).any (·.1)=false;rw [he];show (false||(backTo cpos (starEach rest (envOfC qual scope s₀.heap.objs.size f cd))).any (·.1))=false;rw [hplain];rfl) hni (DB I hg O.bound ⟨rfl,?_⟩ hd)
  have he':starEach (e₀::rest) (BR (CXE P w) P w K mg base N qual scope f cd A outer s₀ H₀ E).env=(false,eval e₀ (envOfC qual scope s₀.heap.objs.size f cd))::starEach rest (envOfC qual scope s₀.heap.objs.size f cd):=he;rw [he'] at hw ⊢;refine Calls.evalArgs_plain (thn hw λ us s2 ⟨vs,H1,I1,r,hl,hq⟩=> ?_);have bk:∀ b o,base.get? b=some o->s2.heap.get? b=some o:=I1.bk;refine ⟨rfl,?_,bk _ _ hC,hN.keeps bk,T.keeps bk,λ h' e mk=>Hw I1 mk hq⟩;rw [<-r.length];exact Nat.le_trans hl (by decide)
end
theorem Er {h h1 h2:Heap} (a:h.UpToSlots h1) (b:h1.UpToSlots h2):h.UpToSlots h2:=λ c o e nf=>by
  obtain ⟨sl,e1⟩:=a c o e nf;obtain ⟨sl2,e2⟩:=b c _ e1 nf;exact ⟨sl2,e2⟩
theorem HS {P:Program} {w:World} {l:List Env} {s s₁:Shared} {H H':Hp} {a C t:Addr} {B h3:Heap} (un:Un (frs l) [] H H' s.heap s₁.heap) (hok:HOk P w H' s₁.heap) (fl:B.FlyingW l a (.ref C) (.ref t) s₁.heap)
    (cov:∀ b,(H' b≠none\/∃ o,s.heap.get? b=some o)->b∉frs l->∀ o,s₁.heap.get? b=some o->B.get? b=some o) (untr:∀ b∈frs l,H' b=none) (fl3:B.FlyingW l a (.ref C) (.ref t) h3) (ups:s₁.heap.UpToSlots h3):
    Un (frs l) [] H H' s.heap h3/\HOk P w H' h3:=by
  have inB:∀ b,(H' b≠none\/∃ o,s.heap.get? b=some o)->b∉frs l->∀ o,s₁.heap.get? b=some o->h3.get? b=some o:=λ b hb hn o e=>fl3.1 b o (cov b hb hn o e);refine ⟨⟨λ b o e hH hn hx=>inB b (.inr ⟨o,e⟩) hn o (un.keep b o e hH hn hx),λ b o e hH hb hx=> ?_,un.free,λ b o e hx=> ?_,un.tups,un.frzs,un.tbls⟩,hok.on λ b u hb e=>inB b (.inl hb) (λ z=>hb (untr b z)) u e⟩
  · obtain ⟨sl,e1⟩:=un.slot b o e hH hb hx;obtain ⟨_,o',e',nf⟩:=AI fl.2.2.1 hb;rw [e1] at e';cases e';obtain ⟨sl3,e3⟩:=ups b _ e1 nf;exact ⟨sl3,e3⟩
  · obtain ⟨o1,e1⟩:=un.there b o e hx;by_cases hb:b∈frs l
    · obtain ⟨_,o',e',nf⟩:=AI fl.2.2.1 hb;obtain ⟨sl,e2⟩:=ups b _ e' nf;exact ⟨_,e2⟩
    · exact ⟨o1,inB b (.inr ⟨o,e⟩) hb o1 e1⟩
def EJ (a C:Addr) (od:Option Addr):HO:= .ext λ h=>∃ o,h.get? a=some o/\o.cls= .ref C/\o.dict=od/\∃ vs,o.data= .fields vs
theorem KL {P:Program} {w:World} {H:Hp} {h:Heap} {a C:Addr} {o:Obj} {vs:Array Value} (e:h.get? a=some o) (c:o.cls= .ref C) (d:o.data= .fields vs):ObjOk P w H h a (EJ a C o.dict):=
  ⟨⟨o,e,c,rfl,vs,d⟩,⟨o,e⟩,λ _ _ ⟨o,e,c⟩ k=>⟨o,k o e,c⟩⟩
theorem Io {P:Program} {w:World} {H:Hp} {h:Heap} {a:Addr} {u:HO} (hok:HOk P w H h) (n:H a=none) (new:ObjOk P w (upd H a u) h a u):HOk P w (upd H a u) h:=λ b o e=>by
  by_cases z:b=a
  · subst z;rw [Ae] at e;cases e;exact new
  · rw [Am z] at e;have ne:∀ c v,H c=some v->c≠a:=λ c v q z=>by rw [z,n] at q;cases q
    exact (hok b o e).stay (λ c v _ q=>q) (λ c q=>(Am (ne c _ q)).trans q) λ c xs q=>(Am (ne c _ q)).trans q
theorem HZ {fs ex:List Addr} {H H':Hp} {h h':Heap} {a:Addr} {u:HO} (un:Un fs ex H H' h h') (n:H' a=none) (na:h.get? a=none):Un fs ex H (upd H' a u) h h':=by
  have ne:∀ c v,H' c=some v->c≠a:=λ c v q z=>by rw [z,n] at q;cases q
  refine ⟨un.keep,un.slot,λ b o e hH hx=> ?_,un.there,λ b xs e=> ?_,λ b o v e=> ?_,λ b ps e=> ?_⟩
  · have z:b≠a:=λ z=>by rw [z,na] at e;cases e
    rw [Am z];exact un.free b o e hH hx
  · have:=un.tups b xs e;exact (Am (ne _ _ this)).trans this
  · have:=un.frzs b o v e;exact (Am (ne _ _ this)).trans this
  · obtain ⟨m,this⟩:=un.tbls b ps e;exact ⟨m,(Am (ne _ _ this)).trans this⟩
section
variable {X:Cx} {pins:List (Addr × Obj)} {σ:St} {H:Hp} {s s₁:Shared} {E:XK} {e:Value}
theorem M2 {E1 E2:Value->Shared->Prop} {R:Shared->Prop} (I:Inv X pins σ H s) (hst:X.stack=X.env::X.outer) (hf:X.env.frame=some X.env.locals) (h:CXE X.prog X.w X.stack H s E e s₁)
    (k:∀ (a C t:Addr) (od:Option Addr) (H':Hp) (B h3:Heap),e= .ref a->B.FlyingW X.stack a (.ref C) (.ref t) h3->s₁.heap.UpToSlots h3->DictIs H' h3 a od->(∀ h4:Heap,B.FlyingW X.stack a (.ref C) (.ref t) h4->s₁.heap.UpToSlots h4->DictIs H' h4 a od->Inv X pins σ H' { s₁ with heap:=h4 }/\Inv X pins σ (upd H' a (EJ a C od)) { s₁ with heap:=h4 })->H' a=none->E (.ref C) od H'->R { s₁ with heap:=h3 }):
    wpAny (model X.prog X.w) X.A (noteFrame e X.env) (λ _ s₂=>wpAny (model X.prog X.w) X.A (setFlight e none) (λ _ s₃=>R s₃) E2 s₂) E1 s₁:=by
  obtain ⟨a,C,t,od,H',rfl,os,bare,un,hok,⟨B,fl,cov⟩,di,q⟩:=h;have untr:∀ b∈frs X.stack,H' b=none:=λ b hb=>by
    obtain ⟨_,o,e,_⟩:=AI I.stack hb;exact un.free b o e (I.stkFree b hb) (by simp)
  obtain ⟨oa,hoa,hca⟩:=fl.there;have af:a∉frs X.stack:=λ z=>by
    obtain ⟨_,_,_,oe,vs,T,oT,ts,he,hcls,hd,_⟩:=id fl;obtain ⟨_,o',e',nf⟩:=AI fl.2.2.1 z;rw [he] at e';cases e';exact nf _ hd
  have an:H' a=none:=by
    cases hx:H' a with
    | none=>rfl
    | some u=>
      have:=cov a (.inl (by rw [hx];exact λ z=>by cases z)) af oa hoa;rw [fl.2.1] at this;cases this
  have as:s.heap.get? a=none:=by
    cases hx:s.heap.get? a with
    | none=>rfl
    | some o=>
      have:=cov a (.inr ⟨o,hx⟩) af oa hoa;rw [fl.2.1] at this;cases this
  have fl':=fl;rw [hst] at fl';refine Hf (by rw [I.ok.frames,hst]) hf fl' λ h2 hh u2 kd2=>KY (s:={ s₁ with heap:=h2 }) hh λ h3 fl3 u3 kd3=> ?_;rw [<-hst] at fl3;refine k a C t od H' B h3 rfl fl3 (Er u2 u3) (di.on (kd2.trans kd3) (let ⟨o,e,_⟩:=fl3.there;⟨o,e⟩)) (λ h4 fl4 u4 di4=> ?_) an q;obtain ⟨un4,hok4⟩:=HS un hok fl cov untr fl4 u4;obtain ⟨_,_,_,o4,vs4,_,_,_,e4,⟨c4,_⟩,dd4,_⟩:=id fl4;have d4:o4.dict=od:=by
    obtain ⟨o5,e5,d5,_⟩:=di4;rw [e4] at e5;cases e5;exact d5
  subst d4;exact ⟨I.call' (s':={ s₁ with heap:=h4 }) (ch:=[]) os un4 hok4 bare (λ _ z=>by cases z),I.call' (s':={ s₁ with heap:=h4 }) (ch:=[]) os (HZ un4 an as) (Io hok4 an (KL e4 c4 dd4)) bare (λ _ z=>by cases z)⟩
end
def Cx.tryC (X:Cx) (pn:List (Addr × Obj)) (xe:Value->Shared->Prop):Cx:={ X with pn:=pn,xe:=xe }
def Cx.markC (X:Cx) (a:Addr) (xe:Value->Shared->Prop):Cx:={ X with A:=X.A.mark (some (.ref a)),calm:=false,xe:=xe }
section
variable {X:Cx} {pins pins0:List (Addr × Obj)} {σ:St} {H:Hp} {s:Shared} {xe:Value->Shared->Prop}
theorem Inv.tryC (I:Inv X pins σ H s):Inv (X.tryC (X.pn++pins) xe) [] σ H s:=
  ⟨⟨I.ok.mod,I.ok.kind,I.ok.glob,I.ok.blt,I.ok.above,I.ok.inj,I.ok.has,I.ok.cab,I.ok.hd,I.ok.frames,I.ok.stk,I.ok.exf,I.ok.bs,I.ok.bsz,I.ok.noex,I.ok.exfs,I.ok.funs,I.ok.frf⟩,
    I.os,I.bare,I.base,I.loc,I.cell,I.free,I.freeC,λ p hp=>I.pin p (by simpa [Cx.tryC] using hp),I.hok,I.len⟩
theorem Inv.untry (ok:X.Ok) (I:Inv (X.tryC (X.pn++pins0) xe) pins σ H s):Inv X pins0 σ H s:=
  ⟨ok,I.os,I.bare,I.base,I.loc,I.cell,I.free,I.freeC,λ p hp=>I.pin p (List.mem_append_left _ hp),I.hok,I.len⟩
theorem Inv.markC {a:Addr} (I:Inv X pins σ H s):Inv (X.markC a xe) pins σ H s:=
  ⟨⟨I.ok.mod,I.ok.kind,I.ok.glob,I.ok.blt,I.ok.above,I.ok.inj,I.ok.has,I.ok.cab,λ z=>(by cases z),I.ok.frames,I.ok.stk,I.ok.exf,I.ok.bs,I.ok.bsz,I.ok.noex,I.ok.exfs,I.ok.funs,I.ok.frf⟩,
    I.os,I.bare,I.base,I.loc,I.cell,I.free,I.freeC,I.pin,I.hok,I.len⟩
theorem Inv.unmark {a:Addr} (ok:X.Ok) (I:Inv (X.markC a xe) pins σ H s):Inv X pins σ H s:=
  ⟨ok,I.os,I.bare,I.base,I.loc,I.cell,I.free,I.freeC,I.pin,I.hok,I.len⟩
theorem Hk {M:Model} {A:Around} {E:Value->Shared->Prop} {i:Nat} {x:Str} {v:V} {Q:Unit->Shared->Prop} (I:Inv X pins σ H s) (hN:X.N.Nodup) (hi:X.N[i]?=some x) (hx:X.env.scope.names.lookup x=some .local) (hv:σ[i]?=some (some v))
    (h:∀ s',Inv X pins (σ.set i none) H s'->Q () s'):wpAny M A (unbindName X.env x) Q E s:=by
  obtain ⟨m,hn,hl⟩:=id I.loc;have hcls:(X.env.scope.kind == .class||(X.env.scope.kind == .module&&X.env.locals != X.env.globals))=false:=by rw [I.ok.kind];rfl
  obtain ⟨u0,_,q0⟩:=hl i x v hi hv (.inl hx);have hm:m x=some u0:=by
    rcases q0 with ⟨_,e⟩ | ⟨k,_⟩
    · exact e
    · rcases k with k | k
      · rw [show X.env.kindOf x=some .local from hx] at k;cases k
      · rw [show X.env.kindOf x=some .local from hx] at k;cases k
  have hiσ:i<σ.length:=by rw [I.len];exact (List.getElem?_eq_some_iff.mp hi).1
  have cne:=I.cne;refine wpAny_unbindName_local hx hn hm hcls λ h' u hn' hs=> ?_;obtain ⟨oL,_,_,hoL,_⟩:=id hn;have neL:∀ b o,X.s₀.heap.get? b=some o->b≠X.env.locals:=λ b o e=>Nat.ne_of_lt (Nat.lt_of_lt_of_le (Heap.lt_size e) I.ok.above);refine h _ ⟨I.ok,I.os,I.bare,⟨λ b o e n hb hx=> ?_,λ b o e n hb hx=> ?_,I.base.free,λ b o e hx=> ?_,I.base.tups,I.base.frzs,I.base.tbls⟩,⟨_,hn',λ j y v' e1 e2 e3=> ?_⟩,λ y c e=> ?_,I.free,I.freeC,λ p hp=> ?_,λ b ob e=> ?_,by simpa using I.len⟩
  · exact (hs.2 b (neL b o e)).trans (I.base.keep b o e n hb hx)
  · obtain ⟨sl,e1⟩:=I.base.slot b o e n hb hx;exact ⟨sl,(hs.2 b (neL b o e)).trans e1⟩
  · obtain ⟨o',e1⟩:=I.base.there b o e hx;exact ⟨o',(hs.2 b (neL b o e)).trans e1⟩
  · by_cases hj:j=i
    · subst hj;rw [List.getElem?_set_self hiσ] at e2;cases e2
    · rw [List.getElem?_set_ne (Ne.symm hj)] at e2;obtain ⟨u',r',q⟩:=hl j y v' e1 e2 e3;refine ⟨u',r',?_⟩;rcases q with ⟨k,e⟩ | ⟨k,c,e,z⟩
      · refine .inl ⟨k,?_⟩;have:y≠x:=λ e=>hj (Eh hN e1 (e▸hi));simp [this,e]
      · exact .inr ⟨k,c,e,z.sameBut hs (cne y c e)⟩
  · obtain ⟨w',z⟩:=I.cell y c e;exact ⟨w',z.sameBut hs (cne y c e)⟩
  · obtain ⟨e,n,ne,nf,d⟩:=I.pin p hp;exact ⟨(hs.2 p.1 ne).trans e,n,ne,nf,d⟩
  · refine (I.hok b ob e).stay (λ c w' hc q=>(hs.2 c ?_).trans q) (λ _ q=>q) λ _ _ q=>q;rintro rfl;rcases hc with rfl | hc
    · rw [I.free] at e;cases e
    · rw [I.free] at hc;cases hc
end
def Lv (j:Nat) (D:Ends):Ends:={ nx:=λ σ H=>D.nx (σ.set j none) H,rt:=D.rt,bk:=λ σ H=>D.bk (σ.set j none) H,ct:=λ σ H=>D.ct (σ.set j none) H }
def K7 (K:PySem.W.Frag) (CL:Addr) (len j:Nat) (ts:TS) (D:Ends):XK:=λ cls od H'=>∃ C,cls= .ref C/\PySem.W.exmOne K cls (.ref CL)=some true/\
  ∀ (a:Addr) (σ:St),H' a=none->σ.length=len->ts (Lv j D) (σ.set j (some (.ref a))) (upd H' a (EJ a C od))
def Mf (K:PySem.W.Frag) (CL:Addr) (len j:Nat) (tb:XK->TS) (ts:TS):TS:=λ D σ H=>tb (K7 K CL len j ts D) D σ H
end L2
namespace L2
open PySem PySem.Spec PyProof.Rows PySem.W
theorem Ky {X:Cx} {x n:Str} {CL:Addr} {j:Nat} {body:List Stmt} {b₀:Stmt} {suite:List Stmt} {tb:XK->TS} {ts:TS} {xp hp pos:Pos} (hst:X.stack=X.env::X.outer) (hf:X.env.frame=some X.env.locals) (hm:X.mg x=some (.ref CL))
    (hN:X.N.Nodup) (hj:X.N[j]?=some n) (hx:X.env.scope.names.lookup n=some .local)
    (hb:∀ (pn:List (Addr × Obj)) (xe:Value->Shared->Prop) (E:XK),AQ (CXE X.prog X.w) (X.tryC pn xe) E->PSs (X.tryC pn xe) body (tb E)) (hs:∀ (a:Addr) (xe:Value->Shared->Prop),PSs (X.markC a xe) (b₀::suite) ts)
    (hg:Gl X x:=by rfl) (hd:(x == ("__debug__":Str))=false:=by decide):
    PS X (.Try body [.ExceptHandler (some (.Name x xp)) (some n) (b₀::suite) hp] [] [] pos) (Mf X.K CL X.N.length j tb ts):=by
  intro pins s σ H D I h;refine wpAny_Try_except ?_;have pass:AQ (CXE X.prog X.w) (X.tryC (X.pn++pins) (λ e s₁=>wpAny (model X.prog X.w) X.A (noteFrame e X.env) (λ _ s₂=>wpAny (model X.prog X.w) X.A (setFlight e none) (λ _ s₃=>wpAny (model X.prog X.w) X.A (handleBy e X.env [.ExceptHandler (some (.Name x xp)) (some n) (b₀::suite) hp]) (SP X pins D) X.xe s₃) X.xe s₂) X.xe s₁)) (K7 X.K CL X.N.length j ts D):=by
    intro pins' σ' H1 s1 e s' I1 hc;have I1':Inv X pins σ' H1 s1:=I1.untry I.ok;refine M2 I1' hst hf hc λ a C t od H' B h3 e0 fl3 u3 di3 inv an q=> ?_;subst e0;obtain ⟨C',eC,hx',hr⟩:=q;cases eC;have I3:=(inv h3 fl3 u3 di3).1;obtain ⟨oa,hoa,hca⟩:=fl3.there;refine wpAny_handleBy_cons (codeAny_handlers_test ?_) (by intro q;cases q);refine Calls.Name_function_global I.ok.kind hg (Calls.loadGlobal_global (by rw [I.ok.glob];exact I.mod.glob.keeps I3.bk) hm ?_) hd;have lt:Looks (model X.prog X.w) h3 (typeOf (.ref a)) (.ref C):=hca▸(Looks.ld hoa).andThen .now;refine Looks.here (s:={ s' with heap:=h3 }) (PySem.W.exm_one (K:=X.K) I3.kIn lt hx') ?_;show codeAny _ _ (.handlers (.ref a) [.ExceptHandler none (some n) (b₀::suite) hp] X.env) _ _;refine codeAny_handlers_suite_as ?_;refine Ji (base:=B) (l:=X.stack) (s:={ s' with heap:=h3 }) fl3.1 fl3.2.2.1 fl3.2.2.2 λ h4 k1 k2 k3 k4 kd4=> ?_;have fl4:B.FlyingW X.stack a (.ref C) (.ref t) h4:=⟨k1,fl3.2.1,k2,k3⟩;have u4:s'.heap.UpToSlots h4:=Er u3 λ b o e nf=>⟨o.slots,k4 b o e nf⟩;have I4:=(inv h4 fl4 u4 (di3.on kd4 (let ⟨o,e,_⟩:=fl4.there;⟨o,e⟩))).2;refine BV (v:= .ref a) I4 hN hj (.inl hx) rfl (λ s5 I5=> ?_) (.inr hx);refine wpAny_mono (hs a _ pins s5 _ _ (Lv j D) I5.markC (hr a σ' an I1'.len)) (λ f s6 hq=> ?_) λ _ _ y=>y;have fin:∀ σ6 H6,Inv X pins σ6 H6 s6->∀ Qf:Shared->Prop,(∀ s7,Inv X pins (σ6.set j none) H6 s7->Qf s7)->wpAny (model X.prog X.w) X.A (do bindName X.env n .none;unbindBehindTheSuite X.env n hp) (λ _ s₃=>Qf s₃) X.xe s6:=λ σ6 H6 I6 Qf hQ=>by
      refine wpAny_bind (bindName_ (BV (v:= .non) I6 hN hj (.inl hx) rfl (λ s7 I7=> ?_) (.inr hx)));unfold unbindBehindTheSuite;have hl6:j<σ6.length:=by rw [I6.len];exact (List.getElem?_eq_some_iff.mp hj).1
      refine wpAny_onRaise (Hk (v:= .non) I7 hN hj hx (by rw [List.getElem?_set_self hl6]) λ s8 I8=> ?_);rw [List.set_set] at I8;exact hQ s8 I8
    show wpAny (model X.prog X.w) X.A (do bindName X.env n .none;unbindBehindTheSuite X.env n hp) (λ _ s₃=>SP X pins D f s₃) X.xe s6;cases f with
    | next=>
      obtain ⟨σ6,H6,I6,q6⟩:=hq;exact fin σ6 H6 (I6.unmark I.ok) _ λ s7 I7=>⟨_,_,I7,q6⟩
    | brk=>
      obtain ⟨σ6,H6,I6,q6⟩:=hq;exact fin σ6 H6 (I6.unmark I.ok) _ λ s7 I7=>⟨_,_,I7,q6⟩
    | cont=>
      obtain ⟨σ6,H6,I6,q6⟩:=hq;exact fin σ6 H6 (I6.unmark I.ok) _ λ s7 I7=>⟨_,_,I7,q6⟩
    | ret u=>
      obtain ⟨v6,σ6,H6,I6,r6,q6⟩:=hq;exact fin σ6 H6 (I6.unmark I.ok) _ λ s7 I7=>⟨v6,_,_,I7,r6,q6⟩
  refine wpAny_mono (hb _ _ _ pass [] s σ H D I.tryC h) (λ f s₁ hq=> ?_) λ _ _ y=>y;cases f with
  | next=>
    obtain ⟨σ',H',I',q'⟩:=hq;exact wpAny_execs_nil ⟨σ',H',I'.untry I.ok,q'⟩
  | brk=>
    obtain ⟨σ',H',I',q'⟩:=hq;exact ⟨σ',H',I'.untry I.ok,q'⟩
  | cont=>
    obtain ⟨σ',H',I',q'⟩:=hq;exact ⟨σ',H',I'.untry I.ok,q'⟩
  | ret u=>
    obtain ⟨v',σ',H',I',r',q'⟩:=hq;exact ⟨v',σ',H',I'.untry I.ok,r',q'⟩
end L2
namespace HT
open PySem PySem.Spec PyProof.Rows PySem.W PySem.Calls PySem.Builtin PySem.Builtin.ObjectAttr PySem.Builtin.Getset_descriptor
def ExcAt (a C:Addr) (h:Heap):Prop:=∃ o,h.get? a=some o/\o.cls= .ref C
structure ExcKind (K:Frag) (C:Addr):Prop where
  cl:(clsIn K C).isSome=true
  ga:findIn K (.ref C) "__getattribute__"=some (some (.builtin "BaseException.__getattribute__"))
  ng:findIn K (.ref C) "__getattr__"=some none
  hb:mroIn K C (.type "BaseException")=some true
  ha:findIn K (.ref C) "__class__"=some (some (.builtin "object.__class__"))
  hn:specialIn K (.builtin "object.__class__") "__get__"=some (some (.builtin "getset_descriptor.__get__"))
  htk:takesIn K (.builtin "object.__class__")=some true
  hm:mroIn K C (.type "object")=some true
theorem ExcAt.type {M:Model} {h:Heap} {a C:Addr} (x:ExcAt a C h):Looks M h (typeOf (.ref a)) (.ref C):=by
  obtain ⟨o,e,c⟩:=x;exact c▸(Looks.ld e).andThen .now
theorem Ih {K:Frag} {M:Model} {h:Heap} {a C:Addr} (k:ExcKind K C) (X:K.In h):Looks M h (find (.ref a) (.ref C) "__class__") (.bind (.builtin "getset_descriptor.__get__") (.builtin "object.__class__")):=by
  have L1:=looks_findIn (M:=M) X k.ha;have L2:Looks M h (getOf (some (.builtin "object.__class__"))) (some (.builtin "getset_descriptor.__get__")):=looks_specialIn X k.hn;have L3:=looks_takesIn (M:=M) X k.htk;exact L1.andThen (L2.andThen ((show Looks M h (dataDescriptor? (some (.builtin "object.__class__")) (some (.builtin "getset_descriptor.__get__"))) (some (.builtin "getset_descriptor.__get__", .builtin "object.__class__")) from L3.andThen .now).andThen (Looks.tag .now)))
section
variable {prog:Program} {w:World} {A:Around} {E:Value->Shared->Prop} {s:Shared} {K:Frag} {a C:Addr}
theorem JQ {R:Result->Shared->Prop} {tp:Value} (X:K.In s.heap) (x:ExcAt a C s.heap) (hm:mroIn K C (.type "object")=some true) (h:R (.ok (.ret (.ref C))) s):
    codeAny (model prog w) A (.call (.builtin "getset_descriptor.__get__") ⟨[.builtin "object.__class__", .ref a,tp],[]⟩) R s:=by
  obtain ⟨hh,g,dr,t,os⟩:=s;have L0:=x.type (M:=model prog w);have L1:=looks_mroIn (M:=model prog w) X hm;refine codeAny_call_builtin KF.slot_gs.plain KF.entry_gs (KF.slot_gs.check _ _ _ _ _ _ _ _ KF.type_class (KF.args_gs _ _ _) ?_);unfold Builtin.«getset_descriptor.__get__» descrGet;rw [dga_obj];refine wpAny_bind (wpAny_pure ?_);unfold descrGetter descrCheckInstance descrNameAndClass isInstance;simp only [KF.owner_class]
  repeat lk
  refine ⟨Code.quiet_builtin _ (by decide +kernel),codeAny_builtin KF.entry_class ?_⟩;unfold Builtin.«object.__class__» shownTypeOf
  repeat lk
  exact h
theorem Hs {Q:Unit->Shared->Prop} {nameV:Value} (k:ExcKind K C) (X:K.In s.heap) (x:ExcAt a C s.heap) (h:Q () s):wpAny (model prog w) A (checkBuiltinCall "BaseException.__getattribute__" ⟨[.ref a,nameV],[]⟩) Q E s:=by
  have hk:builtinKind "BaseException.__getattribute__"=some .slot:=by decide +kernel
  have hsplit:splitId "BaseException.__getattribute__"=some ("BaseException","__getattribute__"):=by decide +kernel
  have ha:=PySem.F.args_bexc_ga (.ref a) nameV;have L0:=x.type (M:=model prog w);have L1:=looks_mroIn (M:=model prog w) X k.hb;simp only [checkBuiltinCall,hk,hsplit];refine wpAny_bind ?_;unfold isInstance
  repeat lk
  exact h
theorem GZ {Q:Option Value->Shared->Prop} (k:ExcKind K C) (X:K.In s.heap) (x:ExcAt a C s.heap) (h:Q (some (.ref C)) { s with toks:=s.toks+1 }):wpAny (model prog w) A (getAttr? (.ref a) "__class__") Q E s:=by
  obtain ⟨hh,g,d,t,os⟩:=s;have L0:=x.type (M:=model prog w);have L1:=looks_findIn (M:=model prog w) X k.ga;have L2:=looks_findIn (M:=model prog w) X k.ng;have L3:=Ih (M:=model prog w) (a:=a) k X;unfold getAttr? getAttrBy? getAttrBy;refine wpAny_bind (wpAny_mkText (wpAny_bind (wpAny_attempt (wpAny_holding (wpAny_bind (L0.at (wpAny_bind (L1.at ?_))))))));show wpAny _ _ (getAttrByItsOwn (.ref a) _ (.ref C) (.builtin "BaseException.__getattribute__") false false) _ _ _;unfold getAttrByItsOwn;refine wpAny_bind (L2.at ?_);refine wpAny_bind (wpAny_attempt (wpAny_holding ?_));show wpAny _ _ (boundAndCalled (.builtin "BaseException.__getattribute__") (.ref a) _) _ _ _;unfold boundAndCalled;rw [PySem.F.excAttr_ValueError.ga.bind (.ref a)];refine wpAny_bind (wpAny_pure ?_);refine wpAny_call (codeAny_call_builtin PySem.F.excAttr_ValueError.ga.plain PySem.F.entry_bexc_ga (Hs (s:=⟨hh,g,d,t+1,os⟩) k X x ?_));unfold Builtin.«object.__getattribute__»
  iterate 22 lk
  refine wpAny_call (JQ (s:=⟨hh,g,d,t+1,os⟩) X x k.hm ?_)
  repeat lk
  exact h
theorem kitx_exc (k:ExcKind K C):KitX K (.ref a) (.ref C) (ExcAt a C) where
  ty:=λ _ _ _ x=>x.type
  it:=λ _ _ X _=>by
    obtain ⟨cd,hc⟩:=Option.isSome_iff_exists.mp k.cl;unfold clsIn at hc;split at hc
    · rename_i c' d' cd' sl' ho
      intro A' Q' E' s' kk q;unfold isType loadHead;exact wpAny_bind (wpAny_loadPart (kk _ _ (X _ _ ho)) (wpAny_pure q))
    · cases hc
  ne:=λ h tp dd its n sl X htp=>by
    obtain ⟨cd,hc⟩:=Option.isSome_iff_exists.mp k.cl;refine Bool.eq_false_iff.mpr λ q=> ?_;have e:C=tp:=Value.ref.inj (beq_iff_eq.mp q);subst e;unfold clsIn at hc;split at hc
    · rename_i c' d' cd' sl' ho
      have z:=(X _ _ ho).symm.trans htp;cases z
    · cases hc
  ca:=λ X x h=>GZ k X x h
end
end HT
namespace L2
open PySem PySem.Spec PyProof.Rows
theorem IB {X:Cx} {pins:List (Addr × Obj)} {σ:St} {H:Hp} {s:Shared} {A:Around} {E:Value->Shared->Prop} {Q:Value->Shared->Prop} {a C:Addr} {od:Option Addr} {c:Value} {b:Bool} (I:Inv X pins σ H s) (e:H a=some (EJ a C od)) (k:HT.ExcKind X.K C)
    (h:PySem.W.kitOne X.K (.ref C) c=some b) (hq:∀ tk,Q (.bool b) { s with toks:=tk }):wpAny (model X.prog X.w) A (call (.builtin "isinstance") [.ref a,c]) Q E s:=
  PySem.W.kia_one (HT.kitx_exc k) I.kIn (show HT.ExcAt a C s.heap from let ⟨o,h1,h2,_⟩:=(show ObjOk X.prog X.w H s.heap a (EJ a C od) from I.hok a _ e).1;⟨o,h1,h2⟩) h (λ z=>nomatch z) hq
def F7 (K:PySem.W.Frag):List V->Hp->VK->Prop:=λ xs H Q=>∃ (y c:V) (cv t:Value) (b:Bool),xs=[y,c]/\((∃ D,c= .ref D/\cv= .ref D)\/∃ T,c= .ty T/\cv= .type T)/\PySem.W.kitOne K t cv=some b/\
  (TyOf K H y t\/∃ a C od,y= .ref a/\H a=some (EJ a C od)/\t= .ref C/\HT.ExcKind K C)/\Q (.bl b) H
theorem A4 {X:Cx} {K:PySem.W.Frag} (hK:X.K=K:=by rfl):Bb X (.builtin "isinstance") (F7 K):=by
  subst hK;intro pins s σ H xs us Q I r h;obtain ⟨y,c,cv,t,b,rfl,hc,e,hy,q⟩:=h;obtain ⟨u,c',rfl,rx,rc⟩:=Kl r;have ec:c'=cv:=by
    rcases hc with ⟨D,rfl,rfl⟩ | ⟨T,rfl,rfl⟩
    · exact rc
    · exact rc
  subst ec;rcases hy with ty | ⟨a,C,od,rfl,ha,rfl,k⟩
  · exact EO I rx ty e λ tk=>⟨.bl b,H,I.tok tk,rfl,q⟩
  · cases rx;exact IB I ha k e λ tk=>⟨.bl b,H,I.tok tk,rfl,q⟩
theorem AY {K:PySem.W.Frag} {H:Hp} {Q:VK} {a C D:Addr} {od:Option Addr} {b:Bool} (ha:H a=some (EJ a C od)) (k:HT.ExcKind K C) (e:PySem.W.kitOne K (.ref C) (.ref D)=some b) (h:Q (.bl b) H):F7 K [.ref a, .ref D] H Q:=
  ⟨_,_,_,_,b,rfl, .inl ⟨D,rfl,rfl⟩,e, .inr ⟨a,C,od,rfl,ha,rfl,k⟩,h⟩
theorem G5 {K:PySem.W.Frag} {H:Hp} {Q:VK} {a C:Addr} {od:Option Addr} {T:String} {b:Bool} (ha:H a=some (EJ a C od)) (k:HT.ExcKind K C) (e:PySem.W.kitOne K (.ref C) (.type T)=some b) (h:Q (.bl b) H):F7 K [.ref a, .ty T] H Q:=
  ⟨_,_,_,_,b,rfl, .inr ⟨T,rfl,rfl⟩,e, .inr ⟨a,C,od,rfl,ha,rfl,k⟩,h⟩
end L2
namespace HT
open PySem PySem.Spec PyProof.Rows PySem.W
theorem own_mk {K:Frag} {base:Heap} {mg:Str->Option Value} {x:Str} {C:Addr} {bmB:List Value} {newId:String} (X:K.In base) (hm:mg x=some (.ref C)) (q:excIn K C bmB newId=true):OwnCls x C bmB newId mg base:=by
  refine ⟨hm,?_⟩;unfold excIn at q;split at q
  · rename_i dd cd sl ho
    split at q
    · rename_i C' bm k0 k1 k2 k3 n k5 hm' hs
      simp only [Bool.and_eq_true,beq_iff_eq,Bool.not_eq_true'] at q;obtain ⟨⟨⟨⟨⟨rfl,rfl⟩,hdel⟩,ht⟩,hok⟩,hni⟩:=q;obtain ⟨nm,bs,mro,ns,qn,hd,sn,sub,ab,col,del⟩:=cd;dsimp only at hm' hdel hok hni;subst hm' hdel;obtain ⟨l⟩:=sl;have hsl:l=[k0,k1,k2,k3,some (.builtin n),k5]:=hs;subst hsl;exact ⟨bm,ns,nm,qn,bs,hd,sn,sub,ab,col,dd,k0,k1,k2,k3,k5,_,X _ _ ho, .of_isNs (isNs_of_in X hok),nsMap_none_of_in X hok hni,tail_of_in X ht⟩
    · cases q
  · cases q
end HT
namespace L2
open PySem PySem.Spec PyProof.Rows
def HA (P:Program) (w:World) (K:PySem.W.Frag) (mg:Str->Option Value) (base:Heap) (x:Str) (k:Nat) (ps:List Str) (sp:Sp):Prop:=
  ∃ f fd,mg x=some (.ref f)/\PySem.W.keepIn K (.ref f)=true/\FnOk P w K mg base (CXE P w) k f fd ps sp/\Binds K fd ps []
def FP (P:Program) (w:World) (K:PySem.W.Frag) (mg:Str->Option Value) (base:Heap) (x:Str) (C:Addr) (k:Nat) (ps:List Str) (sp:Sp):Prop:=
  ∃ f fd,mg x=some (.ref C)/\Mk K C f/\FnOk P w K mg base (CXE P w) k f fd ps sp/\Binds K fd ps []
theorem DefAt.callE {P:Program} {w:World} {K:PySem.W.Frag} {mg:Str->Option Value} {base:Heap} {x:Str} {st:Stmt} {ps:List Str} {f:Addr} {fd:FuncData} {k:Nat} {sp:Sp} (d:DefAt K mg x st ps f fd)
    (F:FnOk P w K mg base (CXE P w) k f fd ps sp):HA P w K mg base x k ps sp:=⟨f,fd,d.at',d.fn.kp,F,d.bi⟩
section
variable {X:Cx} {x:Str} {C:Addr} {k:Nat} {ps:List Str} {sp:Sp} {E:XK} {e:Expr} {es:List Expr} {t:TA} {p pos:Pos}
theorem HK (h:HA X.prog X.w X.K X.mg X.base x k ps sp) (hr:Room k X.A) (hx:AQ (CXE X.prog X.w) X E) (ha:PA X (e::es) t) (hg:Gl X x:=by rfl) (hdb:(x == ("__debug__":Str))=false:=by decide)
    (he:starEach (e::es) X.env=(false,eval e X.env)::starEach es X.env:=by rfl) (hpl:(backTo pos (starEach es X.env)).any (·.1)=false:=by rfl):
    PE X (.Call (.Name x p) (e::es) [] pos) (FV sp [] E t):=by
  obtain ⟨f,fd,hm,hk,F,hb⟩:=h;exact GN F hr hg hm hk hb .nil hx ha hdb he hpl
theorem DG (h:FP X.prog X.w X.K X.mg X.base x C k ps sp) (hr:Room (k+1) X.A) (hx:AQ (CXE X.prog X.w) X E) (ha:PA X (e::es) t) (hg:Gl X x:=by rfl) (hdb:(x == ("__debug__":Str))=false:=by decide)
    (he:starEach (e::es) X.env=(false,eval e X.env)::starEach es X.env:=by rfl) (hpl:(backTo pos (starEach es X.env)).any (·.1)=false:=by rfl):
    PE X (.Call (.Name x p) (e::es) [] pos) (E3 C sp [] E t):=by
  obtain ⟨f,fd,hm,M,F,hb⟩:=h;exact Jv M F hr hg hm hb .nil hx ha hdb he hpl
end
theorem LY {P:Program} {w:World} {K:PySem.W.Frag} {mg:Str->Option Value} {base:Heap} {N:List Str} {qual:Str} {scope:Scope} {f:Addr} {cd:Value} {A:Around} {outer:List Env} {s₀:Shared} {H₀:Hp} {E:XK}:
    AQ (CXE P w) (BR (CXE P w) P w K mg base N qual scope f cd A outer s₀ H₀ E) E:=Ht λ _ _ _ h=>h
section
variable {P:Program} {w:World} {K:PySem.W.Frag} {mg:Str->Option Value} {base:Heap}
theorem Fun.okE {x qual:Str} {st:Stmt} {f:Addr} {fd:FuncData} {N ps:List Str} {k:Nat} {sp:Sp} (F:Fun K x qual st f fd) (S:FnScope N ps (Ah st)) (len:∀ vs H Q E,sp vs H Q E->vs.length=ps.length)
    (hbody:∀ (cdv:Value) (A:Around) (outer:List Env) (s:Shared) (H:Hp) (vs:List V) (Q:VK) (E:XK),Room k (A.deeper (envOfC qual (Ah st) s.heap.objs.size f cdv))->sp vs H Q E->
      ∃ t,PSs (BR (CXE P w) P w K mg base N qual (Ah st) f cdv A outer s H E) (Ce st) t/\t { nx:=λ _ H'=>Q .non H',rt:=Q } (start N vs) H):FnOk P w K mg base (CXE P w) (k+1) f fd ps sp:=by
  obtain ⟨oc,od,kV,doc,pm,an,cdv,ct,osl,rfl,lk,hcd⟩:=F.ex;refine J4 lk hcd S len λ A outer s H vs Q E hr hsp=> ?_;exact hbody cdv A outer s H vs Q E hr hsp
theorem Dd {N:List Str} {qual:Str} {scope:Scope} {f:Addr} {cd:Value} {A:Around} {outer:List Env} {s₀:Shared} {H₀:Hp} {E:XK} {x:Str} {C:Addr} {e₀:Expr} {rest:List Expr} {np cpos pos:Pos} {ta:TA} (hm:mg x=some (.ref C))
    (q:PySem.W.excIn K C [.type "ValueError", .type "Exception", .type "BaseException", .type "object"] "ValueError.__new__"=true) (ha:PA (BR (CXE P w) P w K mg base N qual scope f cd A outer s₀ H₀ E) (e₀::rest) ta)
    (he:starEach (e₀::rest) (envOfC qual scope s₀.heap.objs.size f cd)=(false,eval e₀ (envOfC qual scope s₀.heap.objs.size f cd))::starEach rest (envOfC qual scope s₀.heap.objs.size f cd):=by rfl)
    (hplain:(backTo cpos (starEach rest (envOfC qual scope s₀.heap.objs.size f cd))).any (·.1)=false:=by rfl)
    (hg:Gl (BR (CXE P w) P w K mg base N qual scope f cd A outer s₀ H₀ E) x:=by rfl) (hd:(x == ("__debug__":Str))=false:=by decide):
    PS (BR (CXE P w) P w K mg base N qual scope f cd A outer s₀ H₀ E) (.Raise (some (.Call (.Name x np) (e₀::rest) [] cpos)) none pos) (Il E C ta):=λ pins s σ H D I h=>
  Iz (HT.own_mk I.mod.kin hm q) PySem.F.excBase_ValueError ha he hplain hg hd pins s σ H D I h
end
theorem DA:bootBuiltins "ValueError"=some (.type "ValueError"):=by decide +kernel
theorem J8 {X:Cx}:AQ (CXE X.prog X.w) X E0:=by
  intro pins σ H s e s' I h;obtain ⟨_,_,_,_,_,_,_,_,_,_,_,_,q⟩:=h;exact False.elim q
theorem TyOf.same {K:PySem.W.Frag} {H H':Hp} {x:V} {t:Value} (h:TyOf K H x t) (s:Same H H'):TyOf K H' x t:=by
  cases h with
  | non=>exact .non
  | bl x=>exact .bl x
  | int i=>exact .int i
  | str x=>exact .str x
  | flt x=>exact .flt x
  | lst e=>exact .lst (s _ _ e)
  | frz e=>exact .frz (s _ _ e)
  | tup e=>exact .tup (s _ _ e)
  | dK e=>exact .dK (s _ _ e)
  | dT e=>exact .dT (s _ _ e)
  | ins e cl ha hn htk hm=>exact .ins (s _ _ e) cl ha hn htk hm
theorem Ty.same {K:PySem.W.Frag} {H H':Hp} {x:V} (h:Ty K H x) (s:Same H H'):Ty K H' x:=let ⟨n,t⟩:=h;⟨n,t.same s⟩
theorem Fn {x:V}:∀ {xs:List V} {us:List Value},Vals xs us->xs.all AE=true->us.map (eqU x)=xs.map λ y=>eqV y x
  | _,_, .nil,_=>rfl
  | y::xs,u::us, .cons r t,f=>by
    rw [List.all_cons,Bool.and_eq_true] at f;rw [List.map_cons,List.map_cons,Hx r f.1,Fn t f.2]
def rCountL:V->List V->Hp->VK->Prop:=λ l vs H Q=>∃ p xs x,l= .ref p/\vs=[x]/\H p=some (.lst xs)/\AE x=true/\xs.all AE=true/\Q (.int ((xs.countP λ y=>eqV y x:Nat):Int)) H
theorem IN {X:Cx}:MtM X "list.count" rCountL:=by
  intro pins s σ H x vs v us Q I rx rv h;obtain ⟨p,xs,y,rfl,rfl,hH,fy,fs,q⟩:=h;cases rx;obtain ⟨u,rfl,ru⟩:=rv.one;obtain ⟨z,its,n,r,hl,e⟩:=I.lstM hH;refine call_meets F.slot_list_count ⟨_,e,rfl⟩ F.entry_list_count (F.args_list_count_2 _ _) (SeqAt.list_countAt p its.toArray n _ _ u (eqU y)) ⟨e,λ w hw=>DS ru fy r fs w (by simpa using hw),?_⟩;have ec:its.countP (eqU y)=xs.countP λ z=>eqV z y:=by
    have:=Fn (x:=y) r fs;have h1:(its.map (eqU y)).countP id=its.countP (eqU y):=by rw [List.countP_map];rfl
    have h2:(xs.map λ z=>eqV z y).countP id=xs.countP λ z=>eqV z y:=by rw [List.countP_map];rfl
    rw [<-h1,this,h2]
  rw [show its.toArray.toList=its from rfl,ec];exact ⟨.int _,H,I.tok _,⟨_,rfl⟩,q⟩
theorem Hg {H:Hp} {Q:VK} {p:Addr} {xs:List V} {x:V} (h:H p=some (.lst xs)) (fx:AE x=true) (fs:xs.all AE=true) (q:Q (.int ((xs.countP λ y=>eqV y x:Nat):Int)) H):rCountL (.ref p) [x] H Q:=⟨p,xs,x,rfl,rfl,h,fx,fs,q⟩
def rIndexL:V->List V->Hp->VK->Prop:=λ l vs H Q=>∃ p xs x j,l= .ref p/\vs=[x]/\H p=some (.lst xs)/\AE x=true/\xs.all AE=true/\(xs.map λ y=>eqV y x)[j]?=some true/\(∀ m,m<j->(xs.map λ y=>eqV y x)[m]?=some false)/\Q (.int (j:Nat)) H
theorem Iv {X:Cx}:MtM X "list.index" rIndexL:=by
  intro pins s σ H x vs v us Q I rx rv h;obtain ⟨p,xs,y,j,rfl,rfl,hH,fy,fs,h1,h2,q⟩:=h;cases rx;obtain ⟨u,rfl,ru⟩:=rv.one;obtain ⟨z,its,n,r,hl,e⟩:=I.lstM hH;have em:=Fn (x:=y) r fs;rw [<-em] at h1;have hj:j<its.length:=by
    have:=(List.getElem?_eq_some_iff.mp h1).1;simpa using this
  have hz:(j:Int)<2 ^ 63 - 1:=by
    have:sizeLine<2 ^ 63 - 1:=by decide
    omega
  refine call_meets F.slot_list_index ⟨_,e,rfl⟩ F.entry_list_index (F.args_list_index_2 _ _) (SeqAt.list_indexAt p its.toArray n _ _ u (eqU y) j (by simpa using hj) hz ?_ ?_) ⟨e,λ w hw=>DS ru fy r fs w (by simpa using hw),?_⟩
  · rw [List.getElem?_map,List.getElem?_eq_getElem hj] at h1;simpa using h1
  · intro m hm hmj;have h3:=h2 m hmj;rw [<-em,List.getElem?_map,List.getElem?_eq_getElem (by omega)] at h3;simpa using h3
  · exact ⟨.int _,H,I.tok _,⟨_,rfl⟩,q⟩
theorem G7 {H:Hp} {Q:VK} {p:Addr} {xs:List V} {x:V} (j:Nat) (h:H p=some (.lst xs)) (fx:AE x=true) (fs:xs.all AE=true) (h1:(xs.map λ y=>eqV y x)[j]?=some true) (h2:∀ m,m<j->(xs.map λ y=>eqV y x)[m]?=some false)
    (q:Q (.int (j:Nat)) H):rIndexL (.ref p) [x] H Q:=⟨p,xs,x,j,rfl,rfl,h,fx,fs,h1,h2,q⟩
theorem IA {C:Addr} {sp:Sp} {t:TA} {σ:St} {H:Hp} {Q:VK} {E:XK} (h:t σ H λ vs H1=>∀ x dx,H1 x=none->H1 dx=none->dx≠x->sp (.ref x::vs) (upd (upd H1 dx (.own x)) x (.ins C dx [])) (λ v H2=>v= .non/\Q (.ref x) H2) E):E3 C sp [] E t σ H Q:=by
  unfold E3;simpa using h
theorem K0 {j:Nat} {D:Ends} {σ:St} {H:Hp} (h:D.nx (σ.set j none) H):(Lv j D).nx σ H:=h
theorem Lx {K:PySem.W.Frag} {CL:Addr} {len j:Nat} {tb:XK->TS} {ts:TS} {D:Ends} {σ:St} {H:Hp} (h:tb (K7 K CL len j ts D) D σ H):Mf K CL len j tb ts D σ H:=h
end L2
namespace HT
open PySem PySem.Spec PyProof.Rows PySem.SeqAt
open PySem.AutoSeq1 (wpAny_loadPart')
open PySem.MeetsSeq PySem.MeetsSeq2 PySem.MeetsSeq3
section
variable {A:Around} {s:Shared}
end
end HT
namespace L2
open PySem PySem.Spec PyProof.Rows
inductive DX where
  | d (d:Dt) | dic | tdic (rest:List Dt)
inductive Rx (H:Hp) (n:Nat):V->DX->Prop
  | d {v:V} {d:Dt} (r:Rp H FT n v d):Rx H n v (.d d)
  | dic {a:Addr} (h:H a=some (.dK [])):Rx H n (.ref a) .dic
  | tdic {t a:Addr} {ws:List V} {ds:List Dt} (ht:H t=some (.tup (.ref a::ws))) (h:H a=some (.dK [])) (l:ws.length=ds.length) (e:∀ (i:Nat) (v:V) (d:Dt),ws[i]?=some v->ds[i]?=some d->Rp H FT n v d):Rx H n (.ref t) (.tdic ds)
section
variable {X:Cx} {pins:List (Addr × Obj)} {σ:St} {H:Hp} {s:Shared}
end
end L2
namespace L2
open PySem PySem.Spec PyProof.Rows PySem.W
def exO (a:Addr) (o:Obj):HO:= .ext λ h=>h.get? a=some o
section
variable {P:Program} {w:World} {K:PySem.W.Frag} {mg:Str->Option Value} {base:Heap} {N:List Str} {qual:Str} {scope:Scope} {f:Addr} {cd:Value} {cl:List (Str × Addr)} {A:Around} {outer:List Env} {s:Shared} {H:Hp} {E:XK}
structure ClOkL (N:List Str) (scope:Scope) (cl:List (Str × Addr)) (h:Heap) (H:Hp) (vs:List V):Prop where
  len:vs.length=N.length
  inj:∀ x y c,cl.lookup x=some c->cl.lookup y=some c->x=y
  has:∀ x,(scope.names.lookup x=some .cell\/scope.names.lookup x=some .free)->∃ c,cl.lookup x=some c
  val:∀ (i:Nat) (x:Str) (v:V),N[i]?=some x->vs[i]?=some v->∃ c u,scope.names.lookup x=some .free/\cl.lookup x=some c/\RelV v u/\h.IsCell c (some u)
  cell:∀ x c,cl.lookup x=some c->(∃ v,h.IsCell c v)/\H c=none
end
def Mg (qual:Str) (oc:Obj):Prop:=∃ vs t,oc.data= .fields vs/\vs[1]?=some (.str qual t)
structure LamX (X:Cx) (c P:Addr):Prop where
  code:X.env.code= .ref c
  hd:CodeHd X.base c P
  blt:X.base.BuiltinsAt X.mg P
section
variable {X:Cx} {pins:List (Addr × Obj)} {σ:St} {H:Hp} {s:Shared}
end
structure LamOk (params:Arguments) (scope:Scope):Prop where
  kind:scope.kind= .function
  co:scope.isCoroutine=false
  gen:scope.isGenerator=false
  cell:∀ x∈scope.names,x.2≠ .cell
  bind:∀ (qual:Str) (body:Expr) (cl:List (Str × Addr)) (pm cdv ctv:Value),bindArgs (kla_fn "<lambda>" qual params body scope cl pm cdv ctv) ⟨[],[]⟩=pure []
section
variable {P:Program} {w:World} {K:PySem.W.Frag} {mg:Str->Option Value} {base:Heap}
structure ThAt (s:Shared) (H:Hp) (outer:List Env) (f c':Addr) (oc:Obj) (N:List Str) (qual:Str) (scope:Scope) (cl:List (Str × Addr)) (params:Arguments) (body:Expr) (pm ctv:Value) (vs:List V):Prop where
  hf:s.heap.get? f=some (kla_obj "<lambda>" qual params body scope cl pm c' ctv)
  hf0:H f=none
  nf:f∉frs outer
  hc:H c'=some (exO c' oc)
  hoc:Mg qual oc
  C:ClOkL N scope cl s.heap H vs
  nc:∀ x c,cl.lookup x=some c->c∉frs outer
  lo:LamOk params scope
end
end L2
namespace L2
open PySem PySem.Spec PyProof.Rows
section
variable {X:Cx} {K:PySem.W.Frag} {e lo st:Expr} {te tl ts:TE} {pos p2:Pos}
end
section
variable {J:It} {g:TG} {σ0:St} {H:Hp} {n:Nat} {st:Nat->St} {te:TE} {Q:VK} {D:Addr}
end
end L2
namespace L2
open PySem PySem.Spec PyProof.Rows PySem.W
section
variable {prog:Program} {w:World} {A:Around} {E:Value->Shared->Prop} {s:Shared}
end
section
variable {X:Cx} {pins:List (Addr × Obj)} {σ:St} {H:Hp} {s:Shared} {A:Around} {E:Value->Shared->Prop}
end
section
variable {X:Cx} {K:PySem.W.Frag}
end
end L2
namespace L2
open PySem PySem.Spec PyProof.Rows
section
variable {X:Cx} {e o:Expr} {es:List Expr} {t:TA} {to:TE} {pos:Pos} {S:Addr->Sp->Prop} {E:XK}
end
section
variable {X:Cx} {K:PySem.W.Frag} {tg l:Expr} {ta:TA} {p pos:Pos}
end
section
variable {K:PySem.W.Frag} {σ0:St} {H:Hp} {a:Addr} {xs:List V}
end
section
variable {X:Cx} {scope:Scope} {cx:Str}
end
structure FnA (K:PySem.W.Frag) (m q:Str) (st:Stmt) (ps:List Str) (f:Addr) (fd:FuncData):Prop where
  fn:Fun K m q st f fd
  bi:Binds K fd ps []
section
variable {K:PySem.W.Frag} {mg:Str->Option Value} {m q x:Str} {st:Stmt} {ps:List Str} {f:Addr} {fd:FuncData}
theorem def_mk (a:mg x=some (.ref f)) (F:Fun K x x st f fd) (b:∀ us:List Value,us.length=ps.length->bindArgs fd ⟨us,[]⟩=pure (ps.zip us)):DefAt K mg x st ps f fd:=⟨F,a, .all b⟩
theorem fnA_mk (F:Fun K m q st f fd) (b:∀ us:List Value,us.length=ps.length->bindArgs fd ⟨us,[]⟩=pure (ps.zip us)):FnA K m q st ps f fd:=⟨F, .all b⟩
theorem exc_mk {C:Addr} (a:PySem.W.isClsIn K C=true) (b:PySem.W.findIn K (.ref C) "__getattribute__"=some (some (.builtin "BaseException.__getattribute__"))) (c:PySem.W.findIn K (.ref C) "__getattr__"=some none) (d:PySem.W.mroIn K C (.type "BaseException")=some true) (e:PySem.W.findIn K (.ref C) "__class__"=some (some (.builtin "object.__class__")))
    (f:PySem.W.specialIn K (.builtin "object.__class__") "__get__"=some (some (.builtin "getset_descriptor.__get__"))) (g:PySem.W.takesIn K (.builtin "object.__class__")=some true) (h:PySem.W.mroIn K C (.type "object")=some true):HT.ExcKind K C:=⟨a,b,c,d,e,f,g,h⟩
theorem ci_mk {n:Int} {t:Tok} (h:mg x=some (.int n t)):∃ t,mg x=some (.int n t):=⟨t,h⟩
theorem cs_mk {z:Str} {t:Tok} (h:mg x=some (.str z t)):∃ t,mg x=some (.str z t):=⟨t,h⟩
theorem own_nil:Own mg []:=λ _ h=>by cases h
theorem own_cons {xs:List Str} (a:mg x=none) (h:Own mg xs):Own mg (x::xs):=λ y hy=>by
  rcases List.mem_cons.mp hy with rfl | hy
  · exact a
  · exact h y hy
end
def Nxt (N:St->Hp->Prop):St->Hp->Prop:=N
structure Cut (u:TS) (D:Ends) (N:St->Hp->Prop):Prop where
  go:∀ σ H,u D σ H->N σ H
theorem Ju {t u:TS} {D:Ends} {σ:St} {H:Hp} (h:∀ N,Cut u D N->t { D with nx:=Nxt N } σ H):Mn t u D σ H:=h (u D) ⟨λ _ _ x=>x⟩
theorem KQ {u:TS} {D:Ends} {N:St->Hp->Prop} {σ:St} {H:Hp} (k:Cut u D N) (h:u D σ H):Nxt N σ H:=k.go _ _ h
end L2
open L2
local macro_rules | `(tactic| walk_at "t") => `(tactic| first | (with_reducible first | refine Ju λ _ _ => ?_ | refine KQ (by assumption) ?_ | refine Lm ?_ | refine Js ?_ | refine NO ?_ | refine Ma ?_ | refine LF ?_ | refine K4 ?_ | refine LH ?_ | refine La ?_ | refine Kx ?_ | refine Lq ?_ | refine Lu ?_ | refine Jw ?_ | refine LU ?_ | refine LO ?_ | refine Mo ?_ | refine JG ?_ | refine J1 ?_ | refine KA ?_ | refine JO ?_ | refine K1 ?_ | refine JZ ?_ | refine KW ?_ | refine Lj ?_ | refine LX ?_ | refine JU ?_ | refine LV ?_ | refine JM ?_ | refine G9 ?_ | refine Ku ?_ | refine Jp ?_ | refine Fl ?_ | refine JH ?_ | refine Kv ?_ | refine Mu ?_ | refine Mb ?_ | refine LN ?_ | refine JI ?_ | refine LA ?_ | refine Mh ?_ | refine LJ ?_ | refine L5 ?_ | refine LE ?_ | refine LQ ?_ | refine L9 ?_ | refine IJ ?_ | refine Lg ?_ | refine Kt ?_ | refine JS ?_ | refine JY ?_) | ((with_reducible apply Lb); exact rfl) | (with_reducible refine KB (by simp only [List.length_cons, List.length_nil]; decide) ?_))
local macro_rules | `(tactic| walk_at "s") => `(tactic| first | walk_at "t" | (with_reducible refine KM ?_))
local macro_rules | `(tactic| walk_at "w") => `(tactic| repeat walk_at "s")
local macro_rules | `(tactic| wrow_has $H $n) => do let t := ((n.getId.toString.drop 1).toString); let i := λ (a : String) => Lean.mkIdent (Lean.Name.mkSimple (a ++ t)); `(tactic| (generalize e : upd $H $(i "p") _ = $(i "H"); have $(i "s"):ident : Same $H $(i "H") := (by rw [<-e]; exact Ai $(i "n")); have $(i "g"):ident := (congrFun e $(i "p")).symm.trans Ae; clear e))
local macro_rules | `(tactic| row_lines $H $n) => do let t := ((n.getId.toString.drop 1).toString); let i := λ (a : String) => Lean.mkIdent (Lean.Name.mkSimple (a ++ t)); `(tactic| (intro $(i "p"):ident $(i "n"):ident; wrow_has $H $n))
local macro_rules | `(tactic| walk_at "x") => `(tactic| repeat first | walk_at "s" | (with_reducible refine An (by decide) ?_))
namespace K09
open PySem L2 PySem.Spec PyProof.Rows
seal L2.PE L2.PT L2.PW L2.PA L2.PS L2.PSs L2.PI L2.PG L2.PTs L2.PGs
section
variable {P:Program} {w:World} {K:PySem.W.Frag} {mg:Str->Option Value} {base:Heap}
structure Cs where
  Cloth:Addr
  LoomError:Addr
  BadRow:Addr
  BadWord:Addr
  TooMany:Addr
  NotPlain:Addr
  NotGrown:Addr
  BadDraft:Addr
  BadCloth:Addr
  OutOfPlace:Addr
structure Txt (K:PySem.W.Frag) (mg:Str->Option Value) (c:Cs):Prop where
  own:Own mg ["isinstance","int","bool","list","tuple","len","all","range","enumerate","ValueError"]
  g_Cloth:mg "Cloth"=some (.ref c.Cloth)
  kd_Cloth:Kind K c.Cloth
  is_Cloth:PySem.W.kitOne K (.ref c.Cloth) (.ref c.Cloth)=some true
  na_Cloth_width:NoAttr K c.Cloth "width"
  na_Cloth_rows:NoAttr K c.Cloth "rows"
  g_LoomError:mg "LoomError"=some (.ref c.LoomError)
  g_BadRow:mg "BadRow"=some (.ref c.BadRow)
  g_BadWord:mg "BadWord"=some (.ref c.BadWord)
  g_TooMany:mg "TooMany"=some (.ref c.TooMany)
  g_NotPlain:mg "NotPlain"=some (.ref c.NotPlain)
  g_NotGrown:mg "NotGrown"=some (.ref c.NotGrown)
  g_BadDraft:mg "BadDraft"=some (.ref c.BadDraft)
  g_BadCloth:mg "BadCloth"=some (.ref c.BadCloth)
  xk_BadCloth:HT.ExcKind K c.BadCloth
  xi_BadCloth:PySem.W.excIn K c.BadCloth [.type "ValueError", .type "Exception", .type "BaseException", .type "object"] "ValueError.__new__"=true
  xm_BadCloth_LoomError:PySem.W.exmOne K (.ref c.BadCloth) (.ref c.LoomError)=some true
  ki_BadCloth_BadCloth:PySem.W.kitOne K (.ref c.BadCloth) (.ref c.BadCloth)=some true
  ki_BadCloth_BadDraft:PySem.W.kitOne K (.ref c.BadCloth) (.ref c.BadDraft)=some false
  ki_BadCloth_BadRow:PySem.W.kitOne K (.ref c.BadCloth) (.ref c.BadRow)=some false
  ki_BadCloth_BadWord:PySem.W.kitOne K (.ref c.BadCloth) (.ref c.BadWord)=some false
  ki_BadCloth_NotGrown:PySem.W.kitOne K (.ref c.BadCloth) (.ref c.NotGrown)=some false
  ki_BadCloth_NotPlain:PySem.W.kitOne K (.ref c.BadCloth) (.ref c.NotPlain)=some false
  ki_BadCloth_OutOfPlace:PySem.W.kitOne K (.ref c.BadCloth) (.ref c.OutOfPlace)=some false
  ki_BadCloth_TooMany:PySem.W.kitOne K (.ref c.BadCloth) (.ref c.TooMany)=some false
  ki_BadCloth_ValueError:PySem.W.kitOne K (.ref c.BadCloth) (.type "ValueError")=some true
  g_OutOfPlace:mg "OutOfPlace"=some (.ref c.OutOfPlace)
  k_MOST_ENDS:∃ t,mg "MOST_ENDS"=some (.int 60 t)
  k_MOST_PICKS:∃ t,mg "MOST_PICKS"=some (.int 60 t)
def GX (K:PySem.W.Frag):Sp:=λ vs H Q _=>∃ (a:Addr) (ns:List Int),vs=[.ref a]/\SqL K H a (ns.map V.int)/\ns.length<=63/\∀ H',Q (.bl true) H'
end
section
variable {P:Program} {w:World} {K:PySem.W.Frag} {mg:Str->Option Value} {base:Heap} {c:Cs}
def Dc:Sp:=λ vs H Q _=>∃ n:Nat,vs=[.int n]/\1<=n/\n<=1000/\Q (.int ((2 ^ (n - 1):Nat):Int)) H
abbrev DY:Stmt:=top 13
theorem Hc:FnScope ["number"] ["number"] (Ah DY):=⟨rfl,rfl,rfl,by decide +kernel,rfl,by decide +kernel,by decide +kernel⟩
theorem He {f:Addr} {fd:FuncData} (F:Fun K "bit_of" "bit_of" DY f fd) (T:Txt K mg c):FnOk P w K mg base CX0 1 f fd ["number"] Dc:=by
  refine F.ok Hc (λ vs H Q E h=> ?_) (λ cdv A outer s H vs Q E hr h=> ?_)
  · obtain ⟨n,rfl,_⟩:=h;rfl
  · obtain ⟨n,rfl,h1,h2,q⟩:=h;refine ⟨_,(Af (Al (Aj B4 Ac (Aj BD (pv 0) Ac)))),?_⟩;walk_at "w";refine An ⟨by omega,by omega,by decide⟩ ?_;rw [show ((n:Int) - 1).toNat=n - 1 by omega,FQ];exact q
def CF (K:PySem.W.Frag):Sp:=λ vs H Q _=>∃ tp a,∃ ns:List Nat,vs=[.ref a]/\SqS tp K H a (ns.map nV)/\(∀ n∈ns,1<=n/\n<=1000)/\∀ H',Same H H'->Q (.int ((MM.mOf ns:Nat):Int)) H'
abbrev CZ:Stmt:=top 14
theorem sc_mask_of:FnScope ["numbers","mask","number"] ["numbers"] (Ah CZ):=⟨rfl,rfl,rfl,by decide +kernel,rfl,by decide +kernel,by decide +kernel⟩
theorem Gt {f:Addr} {fd:FuncData} (F:Fun K "mask_of" "mask_of" CZ f fd) (T:Txt K mg c) (c_bit_of:Au P w K mg base "bit_of" 1 ["number"] Dc):FnOk P w K mg base CX0 2 f fd ["numbers"] (CF K):=by
  refine F.ok sc_mask_of (λ vs H Q E h=> ?_) (λ cdv A outer s H vs Q E hr h=> ?_)
  · obtain ⟨tp,a,ns,rfl,_⟩:=h;rfl
  · obtain ⟨tp,a,ns,rfl,sa,hn,q⟩:=h;refine ⟨_,(Ad (Ap (i:=1) sc_mask_of.nd rfl (Or.inl rfl) Ac)
      (Ad (C5 PassesOwn.never rfl (L4 (K:=K) (pv 0)) (Bg (i:=2) sc_mask_of.nd rfl (Or.inl rfl)) (Af (Lf (i:=1) sc_mask_of.nd rfl (Or.inl rfl) (Ag c_bit_of hr (Aa (pv 2) Ab)) K8)))
      (Af (Al (pv 1))))),?_⟩
    walk_at "w";refine ⟨tp,a,rfl,⟨_,sa⟩,Cg (Ko sa) (λ i σ H3=>∃ x,σ=[some (.ref a),some (.int ((MM.mOf (ns.take i):Nat):Int)),x]/\Same H H3) ⟨_,rfl,Same.refl _⟩ (λ i σ H3 ⟨_,_,s⟩=>s) ?_ ?_⟩
    · rintro i σ H' H3 hi ⟨x,rfl,s'⟩ s3;have hi':i<ns.length:=by simpa using hi
      have hm:ns.getD i 0∈ns:=by rw [List.getD_eq_getElem?_getD,List.getElem?_eq_getElem hi'];exact List.getElem_mem hi'
      rw [Bf hi];walk_at "w";refine KO rfl ?_;walk_at "w";refine ⟨_,rfl,(hn _ hm).1,(hn _ hm).2,?_⟩;walk_at "w";rw [bO, <-MM.mOf_snoc, <-Hb hi'];exact ⟨_,rfl,s'.trans s3⟩
    · rintro σ H3 ⟨x,rfl,s3⟩;walk_at "w";rw [List.length_map,List.take_length];exact q H3 s3
def CG:Sp:=λ vs H Q _=>∃ n:Nat,vs=[.int n]/\n<=1000/\Q (.int ((2 ^ n - 1:Nat):Int)) H
abbrev De:Stmt:=top 15
theorem Gf:FnScope ["most"] ["most"] (Ah De):=⟨rfl,rfl,rfl,by decide +kernel,rfl,by decide +kernel,by decide +kernel⟩
theorem Gc {f:Addr} {fd:FuncData} (F:Fun K "mask_to" "mask_to" De f fd) (T:Txt K mg c):FnOk P w K mg base CX0 1 f fd ["most"] CG:=by
  refine F.ok Gf (λ vs H Q E h=> ?_) (λ cdv A outer s H vs Q E hr h=> ?_)
  · obtain ⟨n,rfl,_⟩:=h;rfl
  · obtain ⟨n,rfl,h1,q⟩:=h;refine ⟨_,(Af (Al (Aj BD (Aj B4 Ac (pv 0)) Ac))),?_⟩;walk_at "w";refine An ⟨by omega,by omega,by decide⟩ ?_;walk_at "w";have hp:0<2 ^ n:=Nat.two_pow_pos n;rw [show ((n:Int)).toNat=n by omega,FQ,show ((2 ^ n:Nat):Int) - 1=((2 ^ n - 1:Nat):Int) by omega];exact q
def AW:Sp:=λ vs H Q _=>∃ m n:Nat,vs=[.int m, .int n]/\1<=n/\n<=1000/\Q (.bl (m.testBit (n - 1))) H
theorem JV (m i:Nat):(!decide (((m &&& 2 ^ i:Nat):Int)=0))=m.testBit i:=by
  have e:(m &&& 2 ^ i)=(m.testBit i).toNat*2 ^ i:=by
    refine Nat.eq_of_testBit_eq λ j=> ?_;rw [Nat.testBit_and,Nat.testBit_two_pow];by_cases h:i=j
    · subst h;cases hb:m.testBit i <;> simp
    · cases hb:m.testBit i <;> simp [h,Nat.testBit_two_pow]
  rw [e];have hp:0<2 ^ i:=Nat.two_pow_pos i;cases m.testBit i with
  | false=>simp
  | true=>
    rw [decide_eq_false (by rw [Bool.toNat_true];omega)];rfl
abbrev BJ:Stmt:=top 16
theorem Eu:FnScope ["mask","number"] ["mask","number"] (Ah BJ):=⟨rfl,rfl,rfl,by decide +kernel,rfl,by decide +kernel,by decide +kernel⟩
theorem EH {f:Addr} {fd:FuncData} (F:Fun K "has_number" "has_number" BJ f fd) (T:Txt K mg c) (c_bit_of:Au P w K mg base "bit_of" 1 ["number"] Dc):FnOk P w K mg base CX0 2 f fd ["mask","number"] AW:=by
  refine F.ok Eu (λ vs H Q E h=> ?_) (λ cdv A outer s H vs Q E hr h=> ?_)
  · obtain ⟨m,n,rfl,_⟩:=h;rfl
  · obtain ⟨m,n,rfl,h1,h2,q⟩:=h;refine ⟨_,(Af (Al (DC F4 (Aj Lh (pv 0) (Ag c_bit_of hr (Aa (pv 1) Ab))) Ac (AU _)))),?_⟩;walk_at "w";refine ⟨n,rfl,h1,h2,?_⟩;walk_at "w";rw [bA,JV];exact q
def Cq:Sp:=λ vs H Q _=>∃ m:Nat,vs=[.int m]/\m<2 ^ 900/\∀ H' p,Same H H'->H p=none->H' p=some (.lst ((MM.nOf m).map nV))->Q (.ref p) H'
abbrev BF:Stmt:=top 17
theorem Ex:FnScope ["mask"] ["mask"] (Ah BF):=⟨rfl,rfl,rfl,by decide +kernel,rfl,by decide +kernel,by decide +kernel⟩
theorem EK {f:Addr} {fd:FuncData} (F:Fun K "numbers_of" "numbers_of" BF f fd) (T:Txt K mg c) (c_has_number:Au P w K mg base "has_number" 2 ["mask","number"] AW):FnOk P w K mg base CX0 3 f fd ["mask"] Cq:=by
  refine F.ok Ex (λ vs H Q E h=> ?_) (λ cdv A outer s H vs Q E hr h=> ?_)
  · obtain ⟨m,rfl,_⟩:=h;rfl
  · obtain ⟨m,rfl,h1,q⟩:=h;have hb:=MM.bits_le h1;refine ⟨_,(Af (Al (Bv (Df rfl (T.own _ (by decide)) (Aa Ac (Aa (Aj AG (F6 (K:=K) PySem.F.plainAttrs_int PySem.F.slot_int_bit_length PySem.F.type_int_bit_length EE (pv 0)) Ac) Ab))) (λ _ _ _ _=>(GP (Ay (Ag c_has_number hr (Aa (pv 1) (Aa (pv 0) Ab)))))) (λ _ _ _ _=>(pv 0))))),?_⟩;walk_at "w";refine tyI ?_;refine Jr ?_;walk_at "w";refine ⟨_,_,rfl,⟨by decide,by decide,by omega,by omega⟩,λ D hD=> ?_⟩;rw [show ((MM.bits m:Nat)+1 - 1:Int).toNat=MM.bits m by omega];refine DR (p:=m.testBit) (G:=λ i=>1+(i:Int)) (G2 rfl) hD (by omega) ?_ ?_ ?_
    · intro i H' R hi s k;walk_at "w";refine ⟨m,i+1,by rw [show (1:Int)+(i:Nat)=((i+1:Nat):Int) by omega],by omega,by omega,?_⟩;rw [show i+1 - 1=i by omega];exact ⟨_,rfl,k H' (Same.refl _)⟩
    · intro i H' R hi hp s k;walk_at "w";exact k H' (Same.refl _)
    · intro H' s hl;refine q H' D s hD ?_;rw [hl];unfold MM.nOf;rw [List.map_map,List.map_map];congr 2;refine List.map_congr_left λ i _=> ?_;show V.int (1+(i:Int))=V.int ((i+1:Nat):Int);congr 1;omega
def Cp:Sp:=λ vs H Q _=>∃ m n:Nat,vs=[.int m, .int n]/\n<=1000/\Q (.int (((2 ^ n - 1) ^^^ m:Nat):Int)) H
abbrev BC:Stmt:=top 18
theorem Et:FnScope ["mask","most"] ["mask","most"] (Ah BC):=⟨rfl,rfl,rfl,by decide +kernel,rfl,by decide +kernel,by decide +kernel⟩
theorem EL {f:Addr} {fd:FuncData} (F:Fun K "other_mask" "other_mask" BC f fd) (T:Txt K mg c) (c_mask_to:Au P w K mg base "mask_to" 1 ["most"] CG):FnOk P w K mg base CX0 2 f fd ["mask","most"] Cp:=by
  refine F.ok Et (λ vs H Q E h=> ?_) (λ cdv A outer s H vs Q E hr h=> ?_)
  · obtain ⟨m,n,rfl,_⟩:=h;rfl
  · obtain ⟨m,n,rfl,h1,q⟩:=h;refine ⟨_,(Af (Al (Aj Li (Ag c_mask_to hr (Aa (pv 1) Ab)) (pv 0)))),?_⟩;walk_at "w";refine ⟨n,rfl,h1,?_⟩;walk_at "w";rw [bX];exact q
def B0:Sp:=λ vs H Q _=>∃ m n:Nat,vs=[.int m, .int n]/\n<=900/\m<2 ^ n/\∀ H',Same H H'->Q (.int ((MM.tOf m n:Nat):Int)) H'
abbrev Bj:Stmt:=top 19
theorem DQ:FnScope ["mask","most"] ["mask","most"] (Ah Bj):=⟨rfl,rfl,rfl,by decide +kernel,rfl,by decide +kernel,by decide +kernel⟩
theorem DL {f:Addr} {fd:FuncData} (F:Fun K "turned_mask" "turned_mask" Bj f fd) (T:Txt K mg c) (c_mask_of:Au P w K mg base "mask_of" 2 ["numbers"] (CF K)) (c_numbers_of:Au P w K mg base "numbers_of" 3 ["mask"] Cq):FnOk P w K mg base CX0 4 f fd ["mask","most"] B0:=by
  refine F.ok DQ (λ vs H Q E h=> ?_) (λ cdv A outer s H vs Q E hr h=> ?_)
  · obtain ⟨m,n,rfl,_⟩:=h;rfl
  · obtain ⟨m,n,rfl,h1,h2,q⟩:=h;refine ⟨_,(Af (Al (Ag c_mask_of (hr.mono (by decide)) (Aa (Bv (E7 (K:=K) (Ag c_numbers_of hr (Aa (pv 0) Ab))) (λ _ _ _ _=>Cc) (λ _ _ _ _=>(Aj BD (Aj AG (pv 1) Ac) (pv 0)))) Ab)))),?_⟩;walk_at "w";refine ⟨m,rfl,Nat.lt_of_lt_of_le h2 (Nat.pow_le_pow_right (by decide) h1),λ H1 p s1 hp e1=> ?_⟩;walk_at "w";refine ⟨p,rfl,⟨_,SqL.of e1⟩,λ D hD=> ?_⟩;have hl:=MM.nOf_len h2;have mem:∀ k∈MM.nOf m,1<=k/\k<=n:=λ k hk=>by
      obtain ⟨a1,a2⟩:=(MM.nOf_mem m k).mp hk;refine ⟨a1,?_⟩;rcases Nat.lt_or_ge (k - 1) n with z | z
      · omega
      · rw [Nat.testBit_lt_two_pow (Nat.lt_of_lt_of_le h2 (Nat.pow_le_pow_right (by decide) z))] at a2;cases a2
    refine Bt (G:=λ i=>((n+1 - (MM.nOf m).getD i 0:Nat):Int)) (CY (SqL.of e1) rfl) hD (by rw [List.length_map];omega) ?_ ?_
    · intro i H' R hi s k;have hi':i<(MM.nOf m).length:=by simpa using hi
      have hm:=mem _ (show (MM.nOf m).getD i 0∈MM.nOf m by rw [List.getD_eq_getElem?_getD,List.getElem?_eq_getElem hi'];exact List.getElem_mem hi');rw [Bf hi];walk_at "w";rw [show (n:Int)+1 - (((MM.nOf m).getD i 0:Nat):Int)=((n+1 - (MM.nOf m).getD i 0:Nat):Int) by omega];exact k H' (Same.refl _)
    · intro H' s hl2;walk_at "w";have e:((List.range ((MM.nOf m).map nV).length).map λ i=>((n+1 - (MM.nOf m).getD i 0:Nat):Int)).map V.int=((MM.nOf m).map λ k=>n+1 - k).map nV:=by
        rw [List.length_map,List.map_map,List.map_map];exact AS (λ k=>nV (n+1 - k)) (MM.nOf m) 0
      rw [e] at hl2;refine ⟨false,D,_,rfl,SqL.of hl2,λ k hk=> ?_,λ H2 s2=>q H2 (s1.trans (s.trans s2))⟩;obtain ⟨j,hj,rfl⟩:=List.mem_map.mp hk;have:=mem j hj;omega
def Dl (K:PySem.W.Frag):Sp:=λ vs H Q _=>∃ x,vs=[x]/\Ty K H x/\Q (.bl (Ie x)) H
abbrev Cv:Stmt:=top 21
theorem FG:FnScope ["thing"] ["thing"] (Ah Cv):=⟨rfl,rfl,rfl,by decide +kernel,rfl,by decide +kernel,by decide +kernel⟩
theorem FE {f:Addr} {fd:FuncData} (F:Fun K "is_whole" "is_whole" Cv f fd) (T:Txt K mg c):FnOk P w K mg base CX0 1 f fd ["thing"] (Dl K):=by
  refine F.ok FG (λ vs H Q E h=> ?_) (λ cdv A outer s H vs Q E hr h=> ?_)
  · obtain ⟨x,rfl,_⟩:=h;rfl
  · obtain ⟨x,rfl,⟨n,ty⟩,k⟩:=h;refine ⟨_,(Af (Al (DO (Ak (Ca (K:=K)) rfl (T.own _ (by decide)) boot_isinstance (Aa (pv 0) (Aa (CP rfl (T.own _ (by decide)) boot_int) Ab))) (Ft (Ge (Ak (Ca (K:=K)) rfl (T.own _ (by decide)) boot_isinstance (Aa (pv 0) (Aa (CP rfl (T.own _ (by decide)) boot_bool) Ab)))))))),?_⟩;walk_at "w";refine AX ty (Jz ty) ?_;walk_at "w";refine Ij (λ hc=> ?_) (λ hc=> ?_)
    · walk_at "w";refine AX ty (HQ ty) ?_;walk_at "w";exact FJ (by cases x <;> first | rfl | exact absurd hc Bool.false_ne_true) k
    · exact FJ (by cases x <;> first | rfl | exact absurd hc.symm Bool.false_ne_true) k
def Do (K:PySem.W.Frag):Sp:=λ vs H Q _=>∃ x a b,vs=[x, .int a, .int b]/\Ty K H x/\Q (.bl (AH x a b)) H
abbrev CD:Stmt:=top 22
theorem FO:FnScope ["thing","least","most"] ["thing","least","most"] (Ah CD):=⟨rfl,rfl,rfl,by decide +kernel,rfl,by decide +kernel,by decide +kernel⟩
theorem FH {f:Addr} {fd:FuncData} (F:Fun K "is_among" "is_among" CD f fd) (T:Txt K mg c) (c_is_whole:Au P w K mg base "is_whole" 1 ["thing"] (Dl K)):FnOk P w K mg base CX0 2 f fd ["thing","least","most"] (Do K):=by
  refine F.ok FO (λ vs H Q E h=> ?_) (λ cdv A outer s H vs Q E hr h=> ?_)
  · obtain ⟨x,a,b,rfl,_⟩:=h;rfl
  · obtain ⟨x,a,b,rfl,ty,k⟩:=h;refine ⟨_,(Af (Al (DO (Ag c_is_whole hr (Aa (pv 0) Ab)) (Ft (IZ Kh Kh (pv 1) (pv 0) (pv 2)))))),?_⟩;walk_at "w";refine ⟨x,rfl,ty,?_⟩;walk_at "w";refine Ij (λ hc=> ?_) (λ hc=> ?_)
    · cases x with
      | int i=>
        walk_at "w";refine Ij (λ h1=> ?_) (λ h1=> ?_)
        · walk_at "w";exact FJ (by show _=(decide (a<=i)&&decide (i<=b));rw [h1,Bool.true_and]) k
        · walk_at "w";exact FJ (by show _=(decide (a<=i)&&decide (i<=b));rw [h1,Bool.false_and]) k
      | _=>exact absurd hc Bool.false_ne_true
    · exact FJ (by cases x <;> first | rfl | exact absurd hc.symm Bool.false_ne_true) k
def ClAt (C:Addr) (H:Hp) (x:Addr) (n:Nat) (rs:List Nat):Prop:=∃ dx t,H x=some (.ins C dx [("width",nV n),("rows", .ref t)])/\H t=some (.tup (rs.map nV))
theorem ClAt.same {C:Addr} {H H':Hp} {x:Addr} {n:Nat} {rs:List Nat} (h:ClAt C H x n rs) (s:Same H H'):ClAt C H' x n rs:=by
  obtain ⟨dx,t,h1,h2⟩:=h;exact ⟨dx,t,s _ _ h1,s _ _ h2⟩
structure ClOk (n:Nat) (rs:List Nat):Prop where
  n1:1<=n
  n2:n<=60
  p1:1<=rs.length
  p2:rs.length<=60
  lt:∀ r∈rs,r<2 ^ n
inductive ClFit (K:PySem.W.Frag) (H:Hp):V->V->Bool->Prop
  | ends {e r:V} (ty:Ty K H e) (h:AH e 1 60=false):ClFit K H e r false
  | kind {n:Nat} {r:V} {t:Value} (h1:1<=n) (h2:n<=60) (ty:TyOf K H r t) (h:PySem.W.kitOne K t (.type "list")=some false):ClFit K H (.int n) r false
  | many {n:Nat} {a:Addr} {xs:List V} (h1:1<=n) (h2:n<=60) (ha:H a=some (.lst xs)) (h:xs.length=0\/60<xs.length):ClFit K H (.int n) (.ref a) false
  | rows {n:Nat} {a:Addr} {xs:List V} (h1:1<=n) (h2:n<=60) (ha:H a=some (.lst xs)) (l1:1<=xs.length) (l2:xs.length<=60) (ty:∀ x∈xs,Ty K H x):ClFit K H (.int n) (.ref a) (xs.all λ x=>AH x 0 ((2 ^ n - 1:Nat):Int))
theorem ClFit.same {H H':Hp} {e r:V} {b:Bool} (h:ClFit K H e r b) (s:Same H H'):ClFit K H' e r b:=by
  cases h with
  | ends ty h=>exact .ends (ty.same s) h
  | kind h1 h2 ty h=>exact .kind h1 h2 (ty.same s) h
  | many h1 h2 ha h=>exact .many h1 h2 (s _ _ ha) h
  | rows h1 h2 ha l1 l2 ty=>exact .rows h1 h2 (s _ _ ha) l1 l2 λ x hx=>(ty x hx).same s
theorem ClFit.ok {H:Hp} {n:Nat} {a:Addr} {rs:List Nat} (ha:H a=some (.lst (rs.map nV))) (ok:ClOk n rs):ClFit K H (.int n) (.ref a) true:=by
  have e:((rs.map nV).all λ x=>AH x 0 ((2 ^ n - 1:Nat):Int))=true:=by
    rw [List.all_eq_true];intro x hx;obtain ⟨r,hr,rfl⟩:=List.mem_map.mp hx;have:=ok.lt _ hr;have hp:0<2 ^ n:=Nat.two_pow_pos n;show (decide ((0:Int)<=(r:Nat))&&decide (((r:Nat):Int)<=((2 ^ n - 1:Nat):Int)))=true;simp only [Bool.and_eq_true,decide_eq_true_eq];omega
  rw [<-e];refine .rows ok.n1 ok.n2 ha (by rw [List.length_map];exact ok.p1) (by rw [List.length_map];exact ok.p2) λ x hx=> ?_;obtain ⟨r,hr,rfl⟩:=List.mem_map.mp hx;exact ⟨_, .int _⟩
def Cm (K:PySem.W.Frag) (c:Cs):Sp:=λ vs H Q E=>∃ (e r:V) (b:Bool),vs=[e,r]/\ClFit K H e r b/\∀ H',Same H H'->(b=true->Q .non H')/\(b=false->E (.ref c.BadCloth) none H')
theorem CK {n:Nat} (h1:1<=n) (h2:n<=60):AH (.int n) 1 60=true:=by
  show (decide ((1:Int)<=n)&&decide ((n:Int)<=60))=true;simp;omega
abbrev BM:Stmt:=top 24
theorem EM:FnScope ["ends","rows"] ["ends","rows"] (Ah BM):=⟨rfl,rfl,rfl,by decide +kernel,rfl,by decide +kernel,by decide +kernel⟩
theorem EG {f:Addr} {fd:FuncData} (F:Fun K "need_cloth" "need_cloth" BM f fd) (T:Txt K mg c) (c_is_among:Au P w K mg base "is_among" 2 ["thing","least","most"] (Do K)) (c_mask_to:Au P w K mg base "mask_to" 1 ["most"] CG):FnOk P w K mg base (CXE P w) 3 f fd ["ends","rows"] (Cm K c):=by
  refine Fun.okE F EM (λ vs H Q E h=> ?_) (λ cdv A outer s H vs Q E hr h=> ?_)
  · obtain ⟨e,r,b,rfl,_⟩:=h;rfl
  · obtain ⟨e,r,b,rfl,hf,k⟩:=h;have tye:Ty K H e:=by cases hf <;> first | assumption | exact ⟨_, .int _⟩
    refine ⟨_,(Ad (AN (AB (Ay (Ag c_is_among hr (Aa (pv 0) (Aa Ac (Aa (Kg T.k_MOST_ENDS) Ab)))))) (Af (Dd T.g_BadCloth T.xi_BadCloth (Aa AF Ab))) Aq)
      (Ad (AN (PW.pt (Dj (AB (Ay (Ak (Ca (K:=K)) rfl (T.own _ (by decide)) boot_isinstance (Aa (pv 1) (Aa (CP rfl (T.own _ (by decide)) BA) Ab))))) (Cy (AB (Ay (Ag c_is_among hr (Aa (Ak (BN (K:=K)) rfl (T.own _ (by decide)) boot_len (Aa (pv 1) Ab)) (Aa Ac (Aa (Kg T.k_MOST_PICKS) Ab))))))))) (Af (Dd T.g_BadCloth T.xi_BadCloth (Aa AF Ab))) Aq)
      (Af (AN (AB (Ay (Ak (L8 (K:=K)) rfl (T.own _ (by decide)) Hv (Aa (Bv (E7 (K:=K) (pv 1)) (λ _ _ _ _=>Cc) (λ _ _ _ _=>(Ag c_is_among hr (Aa (pv 0) (Aa Ac (Aa (Ag c_mask_to (hr.mono (by decide)) (Aa (pv 1) Ab)) Ab)))))) Ab)))) (Af (Dd T.g_BadCloth T.xi_BadCloth (Aa AF Ab))) Aq)))),?_⟩
    walk_at "w";refine ⟨_,_,_,rfl,tye,?_⟩;walk_at "w";cases hf with
    | ends ty h=>
      rw [h];refine Jp ?_;exact ⟨by decide,(k H (Same.refl _)).2 rfl⟩
    | kind h1 h2 ty h=>
      rw [CK h1 h2];refine Fl ?_;walk_at "w";refine AX ty h ?_;walk_at "w";exact ⟨by decide,(k H (Same.refl _)).2 rfl⟩
    | @many n a xs h1 h2 ha h=>
      rw [CK h1 h2];refine Fl ?_;walk_at "w";refine AX (.lst ha) (kb (b:=true) (by decide +kernel)) ?_;walk_at "w";refine AT (SqL.of ha) ?_;walk_at "w";refine ⟨_,_,_,rfl,⟨_, .int _⟩,?_⟩;walk_at "w";have d2:AH (.int (xs.length:Nat)) 1 60=false:=by
        show (decide ((1:Int)<=(xs.length:Nat))&&decide (((xs.length:Nat):Int)<=60))=false;rw [Bool.and_eq_false_iff,decide_eq_false_iff_not,decide_eq_false_iff_not];omega
      rw [d2];refine Jp ?_;exact ⟨by decide,(k H (Same.refl _)).2 rfl⟩
    | @rows n a xs h1 h2 ha l1 l2 ty=>
      rw [CK h1 h2];refine Fl ?_;walk_at "w";refine AX (.lst ha) (kb (b:=true) (by decide +kernel)) ?_;walk_at "w";refine AT (SqL.of ha) ?_;walk_at "w";refine ⟨_,_,_,rfl,⟨_, .int _⟩,?_⟩;walk_at "w";rw [CK l1 l2];refine Fl ?_;walk_at "w";refine ⟨a,rfl,⟨_,SqL.of ha⟩,λ D hD=> ?_⟩;refine Hy (G:=λ i=>AH (xs.getD i .non) 0 ((2 ^ n - 1:Nat):Int)) (CY (SqL.of ha) rfl) hD (by omega) ?_ ?_
      · intro i H' R hi s kk;walk_at "w";refine ⟨n,rfl,by omega,?_⟩;walk_at "w";refine ⟨_,_,_,rfl,(ty _ ?_).same s,?_⟩
        · rw [List.getD_eq_getElem?_getD,List.getElem?_eq_getElem hi];exact List.getElem_mem hi
        exact kk H' (Same.refl _)
      · intro H' s hl;walk_at "w";refine K9 (SqL.of hl) ?_;walk_at "w";have d4:((List.range xs.length).map λ i=>AH (xs.getD i .non) 0 ((2 ^ n - 1:Nat):Int)).all id=xs.all λ x=>AH x 0 ((2 ^ n - 1:Nat):Int):=by
          rw [AS (λ x:V=>AH x 0 ((2 ^ n - 1:Nat):Int)) xs .non,List.all_map];rfl
        rw [d4];refine Ij (λ hb=> ?_) (λ hb=> ?_)
        · have hb:(xs.all λ x=>AH x 0 ((2 ^ n - 1:Nat):Int))=false:=by simpa using hb
          exact ⟨by decide,(k H' s).2 hb⟩
        · have hb:(xs.all λ x=>AH x 0 ((2 ^ n - 1:Nat):Int))=true:=by simpa using hb
          walk_at "w";exact (k H' s).1 hb
def Ar (K:PySem.W.Frag) (c:Cs):Sp:=λ vs H Q E=>∃ (x dx:Addr) (e r:V),vs=[.ref x,e,r]/\H x=some (.ins c.Cloth dx [])/\
  ((ClFit K H e r false/\∀ H',Same H H'->E (.ref c.BadCloth) none H')\/
  (∃ (n:Nat) (a:Addr) (rs:List Nat),e= .int n/\r= .ref a/\H a=some (.lst (rs.map nV))/\ClOk n rs/\∀ H',(∀ b o,H b=some o->b≠x->H' b=some o)->ClAt c.Cloth H' x n rs->Q .non H'))
abbrev AV:Stmt:=Av (top 25) 0
theorem CW:FnScope ["self","ends","rows"] ["self","ends","rows"] (Ah AV):=⟨rfl,rfl,rfl,by decide +kernel,rfl,by decide +kernel,by decide +kernel⟩
theorem CO {f:Addr} {fd:FuncData} (F:Fun K "__init__" "Cloth.__init__" AV f fd) (T:Txt K mg c) (c_need_cloth:HA P w K mg base "need_cloth" 3 ["ends","rows"] (Cm K c)):FnOk P w K mg base (CXE P w) 4 f fd ["self","ends","rows"] (Ar K c):=by
  refine Fun.okE F CW (λ vs H Q E h=> ?_) (λ cdv A outer s H vs Q E hr h=> ?_)
  · obtain ⟨x,dx,e,r,rfl,_⟩:=h;rfl
  · obtain ⟨x,dx,e,r,rfl,hx,h⟩:=h;refine ⟨_,(Ad (DE (HK c_need_cloth hr LY (Aa (pv 1) (Aa (pv 2) Ab))))
      (Ad (Iw (pv 0) (pv 1) rfl)
      (Af (Iw (pv 0) (Bw (GO (K:=K)) rfl (T.own _ (by decide)) Cb (Aa (pv 2) Ab)) rfl)))),?_⟩
    walk_at "w";rcases h with ⟨hf,k⟩ | ⟨n,a,rs,rfl,rfl,ha,ok,k⟩
    · exact ⟨_,_,false,rfl,hf,λ H1 s1=>⟨λ z=>absurd z (by decide),λ _=>k H1 s1⟩⟩
    refine ⟨_,_,true,rfl, .ok ha ok,λ H1 s1=>⟨λ _=> ?_,λ z=>absurd z (by decide)⟩⟩;walk_at "w";refine HY (s1 _ _ hx) T.kd_Cloth.cl T.na_Cloth_width (by decide) ?_;walk_at "w";have nax:a≠x:=HV ha hx (by intro z;cases z);refine FK (SqL.of (by rw [Am nax];exact s1 _ _ ha)) λ t ht=> ?_;walk_at "w";have nxt:x≠t:=As Ae ht;refine HY (by rw [Am nxt];exact Ae) T.kd_Cloth.cl T.na_Cloth_rows (by show 1<1000;decide) ?_;walk_at "w";refine k _ (λ b o e hb=> ?_) ⟨dx,t,Ae,by rw [Am (Ne.symm nxt),Ae]⟩;have hbt:b≠t:=λ z=>by
      subst z;rw [Am hb,s1 _ _ e] at ht;cases ht
    rw [Am hb,Am hbt,Am hb];exact s1 _ _ e
theorem GS {c:Cs} {H:Hp} {Q:VK} {E:XK} {n:Nat} {a:Addr} {rs:List Nat} (ha:H a=some (.lst (rs.map nV))) (ok:ClOk n rs) (h:∀ H' x,Same H H'->H x=none->ClAt c.Cloth H' x n rs->Q (.ref x) H'):
    ∀ x dx,H x=none->H dx=none->dx≠x->Ar K c [.ref x, .int n, .ref a] (upd (upd H dx (.own x)) x (.ins c.Cloth dx [])) (λ v H2=>v= .non/\Q (.ref x) H2) E:=by
  intro x dx hx hdx ne;have s0:=F2 (o:=HO.ins c.Cloth dx []) (u:= .own x) hx hdx;exact ⟨x,dx,_,_,rfl,Ae, .inr ⟨n,a,rs,rfl,rfl,s0 _ _ ha,ok,λ H' kp at'=>⟨rfl,h H' x (λ b o e=>kp b o (s0 b o e) (As e hx)) hx at'⟩⟩⟩
theorem Lp {c:Cs} {H:Hp} {Q:Addr->VK} {E:XK} {e r:V} (hf:ClFit K H e r false) (h:∀ H',Same H H'->E (.ref c.BadCloth) none H'):
    ∀ x dx,H x=none->H dx=none->dx≠x->Ar K c [.ref x,e,r] (upd (upd H dx (.own x)) x (.ins c.Cloth dx [])) (Q x) E:=by
  intro x dx hx hdx ne;have s0:=F2 (o:=HO.ins c.Cloth dx []) (u:= .own x) hx hdx;exact ⟨x,dx,e,r,rfl,Ae, .inl ⟨hf.same s0,λ H' s=>h H' (s0.trans s)⟩⟩
def Bp (c:Cs):Sp:=λ vs H Q _=>∃ x n rs,vs=[.ref x]/\ClAt c.Cloth H x n rs/\∀ H' p l,Same H H'->H p=none->H l=none->H' p=some (.tup [nV n, .ref l])->H' l=some (.lst (rs.map nV))->Q (.ref p) H'
abbrev BI:Stmt:=Av (top 25) 1
theorem EN:FnScope ["self"] ["self"] (Ah BI):=⟨rfl,rfl,rfl,by decide +kernel,rfl,by decide +kernel,by decide +kernel⟩
theorem Ez {f:Addr} {fd:FuncData} (F:Fun K "told" "Cloth.told" BI f fd) (T:Txt K mg c):FnOk P w K mg base CX0 1 f fd ["self"] (Bp c):=by
  refine F.ok EN (λ vs H Q E h=> ?_) (λ cdv A outer s H vs Q E hr h=> ?_)
  · obtain ⟨x,n,rs,rfl,_⟩:=h;rfl
  · obtain ⟨x,n,rs,rfl,⟨dx,t,h1,h2⟩,k⟩:=h;refine ⟨_,(Af (Al (HH (Aa (Dp (K:=K) (pv 0) rfl) (Aa (Bw (HP (K:=K)) rfl (T.own _ (by decide)) BA (Aa (Dp (K:=K) (pv 0) rfl) Ab)) Ab))))),?_⟩;walk_at "w";refine ⟨_,_,_,_,_,rfl,h1,T.kd_Cloth.cl,T.na_Cloth_width,rfl,?_⟩;walk_at "w";refine ⟨_,_,_,_,_,rfl,h1,T.kd_Cloth.cl,T.na_Cloth_rows,rfl,?_⟩;walk_at "w";refine Gi (SqT.of h2) λ l hl=> ?_;walk_at "w";intro p hp;refine k _ p l ((Ai hl).trans (Ai hp)) ((Ai hl).free hp) hl Ae ?_;rw [Am (As Ae hp),Ae]
def Bs (c:Cs):Sp:=λ vs H Q _=>∃ x n rs,vs=[.ref x]/\ClAt c.Cloth H x n rs/\Q (nV n) H
abbrev BL:Stmt:=Av (top 25) 2
theorem EI:FnScope ["self"] ["self"] (Ah BL):=⟨rfl,rfl,rfl,by decide +kernel,rfl,by decide +kernel,by decide +kernel⟩
theorem EF {f:Addr} {fd:FuncData} (F:Fun K "ends" "Cloth.ends" BL f fd) (T:Txt K mg c):FnOk P w K mg base CX0 1 f fd ["self"] (Bs c):=by
  refine F.ok EI (λ vs H Q E h=> ?_) (λ cdv A outer s H vs Q E hr h=> ?_)
  · obtain ⟨x,n,rs,rfl,_⟩:=h;rfl
  · obtain ⟨x,n,rs,rfl,⟨dx,t,h1,h2⟩,k⟩:=h;refine ⟨_,(Af (Al (Dp (K:=K) (pv 0) rfl))),?_⟩;walk_at "w";exact ⟨_,_,_,_,_,rfl,h1,T.kd_Cloth.cl,T.na_Cloth_width,rfl,k⟩
def B5 (c:Cs):Sp:=λ vs H Q _=>∃ x n rs,vs=[.ref x]/\ClAt c.Cloth H x n rs/\Q (nV rs.length) H
abbrev Bq:Stmt:=Av (top 25) 3
theorem DZ:FnScope ["self"] ["self"] (Ah Bq):=⟨rfl,rfl,rfl,by decide +kernel,rfl,by decide +kernel,by decide +kernel⟩
theorem Ep {f:Addr} {fd:FuncData} (F:Fun K "picks" "Cloth.picks" Bq f fd) (T:Txt K mg c):FnOk P w K mg base CX0 1 f fd ["self"] (B5 c):=by
  refine F.ok DZ (λ vs H Q E h=> ?_) (λ cdv A outer s H vs Q E hr h=> ?_)
  · obtain ⟨x,n,rs,rfl,_⟩:=h;rfl
  · obtain ⟨x,n,rs,rfl,⟨dx,t,h1,h2⟩,k⟩:=h;refine ⟨_,(Af (Al (Ak (BN (K:=K)) rfl (T.own _ (by decide)) boot_len (Aa (Dp (K:=K) (pv 0) rfl) Ab)))),?_⟩;walk_at "w";refine ⟨_,_,_,_,_,rfl,h1,T.kd_Cloth.cl,T.na_Cloth_rows,rfl,?_⟩;walk_at "w";refine GE (SqT.of h2) ?_;rw [List.length_map];exact k
theorem JK (f:Nat->Bool) (w:Nat):MM.mOf (((List.range w).filter f).map (· + 1))=MM.ofB f w:=by
  refine Nat.eq_of_testBit_eq λ i=> ?_;rw [MM.mOf_bit,MM.ofB_bit,Bool.eq_iff_iff,List.any_eq_true];constructor
  · rintro ⟨n,hn,e⟩;obtain ⟨k,hk,rfl⟩:=List.mem_map.mp hn;obtain ⟨h1,h2⟩:=List.mem_filter.mp hk;have e:k+1 - 1=i:=of_decide_eq_true e;have e:k=i:=by omega
    subst e;simp [List.mem_range.mp h1,h2]
  · intro h;simp only [Bool.and_eq_true,decide_eq_true_eq] at h;exact ⟨i+1,List.mem_map.mpr ⟨i,List.mem_filter.mpr ⟨List.mem_range.mpr h.1,h.2⟩,rfl⟩,by simp⟩
def J5 (rs:List Nat) (e:Nat):Nat:=MM.ofB (λ p=>(rs.getD p 0).testBit (e - 1)) rs.length
def Be (c:Cs):Sp:=λ vs H Q _=>∃ x n rs,∃ e:Nat,vs=[.ref x,nV e]/\ClAt c.Cloth H x n rs/\rs.length<=60/\1<=e/\e<=60/\∀ H',Same H H'->Q (nV (J5 rs e)) H'
abbrev AO:Stmt:=Av (top 25) 5
theorem Ct:FnScope ["self","end"] ["self","end"] (Ah AO):=⟨rfl,rfl,rfl,by decide +kernel,rfl,by decide +kernel,by decide +kernel⟩
theorem Cu {f:Addr} {fd:FuncData} (F:Fun K "column_at" "Cloth.column_at" AO f fd) (T:Txt K mg c) (c_mask_of:Au P w K mg base "mask_of" 2 ["numbers"] (CF K)) (c_has_number:Au P w K mg base "has_number" 2 ["mask","number"] AW):FnOk P w K mg base CX0 3 f fd ["self","end"] (Be c):=by
  refine F.ok Ct (λ vs H Q E h=> ?_) (λ cdv A outer s H vs Q E hr h=> ?_)
  · obtain ⟨x,n,rs,e,rfl,_⟩:=h;rfl
  · obtain ⟨x,n,rs,e,rfl,⟨dx,t,h1,h2⟩,hl,e1,e2,k⟩:=h;refine ⟨_,(Af (Al (Ag c_mask_of hr (Aa (FR (K:=K) (IG (K:=K) rfl (T.own _ (by decide)) (Aa (Dp (K:=K) (pv 0) rfl) Ab)) (λ _ _ _ _=>(GP (Ay (Ag c_has_number hr (Aa (pv 1) (Aa (pv 2) Ab)))))) (λ _ _ _ _=>(pv 0))) Ab)))),?_⟩;walk_at "w";refine ⟨_,_,_,_,_,rfl,h1,T.kd_Cloth.cl,T.na_Cloth_rows,rfl,?_⟩;walk_at "w";refine ⟨true,t,rfl,⟨_,SqT.of h2⟩,λ D hD=> ?_⟩;refine DR (p:=λ i=>(rs.getD i 0).testBit (e - 1)) (G:=λ i=>((i+1:Nat):Int)) (Ho (tp:=true) (SqT.of h2) rfl rfl) hD (by rw [List.length_map];omega) ?_ ?_ ?_
    · intro i H' R hi s kk;rw [Bf hi];walk_at "w";refine ⟨rs.getD i 0,e,rfl,e1,by omega,?_⟩;exact ⟨_,rfl,kk H' (Same.refl _)⟩
    · intro i H' R hi hp s kk;walk_at "w";exact kk H' (Same.refl _)
    · intro H' s hl2;walk_at "w";have e:((((List.range (rs.map nV).length).filter λ i=>(rs.getD i 0).testBit (e - 1)).map λ i=>((i+1:Nat):Int)).map V.int)=(((List.range rs.length).filter λ i=>(rs.getD i 0).testBit (e - 1)).map (· + 1)).map nV:=by
        rw [List.length_map,List.map_map,List.map_map];rfl
      rw [e] at hl2;refine ⟨false,D,_,rfl,SqL.of hl2,λ n hn=> ?_,λ H2 s2=> ?_⟩
      · obtain ⟨j,hj,rfl⟩:=List.mem_map.mp hn;have:=List.mem_range.mp (List.mem_filter.mp hj).1;omega
      · rw [JK];exact k H2 (s.trans s2)
theorem GT (n:Nat) (G:Nat->Nat):((List.range n).map λ i=>((G i:Nat):Int)).map V.int=((List.range n).map G).map nV:=by
  rw [List.map_map,List.map_map];rfl
theorem Fi {ns:List Nat} {i:Nat} (h:i<ns.length):ns.getD i 0∈ns:=by rw [List.getD_eq_getElem?_getD,List.getElem?_eq_getElem h];exact List.getElem_mem h
theorem DJ (s:Nat):(1:Int)*2 ^ ((s:Nat):Int).toNat=((2 ^ s:Nat):Int):=by
  rw [Int.one_mul,Int.toNat_natCast];simp
theorem IK (x:Int) (s:Nat):x%((2 ^ s:Nat):Int)=(((x%(2 ^ s:Nat)).toNat:Nat):Int):=by
  have:=Int.emod_nonneg x (show ((2 ^ s:Nat):Int)≠0 by have:=Nat.two_pow_pos s;omega);omega
theorem Kj (x:Int) (s:Nat):(x%(2 ^ s:Nat)).toNat<2 ^ s:=by
  have h0:=Nat.two_pow_pos s;have:=Int.emod_lt_of_pos x (show (0:Int)<((2 ^ s:Nat):Int) by omega);have:=Int.emod_nonneg x (show ((2 ^ s:Nat):Int)≠0 by omega);omega
def BO (c:Cs):Sp:=λ vs H Q _=>∃ x n rs,∃ k:Nat,vs=[.ref x,nV k]/\ClAt c.Cloth H x n rs/\1<=k/\k<=rs.length/\Q (nV (rs.getD (k - 1) 0)) H
abbrev Bd:Stmt:=Av (top 25) 4
theorem Dx:FnScope ["self","pick"] ["self","pick"] (Ah Bd):=⟨rfl,rfl,rfl,by decide +kernel,rfl,by decide +kernel,by decide +kernel⟩
theorem Dz {f:Addr} {fd:FuncData} (F:Fun K "row_at" "Cloth.row_at" Bd f fd) (T:Txt K mg c):FnOk P w K mg base CX0 1 f fd ["self","pick"] (BO c):=by
  refine F.ok Dx (λ vs H Q E h=> ?_) (λ cdv A outer s H vs Q E hr h=> ?_)
  · obtain ⟨x,n,rs,k,rfl,_⟩:=h;rfl
  · obtain ⟨x,n,rs,k,rfl,⟨dx,t,h1,h2⟩,k1,k2,q⟩:=h;refine ⟨_,(Af (Al (A8 (Eb (K:=K)) (Dp (K:=K) (pv 0) rfl) (Aj BD (pv 1) Ac) (λ _ _=>rfl)))),?_⟩;walk_at "w";refine ⟨_,_,_,_,_,rfl,h1,T.kd_Cloth.cl,T.na_Cloth_rows,rfl,?_⟩;walk_at "w";rw [show ((k:Nat):Int) - 1=((k - 1:Nat):Int) by omega];refine Cz (SqT.of h2) (B3 (by omega) (by omega)) ?_;rw [Int.toNat_natCast];exact q
def B6 (c:Cs):Sp:=λ vs H Q _=>∃ x n rs,∃ e p:Nat,vs=[.ref x,nV e,nV p]/\ClAt c.Cloth H x n rs/\1<=e/\e<=100/\1<=p/\p<=rs.length/\Q (.bl ((rs.getD (p - 1) 0).testBit (e - 1))) H
abbrev Bm:Stmt:=Av (top 25) 6
theorem DT:FnScope ["self","end","pick"] ["self","end","pick"] (Ah Bm):=⟨rfl,rfl,rfl,by decide +kernel,rfl,by decide +kernel,by decide +kernel⟩
theorem DU {f:Addr} {fd:FuncData} (F:Fun K "is_up" "Cloth.is_up" Bm f fd) (T:Txt K mg c) (c_has_number:Au P w K mg base "has_number" 2 ["mask","number"] AW):FnOk P w K mg base CX0 3 f fd ["self","end","pick"] (B6 c):=by
  refine F.ok DT (λ vs H Q E h=> ?_) (λ cdv A outer s H vs Q E hr h=> ?_)
  · obtain ⟨x,n,rs,e,p,rfl,_⟩:=h;rfl
  · obtain ⟨x,n,rs,e,p,rfl,⟨dx,t,h1,h2⟩,e1,e2,p1,p2,k⟩:=h;refine ⟨_,(Af (Al (Ag c_has_number hr (Aa (A8 (Eb (K:=K)) (Dp (K:=K) (pv 0) rfl) (Aj BD (pv 2) Ac) (λ _ _=>rfl)) (Aa (pv 1) Ab))))),?_⟩;walk_at "w";refine ⟨_,_,_,_,_,rfl,h1,T.kd_Cloth.cl,T.na_Cloth_rows,rfl,?_⟩;walk_at "w";refine Cz (SqT.of h2) (B3 (by omega) (by omega)) ?_;walk_at "w";rw [show (((p:Nat):Int) - 1).toNat=p - 1 by omega];exact ⟨_,e,rfl,e1,by omega,k⟩
def BZ (n r:Nat):Nat:=(2 ^ n - 1) ^^^ MM.tOf r n
theorem CH {n r:Nat} (h:r<2 ^ n):BZ n r<2 ^ n:=MM.other_lt (MM.tOf_lt h)
theorem DP {n r i:Nat} (h:r<2 ^ n) (hi:i<n):(BZ n r).testBit i= !r.testBit (n - 1 - i):=by
  unfold BZ;rw [MM.other_bit hi,MM.tOf_bit h hi]
theorem Jc {n r:Nat} (h:r<2 ^ n):BZ n (BZ n r)=r:=by
  refine Nat.eq_of_testBit_eq λ i=> ?_;rcases Nat.lt_or_ge i n with z | z
  · rw [DP (CH h) z,DP h (by omega),Bool.not_not,show n - 1 - (n - 1 - i)=i by omega]
  · have p:2 ^ n<=2 ^ i:=Nat.pow_le_pow_right (by decide) z;rw [Nat.testBit_lt_two_pow (Nat.lt_of_lt_of_le (CH (CH h)) p),Nat.testBit_lt_two_pow (Nat.lt_of_lt_of_le h p)]
theorem Iq {n:Nat} {rs:List Nat} (ok:ClOk n rs):ClOk n (rs.map (BZ n)):=
  ⟨ok.n1,ok.n2,by rw [List.length_map];exact ok.p1,by rw [List.length_map];exact ok.p2,λ r hr=>by
    obtain ⟨q,hq,rfl⟩:=List.mem_map.mp hr;exact CH (ok.lt q hq)⟩
theorem Jf {n:Nat} {rs:List Nat} (ok:ClOk n rs):(rs.map (BZ n)).map (BZ n)=rs:=by
  rw [List.map_map]
  calc rs.map (BZ n∘BZ n)=rs.map id:=List.map_congr_left λ r hr=>Jc (ok.lt r hr)
    _=rs:=List.map_id _
def B7 (c:Cs):Sp:=λ vs H Q _=>∃ x n rs,vs=[.ref x]/\ClAt c.Cloth H x n rs/\ClOk n rs/\∀ H' y,Same H H'->H y=none->ClAt c.Cloth H' y n (rs.map (BZ n))->Q (.ref y) H'
abbrev Bi:Stmt:=top 26
theorem sc_from_behind:FnScope ["cloth","ends"] ["cloth"] (Ah Bi):=⟨rfl,rfl,rfl,by decide +kernel,rfl,by decide +kernel,by decide +kernel⟩
theorem Ed {f:Addr} {fd:FuncData} (F:Fun K "from_behind" "from_behind" Bi f fd) (T:Txt K mg c) (m_Cloth:FP P w K mg base "Cloth" c.Cloth 4 ["self","ends","rows"] (Ar K c)) (d_Cloth_ends:A1 P w K mg base c.Cloth "ends" 1 ["self"] (Bs c)) (c_other_mask:Au P w K mg base "other_mask" 2 ["mask","most"] Cp) (c_turned_mask:Au P w K mg base "turned_mask" 4 ["mask","most"] B0):FnOk P w K mg base CX0 6 f fd ["cloth"] (B7 c):=by
  refine F.ok sc_from_behind (λ vs H Q E h=> ?_) (λ cdv A outer s H vs Q E hr h=> ?_)
  · obtain ⟨x,n,rs,rfl,_⟩:=h;rfl
  · obtain ⟨x,n,rs,rfl,C0,ok,k⟩:=h;have C1:=C0;obtain ⟨dx,t,h1,h2⟩:=C0;have n2:=ok.n2;have p2:=ok.p2;refine ⟨_,(Ad (Ap (i:=1) sc_from_behind.nd rfl (Or.inr rfl) (Bz (pv 0) d_Cloth_ends (hr.mono (by decide))))
      (Af (Al (DG m_Cloth hr J8 (Aa (pv 1) (Aa (Bv (LG (K:=K) (Dp (K:=K) (pv 0) rfl)) (λ _ _ _ _=>Cc) (λ _ _ _ _=>(Ag c_other_mask (hr.mono (by decide)) (Aa (Ag c_turned_mask (hr.mono (by decide)) (Aa (pv 0) (Aa (pv 1) Ab))) (Aa (pv 1) Ab))))) Ab)))))),?_⟩
    walk_at "w";refine ⟨_,_,_,rfl,h1,rfl,?_⟩;walk_at "w";refine ⟨x,n,rs,rfl,C1,?_⟩;walk_at "w";refine ⟨_,_,_,_,_,rfl,h1,T.kd_Cloth.cl,T.na_Cloth_rows,rfl,?_⟩;walk_at "w";refine ⟨t,rfl,⟨_,SqT.of h2⟩,λ D hD=> ?_⟩;refine Bt (G:=λ i=>((BZ n (rs.getD i 0):Nat):Int)) (Jl (SqT.of h2) rfl) hD (by rw [List.length_map];omega) ?_ ?_
    · intro i H' R hi s kk;have hi':i<rs.length:=by simpa using hi
      rw [Bf hi];walk_at "w";refine ⟨_,n,rfl,by omega,ok.lt _ (Fi hi'),λ H2 s2=> ?_⟩;walk_at "w";exact ⟨_,n,rfl,by omega,kk H2 s2⟩
    · intro H1 s1 hl1;rw [GT,List.length_map,AS (BZ n) rs 0] at hl1;walk_at "w";refine GS hl1 (Iq ok) λ H2 y s2 hy C2=> ?_;exact k H2 y (s1.trans s2) (s1.free hy) C2
def Cw (K:PySem.W.Frag):Sp:=λ vs H Q _=>∃ (a:Addr) (ns:List Int) (k:Nat),vs=[.ref a,nV k]/\SqL K H a (ns.map V.int)/\Q (.int (ns.getD k 0)) H
abbrev C6:Stmt:=top 28
theorem F9:FnScope ["_law_script","_law_k"] ["_law_script","_law_k"] (Ah C6):=⟨rfl,rfl,rfl,by decide +kernel,rfl,by decide +kernel,by decide +kernel⟩
theorem Gw {f:Addr} {fd:FuncData} (F:Fun K "_law_at" "_law_at" C6 f fd) (T:Txt K mg c):FnOk P w K mg base CX0 1 f fd ["_law_script","_law_k"] (Cw K):=by
  refine F.ok F9 (λ vs H Q E h=> ?_) (λ cdv A outer s H vs Q E hr h=> ?_)
  · obtain ⟨a,ns,k,rfl,_⟩:=h;rfl
  · obtain ⟨a,ns,k,rfl,sa,q⟩:=h;refine ⟨_,(Ad (AN (A2 Mi (pv 1) (Ak (BN (K:=K)) rfl (T.own _ (by decide)) boot_len (Aa (pv 0) Ab)) (AU _)) (Af (Al (A8 (Dn (K:=K)) (pv 0) (pv 1) (λ _ _=>rfl)))) Aq)
      (Af (Al Ac))),?_⟩
    walk_at "w";refine AT sa ?_;rw [List.length_map];walk_at "w";refine JN (λ h=> ?_) (λ h=> ?_)
    · walk_at "w";refine BS sa (Jn (by omega) (by omega)) ?_;rw [Int.toNat_natCast];exact q
    · walk_at "w";rw [List.getD_eq_getElem?_getD,List.getElem?_eq_none (by omega)] at q;exact q
def Ei (x:Int) (k w:Nat) (way:Int):Nat:=if way=0 then (x%((2 ^ w:Nat):Int)).toNat else (((x*11400714819323198485+((k:Int)+1)*7046029254386353131)%((2 ^ 64:Nat):Int)).toNat) / 2 ^ (64 - w)
theorem IF (x:Int) (k w:Nat) (way:Int) (hw:w<=64):Ei x k w way<2 ^ w:=by
  unfold Ei;split
  · exact Kj x w
  · rw [Nat.div_lt_iff_lt_mul (Nat.two_pow_pos _), <-Nat.pow_add,show w+(64 - w)=64 by omega];exact Kj _ 64
def CT:Sp:=λ vs H Q _=>∃ (x way:Int) (k w:Nat),vs=[.int x,nV k,nV w, .int way]/\k<=1000/\1<=w/\w<=60/\Q (nV (Ei x k w way)) H
abbrev B9:Stmt:=top 29
theorem sc__law_mask:FnScope ["_law_cell","_law_k","_law_wide","_law_way","_law_mixed"] ["_law_cell","_law_k","_law_wide","_law_way"] (Ah B9):=⟨rfl,rfl,rfl,by decide +kernel,rfl,by decide +kernel,by decide +kernel⟩
theorem Fq {f:Addr} {fd:FuncData} (F:Fun K "_law_mask" "_law_mask" B9 f fd) (T:Txt K mg c):FnOk P w K mg base CX0 1 f fd ["_law_cell","_law_k","_law_wide","_law_way"] CT:=by
  refine F.ok sc__law_mask (λ vs H Q E h=> ?_) (λ cdv A outer s H vs Q E hr h=> ?_)
  · obtain ⟨x,way,k,w',rfl,_⟩:=h;rfl
  · obtain ⟨x,way,k,w',rfl,hk,w1,w2,q⟩:=h;unfold Ei at q;refine ⟨_,(Ad (AN (A2 FS (pv 3) Ac (AU _)) (Af (Al (Aj AD (pv 0) (Aj B4 Ac (pv 2))))) Aq)
      (Ad (Ap (i:=4) sc__law_mask.nd rfl (Or.inl rfl) (Aj AD (Aj AG (Aj Eo (pv 0) Ac) (Aj Eo (Aj AG (pv 1) Ac) Ac)) (Aj B4 Ac Ac)))
      (Af (Al (Aj Ba (pv 4) (Aj B4 Ac (Aj BD Ac (pv 2)))))))),?_⟩
    walk_at "w";refine JN (λ h=> ?_) (λ h=> ?_)
    · rw [if_pos h] at q;walk_at "w";refine An ⟨by omega,by omega,by decide⟩ ?_;walk_at "w";rw [DJ];refine An (by have:=Nat.two_pow_pos w';omega) ?_;rw [IK];exact q
    · rw [if_neg h] at q;walk_at "w";refine An (.inr ⟨by decide,by decide⟩) ?_;walk_at "w";refine An (.inr ⟨by decide,by decide⟩) ?_;walk_at "w";refine An ⟨by decide,by decide,by decide⟩ ?_;rw [show (1:Int)*2 ^ Int.toNat 64=((2 ^ 64:Nat):Int) by decide +kernel];walk_at "w";refine An (by decide) ?_;rw [IK];walk_at "w";refine An ⟨by omega,by omega,by decide⟩ ?_;rw [show (64:Int) - (w':Nat)=((64 - w':Nat):Int) by omega,DJ];walk_at "w";refine An ⟨by have:=Nat.two_pow_pos (64 - w');omega,?_⟩ ?_
      · have:2 ^ (64 - w')<=2 ^ 64:=Nat.pow_le_pow_right (by decide) (by omega);omega
      rw [<-Int.natCast_ediv];exact q
def Cr (K:PySem.W.Frag):Sp:=λ vs H Q _=>∃ (a:Addr) (ns:List Int) (n:Nat),vs=[.ref a,nV n]/\SqL K H a (ns.map V.int)/\ns.length<=63/\1<=n/\n<=60/\∀ H' p rs,Same H H'->H p=none->H' p=some (.lst (rs.map nV))->ClOk n rs->Q (.ref p) H'
abbrev BE:Stmt:=top 30
theorem sc__law_masks:FnScope ["_law_script","_law_wide","_law_way","_law_found"] ["_law_script","_law_wide"] (Ah BE):=⟨rfl,rfl,rfl,by decide +kernel,rfl,by decide +kernel,by decide +kernel⟩
theorem ED {f:Addr} {fd:FuncData} (F:Fun K "_law_masks" "_law_masks" BE f fd) (T:Txt K mg c) (c__law_at:Au P w K mg base "_law_at" 1 ["_law_script","_law_k"] (Cw K)) (c__law_mask:Au P w K mg base "_law_mask" 1 ["_law_cell","_law_k","_law_wide","_law_way"] CT):FnOk P w K mg base CX0 2 f fd ["_law_script","_law_wide"] (Cr K):=by
  refine F.ok sc__law_masks (λ vs H Q E h=> ?_) (λ cdv A outer s H vs Q E hr h=> ?_)
  · obtain ⟨a,ns,n,rfl,_⟩:=h;rfl
  · obtain ⟨a,ns,n,rfl,sa,hn,n1,n2,k⟩:=h;have hu:=hr.units0;refine ⟨_,(Ad (Ap (i:=2) sc__law_masks.nd rfl (Or.inr rfl) (Aj AD (Aj Ba (Ag c__law_at hr (Aa (pv 0) (Aa Ac Ab))) Ac) Ac))
      (Ad (Ap (i:=3) sc__law_masks.nd rfl (Or.inr rfl) (FR (K:=K) (GD (K:=K) rfl (T.own _ (by decide)) (Aa (CS (GU (K:=K)) (pv 0) (Cf Ac) (Cf Ac)) Ab)) (λ _ _ _ _=>Cc) (λ _ _ _ _=>(Ag c__law_mask hr (Aa (pv 1) (Aa (pv 0) (Aa (pv 3) (Aa (pv 2) Ab))))))))
      (Ad (AN (A2 (LT hu (K:=K)) (pv 3) (AJ Ab) (AU _)) (Af (Al (AJ (Aa Ac Ab)))) Aq)
      (Ad (AN (A2 FS (pv 2) Ac (AU _)) (Af (Al (Bv (E7 (K:=K) (CS (GU (K:=K)) (pv 0) (Cf Ac) (Cf Ac))) (λ _ _ _ _=>Cc) (λ _ _ _ _=>(A8 (Dn (K:=K)) (pv 1) (Aj AD (Aj AD (Aj Ba (pv 0) Ac) (Ak (BN (K:=K)) rfl (T.own _ (by decide)) boot_len (Aa (pv 1) Ab))) Ac) (λ _ _=>rfl)))))) Aq)
      (Af (Al (pv 3))))))),?_⟩
    walk_at "w";refine ⟨a,ns,0,rfl,sa,?_⟩;walk_at "w";refine An ⟨by decide,by decide⟩ ?_;walk_at "w";refine An (by decide) ?_;generalize ns.getD 0 0 / 60%3=way;walk_at "w";refine Fk sa λ r hr'=> ?_;rw [GI (by decide) (by decide), <-List.map_take, <-List.map_drop];have ht:((ns.take (61:Int).toNat).drop (1:Int).toNat).length<=60:=by
      rw [List.length_drop,List.length_take];have:=Nat.min_le_left (61:Int).toNat ns.length;have:(61:Int).toNat=61:=rfl;have:(1:Int).toNat=1:=rfl;omega
    generalize ets:(ns.take (61:Int).toNat).drop (1:Int).toNat=ts at ht;have s2:=Ai (o:=HO.lst (ts.map V.int)) hr';have h2:upd H r (HO.lst (ts.map V.int)) r=_:=Ae;generalize upd H r (HO.lst (ts.map V.int))=H2 at s2 h2 ⊢;walk_at "w";refine ⟨r,rfl,⟨_,SqL.of h2⟩,λ D hD=> ?_⟩;refine Bt (G:=λ i=>((Ei (ts.getD i 0) i n way:Nat):Int)) (IY (SqL.of h2) rfl rfl) hD (by rw [List.length_map];omega) ?_ ?_
    · intro i H' R hi s kk;have hi':i<ts.length:=by simpa using hi
      rw [DI hi];walk_at "w";exact ⟨_,way,i,n,rfl,by omega,n1,n2,kk H' (Same.refl _)⟩
    intro H3 s3 hl3;have hi3:=hl3;rw [GT,List.length_map] at hl3;generalize er:(List.range ts.length).map (λ i=>Ei (ts.getD i 0) i n way)=fs at hl3;have lf:fs.length=ts.length:=by rw [<-er];simp
    have bf:∀ r∈fs,r<2 ^ n:=λ r hr=>by
      rw [<-er] at hr;obtain ⟨i,_,rfl⟩:=List.mem_map.mp hr;exact IF _ _ _ _ (by omega)
    walk_at "w";intro e he;walk_at "w";have s4:=Ai (o:=HO.lst []) he;have s03:=s2.trans s3;have h4:upd H3 e (HO.lst []) e=some (.lst (([]:List Nat).map nV)):=Ae;generalize upd H3 e (HO.lst [])=H4 at s4 h4 ⊢;have s04:=s03.trans s4;refine JL (as:=(List.range (ts.map V.int).length).map λ i=>((Ei (ts.getD i 0) i n way:Nat):Int)) (bs:=[]) (s4.seq (SqL.of hi3)) (SqL.of h4) ?_;walk_at "w";refine JN (λ hb=> ?_) (λ hb=> ?_)
    · walk_at "w";intro q hq;exact k _ q [0] (s04.trans (Ai hq)) (s04.free hq) Ae ⟨n1,n2,by simp,by simp,λ r hr=>by
        rw [List.mem_singleton.mp hr];exact Nat.two_pow_pos n⟩
    · have hne:1<=ts.length:=by
        rcases Nat.eq_zero_or_pos ts.length with z | z
        · exact absurd (by rw [List.length_map,z];rfl) hb
        · exact z
      walk_at "w";refine JN (λ h=> ?_) (λ h=> ?_)
      · walk_at "w";refine Fk (s04.seq sa) λ r5 hr5=> ?_;rw [GI (by decide) (by decide), <-List.map_take, <-List.map_drop,ets];have s5:=Ai (o:=HO.lst (ts.map V.int)) hr5;have h5:upd H4 r5 (HO.lst (ts.map V.int)) r5=_:=Ae;generalize upd H4 r5 (HO.lst (ts.map V.int))=H5 at s5 h5 ⊢;walk_at "w";refine ⟨r5,rfl,⟨_,SqL.of h5⟩,λ D6 hD6=> ?_⟩;have hf5:=s5 _ _ (s4 _ _ hl3);have hix:∀ x:Int,0<=x / 7%(fs.length:Nat)%4/\x / 7%(fs.length:Nat)%4<(fs.length:Nat):=λ x=>by
          have c0:=Int.emod_nonneg (x / 7) (show ((fs.length:Nat):Int)≠0 by omega);have c1:=Int.emod_lt_of_pos (x / 7) (show (0:Int)<((fs.length:Nat):Int) by omega);omega
        refine Bt (G:=λ i=>((fs.getD (ts.getD i 0 / 7%(fs.length:Nat)%4).toNat 0:Nat):Int)) (CY (SqL.of h5) rfl) hD6 (by rw [List.length_map];omega) ?_ ?_
        · intro i H' R hi s kk;have hi':i<ts.length:=by simpa using hi
          rw [DI hi];walk_at "w";refine An ⟨by decide,by decide⟩ ?_;walk_at "w";refine AT (SqL.of (s _ _ hf5)) ?_;rw [List.length_map];walk_at "w";refine An (by omega) ?_;walk_at "w";refine An (by decide) ?_;refine BS (SqL.of (s _ _ hf5)) (B3 (hix _).1 (hix _).2) ?_;exact kk H' (Same.refl _)
        intro H6 s6 hl6;rw [GT,List.length_map] at hl6;have s06:=s04.trans (s5.trans s6);refine k _ D6 _ s06 ((s04.trans s5).free hD6) hl6 ⟨n1,n2,by simp;omega,by simp;omega,λ r hr=> ?_⟩;obtain ⟨i,hi,rfl⟩:=List.mem_map.mp hr;refine bf _ (Fi ?_);have:=hix (ts.getD i 0);omega
      · walk_at "w";exact k _ D fs s04 (s2.free hD) (s4 _ _ hl3) ⟨n1,n2,by omega,by omega,bf⟩
def Bo:Sp:=λ vs H Q _=>∃ i j:Int,vs=[.int i, .int j]/\Q (.bl (decide (i=j))) H
abbrev BG:Stmt:=top 31
theorem EB:FnScope ["_law_found","_law_due"] ["_law_found","_law_due"] (Ah BG):=⟨rfl,rfl,rfl,by decide +kernel,rfl,by decide +kernel,by decide +kernel⟩
theorem EA {f:Addr} {fd:FuncData} (F:Fun K "_law_whole" "_law_whole" BG f fd) (T:Txt K mg c):FnOk P w K mg base CX0 1 f fd ["_law_found","_law_due"] Bo:=by
  refine F.ok EB (λ vs H Q E h=> ?_) (λ cdv A outer s H vs Q E hr h=> ?_)
  · obtain ⟨i,j,rfl,_⟩:=h;rfl
  · obtain ⟨i,j,rfl,q⟩:=h;refine ⟨_,(Af (Al (DO (Ak (Ca (K:=K)) rfl (T.own _ (by decide)) boot_isinstance (Aa (pv 0) (Aa (CP rfl (T.own _ (by decide)) boot_int) Ab))) (DO (Ge (Ak (Ca (K:=K)) rfl (T.own _ (by decide)) boot_isinstance (Aa (pv 0) (Aa (CP rfl (T.own _ (by decide)) boot_bool) Ab)))) (Ft (DC FS (pv 0) (pv 1) (AU _))))))),?_⟩;walk_at "w";refine AX (.int i) (kb (b:=true) (by decide +kernel)) ?_;walk_at "w";refine AX (.int i) (kb (b:=false) (by decide +kernel)) ?_;walk_at "w";exact q
theorem Jm (m e:Nat):((m:Nat):Int) / ((2 ^ e:Nat):Int)%2=(((m.testBit e).toNat:Nat):Int):=by
  rw [<-MM.bit_div];push_cast;rfl
theorem Jh (b:Bool):decide (((b.toNat:Nat):Int)=1)=b:=by cases b <;> rfl
def Bh:Sp:=λ vs H Q _=>∃ m n:Nat,vs=[nV m,nV n]/\1<=n/\n<=100/\Q (.bl (m.testBit (n - 1))) H
abbrev CB:Stmt:=top 32
theorem FX:FnScope ["_law_mask_here","_law_number"] ["_law_mask_here","_law_number"] (Ah CB):=⟨rfl,rfl,rfl,by decide +kernel,rfl,by decide +kernel,by decide +kernel⟩
theorem F1 {f:Addr} {fd:FuncData} (F:Fun K "_law_bit" "_law_bit" CB f fd) (T:Txt K mg c):FnOk P w K mg base CX0 1 f fd ["_law_mask_here","_law_number"] Bh:=by
  refine F.ok FX (λ vs H Q E h=> ?_) (λ cdv A outer s H vs Q E hr h=> ?_)
  · obtain ⟨m,n,rfl,_⟩:=h;rfl
  · obtain ⟨m,n,rfl,n1,n2,q⟩:=h;refine ⟨_,(Af (Al (DC FS (Aj AD (Aj Ba (pv 0) (Aj B4 Ac (Aj BD (pv 1) Ac))) Ac) Ac (AU _)))),?_⟩;walk_at "w";refine An ⟨by omega,by omega,by decide⟩ ?_;rw [show ((n:Nat):Int) - 1=((n - 1:Nat):Int) by omega,DJ];walk_at "w";refine An ⟨by have:=Nat.two_pow_pos (n - 1);omega,?_⟩ ?_
    · have:2 ^ (n - 1)<=2 ^ 100:=Nat.pow_le_pow_right (by decide) (by omega);have:2 ^ 100<2 ^ 200:=by decide
      omega
    walk_at "w";refine An (by decide) ?_;rw [Jm];walk_at "w";rw [Jh];exact q
def BX:Sp:=λ vs H Q _=>∃ a,∃ rs:List Nat,∃ n:Nat,vs=[.ref a,nV n]/\H a=some (.lst (rs.map nV))/\1<=n/\n<=60/\∀ H',Same H H'->Q (nV (J5 rs n)) H'
abbrev Bk:Stmt:=top 33
theorem sc__law_column:FnScope ["_law_masks_here","_law_number","_law_found","_law_worth","_law_mask_here"] ["_law_masks_here","_law_number"] (Ah Bk):=⟨rfl,rfl,rfl,by decide +kernel,rfl,by decide +kernel,by decide +kernel⟩
theorem DV {f:Addr} {fd:FuncData} (F:Fun K "_law_column" "_law_column" Bk f fd) (T:Txt K mg c) (c__law_bit:Au P w K mg base "_law_bit" 1 ["_law_mask_here","_law_number"] Bh):FnOk P w K mg base CX0 2 f fd ["_law_masks_here","_law_number"] BX:=by
  refine F.ok sc__law_column (λ vs H Q E h=> ?_) (λ cdv A outer s H vs Q E hr h=> ?_)
  · obtain ⟨a,rs,n,rfl,_⟩:=h;rfl
  · obtain ⟨a,rs,n,rfl,ha,n1,n2,k⟩:=h;refine ⟨_,(Ad (Ap (i:=2) sc__law_column.nd rfl (Or.inl rfl) Ac)
      (Ad (Ap (i:=3) sc__law_column.nd rfl (Or.inl rfl) Ac)
      (Ad (C5 PassesOwn.never rfl (E7 (K:=K) (pv 0)) (Bg (i:=4) sc__law_column.nd rfl (Or.inl rfl)) (Ad (AN (Ay (Ag c__law_bit hr (Aa (pv 4) (Aa (pv 1) Ab)))) (Af (Ap (i:=2) sc__law_column.nd rfl (Or.inl rfl) (Aj AG (pv 2) (pv 3)))) Aq)
      (Af (Ap (i:=3) sc__law_column.nd rfl (Or.inl rfl) (Aj AG (pv 3) (pv 3))))))
      (Af (Al (pv 2)))))),?_⟩
    walk_at "w";refine ⟨a,rfl,⟨_,SqL.of ha⟩,Cg (GY (SqL.of ha)) (λ i σ H3=>∃ x,σ=[some (.ref a),some (nV n),some (nV (MM.ofB (λ p=>(rs.getD p 0).testBit (n - 1)) i)),some (nV (2 ^ i)),x]/\Same H H3) ⟨_,rfl,Same.refl _⟩ (λ i σ H3 ⟨_,_,s⟩=>s) ?_ ?_⟩
    · rintro i σ H' H3 hi ⟨x,rfl,s'⟩ s3;have hi':i<rs.length:=by simpa using hi
      have sH:=s'.trans s3;rw [Bf hi];walk_at "w";refine ⟨_,n,rfl,n1,by omega,?_⟩;walk_at "w";have e2:((2 ^ i:Nat):Int)+((2 ^ i:Nat):Int)=((2 ^ (i+1):Nat):Int):=by rw [Nat.pow_succ];omega
      refine Ij (λ hb=> ?_) (λ hb=> ?_)
      · walk_at "w";rw [e2,Mj (f:=λ p=>(rs.getD p 0).testBit (n - 1)) hb];exact ⟨_,rfl,sH⟩
      · walk_at "w";rw [e2,Mc (f:=λ p=>(rs.getD p 0).testBit (n - 1)) hb];exact ⟨_,rfl,sH⟩
    · rintro σ H3 ⟨x,rfl,s3⟩;walk_at "w";rw [List.length_map];exact k H3 s3
def CI (c:Cs):Sp:=λ vs H Q _=>∃ a,vs=[.ref a]/\H a=some (EJ a c.BadCloth none)/\∀ H',Same H H'->Q (.str "cloth") H'
abbrev B1:Stmt:=top 34
theorem sc__law_kind:FnScope ["_law_error","_law_kinds"] ["_law_error"] (Ah B1):=⟨rfl,rfl,rfl,by decide +kernel,rfl,by decide +kernel,by decide +kernel⟩
theorem Fo {f:Addr} {fd:FuncData} (F:Fun K "_law_kind" "_law_kind" B1 f fd) (T:Txt K mg c):FnOk P w K mg base CX0 1 f fd ["_law_error"] (CI c):=by
  refine F.ok sc__law_kind (λ vs H Q E h=> ?_) (λ cdv A outer s H vs Q E hr h=> ?_)
  · obtain ⟨a,rfl,_⟩:=h;rfl
  · obtain ⟨a,rfl,ha,k⟩:=h;refine ⟨_,(Ad (Ap (i:=1) sc__law_kind.nd rfl (Or.inl rfl) (AJ (Aa (Ak (A4 (K:=K)) rfl (T.own _ (by decide)) boot_isinstance (Aa (pv 0) (Aa (Dr T.g_BadCloth) Ab))) (Aa (Ak (A4 (K:=K)) rfl (T.own _ (by decide)) boot_isinstance (Aa (pv 0) (Aa (Dr T.g_BadDraft) Ab))) (Aa (Ak (A4 (K:=K)) rfl (T.own _ (by decide)) boot_isinstance (Aa (pv 0) (Aa (Dr T.g_BadRow) Ab))) Ab)))))
      (Ad (Ap (i:=1) sc__law_kind.nd rfl (Or.inl rfl) (Aj (E9 (K:=K)) (pv 1) (AJ (Aa (Ak (A4 (K:=K)) rfl (T.own _ (by decide)) boot_isinstance (Aa (pv 0) (Aa (Dr T.g_BadWord) Ab))) (Aa (Ak (A4 (K:=K)) rfl (T.own _ (by decide)) boot_isinstance (Aa (pv 0) (Aa (Dr T.g_NotGrown) Ab))) (Aa (Ak (A4 (K:=K)) rfl (T.own _ (by decide)) boot_isinstance (Aa (pv 0) (Aa (Dr T.g_NotPlain) Ab))) Ab))))))
      (Ad (Ap (i:=1) sc__law_kind.nd rfl (Or.inl rfl) (Aj (E9 (K:=K)) (pv 1) (AJ (Aa (Ak (A4 (K:=K)) rfl (T.own _ (by decide)) boot_isinstance (Aa (pv 0) (Aa (Dr T.g_OutOfPlace) Ab))) (Aa (Ak (A4 (K:=K)) rfl (T.own _ (by decide)) boot_isinstance (Aa (pv 0) (Aa (Dr T.g_TooMany) Ab))) Ab)))))
      (Ad (AN (PW.pt (Dj (A2 F4 (J2 (K:=K) PySem.F.plainAttrs_list PySem.F.slot_list_count PySem.F.type_list_count IN (pv 1) (Aa AZ Ab)) Ac (AU _)) (Cy (AB (Ay (Ak (A4 (K:=K)) rfl (T.own _ (by decide)) boot_isinstance (Aa (pv 0) (Aa (CP rfl (T.own _ (by decide)) DA) Ab)))))))) (Af (Al AF)) Aq)
      (Af (Al (A8 (Dn (K:=K)) (AJ (Aa AF (Aa AF (Aa AF (Aa AF (Aa AF (Aa AF (Aa AF (Aa AF Ab))))))))) (J2 (K:=K) PySem.F.plainAttrs_list PySem.F.slot_list_index PySem.F.type_list_index Iv (pv 1) (Aa AZ Ab)) (λ _ _=>rfl)))))))),?_⟩
    walk_at "w";refine AY ha T.xk_BadCloth T.ki_BadCloth_BadCloth ?_;walk_at "w";refine AY ha T.xk_BadCloth T.ki_BadCloth_BadDraft ?_;walk_at "w";refine AY ha T.xk_BadCloth T.ki_BadCloth_BadRow ?_;walk_at "w";intro p hp;have s1:=Ai (o:=HO.lst [V.bl true,V.bl false,V.bl false]) hp;have h1:upd H p (HO.lst [V.bl true,V.bl false,V.bl false]) p=_:=Ae;generalize upd H p (HO.lst [V.bl true,V.bl false,V.bl false])=H1 at s1 h1 ⊢;walk_at "w";refine AY (s1 _ _ ha) T.xk_BadCloth T.ki_BadCloth_BadWord ?_;walk_at "w";refine AY (s1 _ _ ha) T.xk_BadCloth T.ki_BadCloth_NotGrown ?_;walk_at "w";refine AY (s1 _ _ ha) T.xk_BadCloth T.ki_BadCloth_NotPlain ?_;walk_at "w";intro p2 hp2;walk_at "w";have s2:=Ai (o:=HO.lst [V.bl false,V.bl false,V.bl false]) hp2;have h2:upd H1 p2 (HO.lst [V.bl false,V.bl false,V.bl false]) p2=_:=Ae;generalize upd H1 p2 (HO.lst [V.bl false,V.bl false,V.bl false])=H2 at s2 h2 ⊢;refine Dh (SqL.of (s2 _ _ h1)) (SqL.of h2) (by decide) λ q3 hq3=> ?_;have s3:=Ai (o:=HO.lst ([V.bl true,V.bl false,V.bl false]++[V.bl false,V.bl false,V.bl false])) hq3;have h3:upd H2 q3 (HO.lst ([V.bl true,V.bl false,V.bl false]++[V.bl false,V.bl false,V.bl false])) q3=_:=Ae;generalize upd H2 q3 (HO.lst ([V.bl true,V.bl false,V.bl false]++[V.bl false,V.bl false,V.bl false]))=H3 at s3 h3 ⊢;have s13:=s1.trans (s2.trans s3);walk_at "w";refine AY (s13 _ _ ha) T.xk_BadCloth T.ki_BadCloth_OutOfPlace ?_;walk_at "w";refine AY (s13 _ _ ha) T.xk_BadCloth T.ki_BadCloth_TooMany ?_;walk_at "w";intro p4 hp4;walk_at "w";have s4:=Ai (o:=HO.lst [V.bl false,V.bl false]) hp4;have h4:upd H3 p4 (HO.lst [V.bl false,V.bl false]) p4=_:=Ae;generalize upd H3 p4 (HO.lst [V.bl false,V.bl false])=H4 at s4 h4 ⊢;refine Dh (SqL.of (s4 _ _ h3)) (SqL.of h4) (by decide) λ q5 hq5=> ?_;have s5:=Ai (o:=HO.lst (([V.bl true,V.bl false,V.bl false]++[V.bl false,V.bl false,V.bl false])++[V.bl false,V.bl false])) hq5;have h5:upd H4 q5 (HO.lst (([V.bl true,V.bl false,V.bl false]++[V.bl false,V.bl false,V.bl false])++[V.bl false,V.bl false])) q5=_:=Ae;generalize upd H4 q5 (HO.lst (([V.bl true,V.bl false,V.bl false]++[V.bl false,V.bl false,V.bl false])++[V.bl false,V.bl false]))=H5 at s5 h5 ⊢;have s15:=s13.trans (s4.trans s5);walk_at "w";refine tyL (SqL.of h5) ?_;walk_at "w";refine Hg h5 rfl rfl ?_;rw [show (([V.bl true,V.bl false,V.bl false]++[V.bl false,V.bl false,V.bl false])++[V.bl false,V.bl false]).countP (λ y=>eqV y (V.bl true))=1 by decide];walk_at "w";refine Fl ?_;walk_at "w";refine G5 (s15 _ _ ha) T.xk_BadCloth T.ki_BadCloth_ValueError ?_;walk_at "w";intro p6 hp6;walk_at "w";have s6:=Ai (o:=HO.lst [V.str "cloth",V.str "draft",V.str "row",V.str "word",V.str "grown",V.str "plain",V.str "place",V.str "many"]) hp6;refine tyL (SqL.of (s6 _ _ h5)) ?_;walk_at "w";refine G7 0 (s6 _ _ h5) rfl rfl rfl (λ m hm=>by omega) ?_;refine BS (SqL.of Ae) (A3 (j:=0) rfl) ?_;exact k _ (s15.trans s6)
def BP (K:PySem.W.Frag):Sp:=λ vs H Q _=>∃ e r,vs=[e,r]/\ClFit K H e r false/\∀ H',Same H H'->Q (.bl true) H'
abbrev A9:Stmt:=top 35
theorem sc__law_refused:FnScope ["_law_wide","_law_masks_here","_law_error","caught"] ["_law_wide","_law_masks_here"] (Ah A9):=⟨rfl,rfl,rfl,by decide +kernel,rfl,by decide +kernel,by decide +kernel⟩
theorem Dw {f:Addr} {fd:FuncData} (F:Fun K "_law_refused" "_law_refused" A9 f fd) (T:Txt K mg c) (m_Cloth:FP P w K mg base "Cloth" c.Cloth 4 ["self","ends","rows"] (Ar K c)) (c__law_kind:Au P w K mg base "_law_kind" 1 ["_law_error"] (CI c)):FnOk P w K mg base CX0 6 f fd ["_law_wide","_law_masks_here"] (BP K):=by
  refine F.ok sc__law_refused (λ vs H Q E h=> ?_) (λ cdv A outer s H vs Q E hr h=> ?_)
  · obtain ⟨e,r,rfl,_⟩:=h;rfl
  · obtain ⟨e,r,rfl,hf,k⟩:=h;refine ⟨_,(Ad (Ap (i:=2) sc__law_refused.nd rfl (Or.inl rfl) Fp)
      (Ad (Ky (j:=3) rfl rfl T.g_LoomError sc__law_refused.nd rfl rfl (λ _ _ _ hp=>(Af (DE (DG m_Cloth hr hp (Aa (pv 0) (Aa (pv 1) Ab)))))) (λ _ _=>(Af (Ap (i:=2) sc__law_refused.nd rfl (Or.inl rfl) (pv 3)))))
      (Af (Al (DC FS (Ag c__law_kind (hr.mono (by decide)) (Aa (pv 2) Ab)) AF (AU _)))))),?_⟩
    walk_at "w";refine Lx ?_;walk_at "w";refine IA ?_;walk_at "w";refine Lp hf λ H1 s1=>⟨_,rfl,T.xm_BadCloth_LoomError,λ a σ ha hl=> ?_⟩;obtain ⟨x0,x1,x2,x3,rfl⟩:∃ x0 x1 x2 x3,σ=[x0,x1,x2,x3]:=by
      match σ,hl with
      | [x0,x1,x2,x3],_=>exact ⟨x0,x1,x2,x3,rfl⟩
    have s2:=Ai (o:=EJ a c.BadCloth none) ha;walk_at "w";refine K0 ?_;walk_at "w";refine ⟨a,rfl,Ae,λ H2 s3=> ?_⟩;walk_at "w";exact k H2 (s1.trans (s2.trans s3))
def A7 (c:Cs):Sp:=λ vs H Q _=>∃ x n rs a,vs=[.ref x,nV n, .ref a]/\ClAt c.Cloth H x n rs/\H a=some (.lst (rs.map nV))/\rs.length<=60/\∀ H',Same H H'->Q (.bl true) H'
abbrev AR:Stmt:=top 36
theorem sc__law_told_right:FnScope ["_law_cloth","_law_wide","_law_masks_here","_law_found","_law_k","_law_mask_here"] ["_law_cloth","_law_wide","_law_masks_here"] (Ah AR):=⟨rfl,rfl,rfl,by decide +kernel,rfl,by decide +kernel,by decide +kernel⟩
theorem CC {f:Addr} {fd:FuncData} (F:Fun K "_law_told_right" "_law_told_right" AR f fd) (T:Txt K mg c) (c__law_whole:Au P w K mg base "_law_whole" 1 ["_law_found","_law_due"] Bo) (d_Cloth_told:A1 P w K mg base c.Cloth "told" 1 ["self"] (Bp c)) (d_Cloth_row_at:A1 P w K mg base c.Cloth "row_at" 1 ["self","pick"] (BO c)) (d_Cloth_ends:A1 P w K mg base c.Cloth "ends" 1 ["self"] (Bs c)) (d_Cloth_picks:A1 P w K mg base c.Cloth "picks" 1 ["self"] (B5 c)):FnOk P w K mg base CX0 2 f fd ["_law_cloth","_law_wide","_law_masks_here"] (A7 c):=by
  refine F.ok sc__law_told_right (λ vs H Q E h=> ?_) (λ cdv A outer s H vs Q E hr h=> ?_)
  · obtain ⟨x,n,rs,a,rfl,_⟩:=h;rfl
  · obtain ⟨x,n,rs,a,rfl,cl,ha,p2,k⟩:=h;obtain ⟨dx,t,hx,ht⟩:=id cl;refine ⟨_,(Ad (Ap (i:=3) sc__law_told_right.nd rfl (Or.inl rfl) (Bz (pv 0) d_Cloth_told hr))
      (Ad (AN (PW.pt (Dj (AB (Ay (Ak (Ca (K:=K)) rfl (T.own _ (by decide)) boot_isinstance (Aa (pv 3) (Aa (CP rfl (T.own _ (by decide)) Cb) Ab))))) (Dj (A2 F4 (Ak (BN (K:=K)) rfl (T.own _ (by decide)) boot_len (Aa (pv 3) Ab)) Ac (AU _)) (Cy (AB (Ay (Ag c__law_whole hr (Aa (A8 (Eb (K:=K)) (pv 3) Ac (λ _ _=>rfl)) (Aa (pv 1) Ab))))))))) (Af (Al AZ)) Aq)
      (Ad (AN (PW.pt (Dj (AB (Ay (Ak (Ca (K:=K)) rfl (T.own _ (by decide)) boot_isinstance (Aa (A8 (Eb (K:=K)) (pv 3) Ac (λ _ _=>rfl)) (Aa (CP rfl (T.own _ (by decide)) BA) Ab))))) (Cy (A2 F4 (Ak (BN (K:=K)) rfl (T.own _ (by decide)) boot_len (Aa (A8 (Eb (K:=K)) (pv 3) Ac (λ _ _=>rfl)) Ab)) (Ak (BN (K:=K)) rfl (T.own _ (by decide)) boot_len (Aa (pv 2) Ab)) (AU _))))) (Af (Al AZ)) Aq)
      (Ad (C5 PassesOwn.never rfl (GD (K:=K) rfl (T.own _ (by decide)) (Aa (pv 2) Ab)) (Ln (K:=K) rfl (CM (Bg (i:=4) sc__law_told_right.nd rfl (Or.inl rfl)) (CM (Bg (i:=5) sc__law_told_right.nd rfl (Or.inl rfl)) GK))) (Af (AN (PW.pt (Dj (AB (Ay (Ag c__law_whole hr (Aa (A8 (Dn (K:=K)) (A8 (Eb (K:=K)) (pv 3) Ac (λ _ _=>rfl)) (pv 4) (λ _ _=>rfl)) (Aa (pv 5) Ab))))) (Cy (AB (Ay (Ag c__law_whole hr (Aa (DN (pv 0) d_Cloth_row_at hr (Aa (Aj AG (pv 4) Ac) Ab)) (Aa (pv 5) Ab)))))))) (Af (Al AZ)) Aq)))
      (Ad (DE (F6 (K:=K) PySem.F.plainAttrs_list PySem.F.slot_list_clear PySem.F.type_list_clear Fz (A8 (Eb (K:=K)) (pv 3) Ac (λ _ _=>rfl))))
      (Af (Al (DO (Ag c__law_whole hr (Aa (Bz (pv 0) d_Cloth_ends hr) (Aa (pv 1) Ab))) (Ft (Ag c__law_whole hr (Aa (Bz (pv 0) d_Cloth_picks hr) (Aa (Ak (BN (K:=K)) rfl (T.own _ (by decide)) boot_len (Aa (pv 2) Ab)) Ab)))))))))))),?_⟩
    walk_at "w";refine ⟨_,_,_,rfl,hx,rfl,?_⟩;walk_at "w";refine ⟨x,n,rs,rfl,cl,λ H1 p l s1 hp hl e1 e2=> ?_⟩;walk_at "w";refine AX (.tup e1) (kb (b:=true) (by decide +kernel)) ?_;walk_at "w";refine GE (SqT.of e1) ?_;walk_at "w";refine Fl ?_;walk_at "w";refine Cz (v:=nV n) (SqT.of e1) (A3 (j:=0) rfl) ?_;walk_at "w";refine ⟨_,_,rfl,?_⟩;rw [decide_eq_true rfl];walk_at "w";refine Cz (v:= .ref l) (SqT.of e1) (A3 (j:=1) rfl) ?_;walk_at "w";refine AX (.lst e2) (kb (b:=true) (by decide +kernel)) ?_;walk_at "w";refine Cz (v:= .ref l) (SqT.of e1) (A3 (j:=1) rfl) ?_;walk_at "w";refine AT (SqL.of e2) ?_;walk_at "w";refine AT (SqL.of (s1 _ _ ha)) ?_;walk_at "w";rw [decide_eq_true rfl];refine Fl ?_;walk_at "w";have ha1:=s1 _ _ ha;have cl1:=cl.same s1;refine ⟨a,rfl,⟨_,SqL.of ha1⟩,Cg (Jj (SqL.of ha1)) (λ i σ H3=>∃ y z,σ=[some (.ref x),some (nV n),some (.ref a),some (.ref p),y,z]/\Same H1 H3) ⟨_,_,rfl,Same.refl _⟩ (λ i σ H3 ⟨_,_,_,s⟩=>s) ?_ ?_⟩
    · rintro i σ H' H3 hi ⟨y,z,rfl,s'⟩ s3;have hi':i<rs.length:=by simpa using hi
      have sH:=s'.trans s3;rw [Bf hi];walk_at "w";refine Cz (v:= .ref l) (SqT.of (sH _ _ e1)) (A3 (j:=1) rfl) ?_;walk_at "w";refine BS (SqL.of (sH _ _ e2)) (B3 (by omega) (by omega)) ?_;rw [Int.toNat_natCast];walk_at "w";refine ⟨_,_,rfl,?_⟩;rw [decide_eq_true rfl];walk_at "w";refine ⟨_,_,_,rfl,sH _ _ (s1 _ _ hx),rfl,?_⟩;walk_at "w";refine ⟨x,n,rs,i+1,by rw [show ((i:Nat):Int)+1=((i+1:Nat):Int) by omega],cl1.same sH,by omega,by omega,?_⟩;walk_at "w";refine ⟨_,_,rfl,?_⟩;rw [show i+1 - 1=i by omega,decide_eq_true rfl];walk_at "w";exact ⟨_,_,rfl,sH⟩
    · rintro σ H3 ⟨y,z,rfl,s3⟩;walk_at "w";refine Cz (v:= .ref l) (SqT.of (s3 _ _ e1)) (A3 (j:=1) rfl) ?_;refine tyL (SqL.of (s3 _ _ e2)) ?_;walk_at "w";refine HR (s3 _ _ e2) ?_;have s4:Same H (upd H3 l (.lst [])):=λ b o e=>by
        have nb:b≠l:=λ z=>by rw [z,hl] at e;cases e
        rw [Am nb];exact s3 _ _ (s1 _ _ e)
      generalize upd H3 l (HO.lst [])=H4 at s4 ⊢;walk_at "w";refine ⟨_,_,_,rfl,s4 _ _ hx,rfl,?_⟩;walk_at "w";refine ⟨x,n,rs,rfl,cl.same s4,?_⟩;walk_at "w";refine ⟨_,_,rfl,?_⟩;rw [decide_eq_true rfl];walk_at "w";refine ⟨_,_,_,rfl,s4 _ _ hx,rfl,?_⟩;walk_at "w";refine ⟨x,n,rs,rfl,cl.same s4,?_⟩;walk_at "w";refine AT (SqL.of (s4 _ _ ha)) ?_;walk_at "w";refine ⟨_,_,rfl,?_⟩;rw [List.length_map,decide_eq_true rfl];exact k H4 s4
def AL (c:Cs):Sp:=λ vs H Q _=>∃ x n rs a,vs=[.ref x,nV n, .ref a]/\ClAt c.Cloth H x n rs/\ClOk n rs/\H a=some (.lst (rs.map nV))/\∀ H',Same H H'->Q (.bl true) H'
abbrev AA:Stmt:=top 37
theorem sc__law_crossings_right:FnScope ["_law_cloth","_law_wide","_law_masks_here","_law_number","_law_at_here","_law_found"] ["_law_cloth","_law_wide","_law_masks_here"] (Ah AA):=⟨rfl,rfl,rfl,by decide +kernel,rfl,by decide +kernel,by decide +kernel⟩
theorem Bx {f:Addr} {fd:FuncData} (F:Fun K "_law_crossings_right" "_law_crossings_right" AA f fd) (T:Txt K mg c) (c__law_whole:Au P w K mg base "_law_whole" 1 ["_law_found","_law_due"] Bo) (c__law_column:Au P w K mg base "_law_column" 2 ["_law_masks_here","_law_number"] BX) (c__law_bit:Au P w K mg base "_law_bit" 1 ["_law_mask_here","_law_number"] Bh) (d_Cloth_column_at:A1 P w K mg base c.Cloth "column_at" 3 ["self","end"] (Be c)) (d_Cloth_is_up:A1 P w K mg base c.Cloth "is_up" 3 ["self","end","pick"] (B6 c)):FnOk P w K mg base CX0 4 f fd ["_law_cloth","_law_wide","_law_masks_here"] (AL c):=by
  refine F.ok sc__law_crossings_right (λ vs H Q E h=> ?_) (λ cdv A outer s H vs Q E hr h=> ?_)
  · obtain ⟨x,n,rs,a,rfl,_⟩:=h;rfl
  · obtain ⟨x,n,rs,a,rfl,cl,ok,ha,k⟩:=h;obtain ⟨dx,t,hx,ht⟩:=id cl;have n2:=ok.n2;have p1:=ok.p1;have p2:=ok.p2;refine ⟨_,(Ad (C5 PassesOwn.never rfl (Df rfl (T.own _ (by decide)) (Aa Ac (Aa (Aj AG (pv 1) Ac) Ab))) (Bg (i:=3) sc__law_crossings_right.nd rfl (Or.inl rfl)) (Ad (AN (AB (Ay (Ag c__law_whole (hr.mono (by decide)) (Aa (DN (pv 0) d_Cloth_column_at hr (Aa (pv 3) Ab)) (Aa (Ag c__law_column (hr.mono (by decide)) (Aa (pv 2) (Aa (pv 3) Ab))) Ab))))) (Af (Al AZ)) Aq)
      (Ad (Ap (i:=4) sc__law_crossings_right.nd rfl (Or.inl rfl) (Aj AD (Aj AG (Aj Eo (pv 3) Ac) (Ak (BN (K:=K)) rfl (T.own _ (by decide)) boot_len (Aa (pv 2) Ab))) (Ak (BN (K:=K)) rfl (T.own _ (by decide)) boot_len (Aa (pv 2) Ab))))
      (Ad (Ap (i:=5) sc__law_crossings_right.nd rfl (Or.inl rfl) (DN (pv 0) d_Cloth_is_up hr (Aa (pv 3) (Aa (Aj AG (pv 4) Ac) Ab))))
      (Af (AN (PW.pt (Dj (AB (Ay (Ak (Ca (K:=K)) rfl (T.own _ (by decide)) boot_isinstance (Aa (pv 5) (Aa (CP rfl (T.own _ (by decide)) boot_bool) Ab))))) (Cy (A2 F4 (pv 5) (Ag c__law_bit (hr.mono (by decide)) (Aa (A8 (Dn (K:=K)) (pv 2) (pv 4) (λ _ _=>rfl)) (Aa (pv 3) Ab))) (AU _))))) (Af (Al AZ)) Aq))))))
      (Af (Al AZ))),?_⟩
    walk_at "w";refine ⟨_,_,rfl,⟨by decide,by decide,by omega,by omega⟩,?_⟩;rw [show (((n:Nat):Int)+1 - 1).toNat=n by omega];refine Cg Fw (λ i σ H3=>∃ y z u,σ=[some (.ref x),some (nV n),some (.ref a),y,z,u]/\Same H H3) ⟨_,_,_,rfl,Same.refl _⟩ (λ i σ H3 ⟨_,_,_,_,s⟩=>s) ?_ ?_
    · rintro i σ H' H3 hi ⟨y,z,u,rfl,s'⟩ s3;have sH:=s'.trans s3;rw [show (1:Int)+((i:Nat):Int)=((i+1:Nat):Int) by omega];walk_at "w";refine ⟨_,_,_,rfl,sH _ _ hx,rfl,?_⟩;walk_at "w";refine ⟨x,n,rs,i+1,rfl,cl.same sH,p2,by omega,by omega,λ H4 s4=> ?_⟩;walk_at "w";have sH4:=sH.trans s4;refine ⟨a,rs,i+1,rfl,sH4 _ _ ha,by omega,by omega,λ H5 s5=> ?_⟩;walk_at "w";have sH5:=sH4.trans s5;refine ⟨_,_,rfl,?_⟩;rw [decide_eq_true rfl];walk_at "w";refine An (.inr ⟨by decide,by decide⟩) ?_;walk_at "w";refine AT (SqL.of (sH5 _ _ ha)) ?_;walk_at "w";refine AT (SqL.of (sH5 _ _ ha)) ?_;rw [List.length_map];walk_at "w";refine An (by omega) ?_;obtain ⟨j,ej,hj⟩:∃ j:Nat,(((i+1:Nat):Int)*7+(rs.length:Nat))%(rs.length:Nat)=(j:Nat)/\j<rs.length:=by
        have c0:=Int.emod_nonneg (((i+1:Nat):Int)*7+(rs.length:Nat)) (show ((rs.length:Nat):Int)≠0 by omega);have c1:=Int.emod_lt_of_pos (((i+1:Nat):Int)*7+(rs.length:Nat)) (show (0:Int)<((rs.length:Nat):Int) by omega);exact ⟨((((i+1:Nat):Int)*7+(rs.length:Nat))%(rs.length:Nat)).toNat,by omega,by omega⟩
      rw [ej];walk_at "w";refine ⟨_,_,_,rfl,sH5 _ _ hx,rfl,?_⟩;walk_at "w";refine ⟨x,n,rs,i+1,j+1,by rw [show ((j:Nat):Int)+1=((j+1:Nat):Int) by omega],cl.same sH5,by omega,by omega,by omega,by omega,?_⟩;walk_at "w";refine AX (.bl _) (kb (b:=true) (by decide +kernel)) ?_;walk_at "w";refine BS (SqL.of (sH5 _ _ ha)) (B3 (by omega) (by omega)) ?_;rw [Int.toNat_natCast];walk_at "w";refine ⟨_,i+1,rfl,by omega,by omega,?_⟩;rw [show j+1 - 1=j by omega];refine ⟨rfl,?_⟩;rw [decide_eq_true rfl];walk_at "w";exact ⟨_,_,_,rfl,sH5⟩
    · rintro σ H3 ⟨y,z,u,rfl,s3⟩;walk_at "w";exact k H3 s3
def bhN (r:Nat):Nat->Nat
  | 0=>0
  | i+1=>bhN r i*2+(!r.testBit i).toNat
theorem GB (r:Nat):∀ k j,(bhN r k).testBit j=(decide (j<k)&& !r.testBit (k - 1 - j))
  | 0,j=>by simp [bhN]
  | k+1,0=>by
    show (bhN r k*2+(!r.testBit k).toNat).testBit 0=_;rw [Nat.testBit_zero,show k+1 - 1 - 0=k by omega];cases r.testBit k
    · simp
    · simp
  | k+1,j+1=>by
    show (bhN r k*2+(!r.testBit k).toNat).testBit (j+1)=_;have e:(bhN r k*2+(!r.testBit k).toNat) / 2=bhN r k:=by cases r.testBit k <;> simp <;> omega
    rw [Nat.testBit_succ,e,GB r k j,show k+1 - 1 - (j+1)=k - 1 - j by omega];congr 1;rw [decide_eq_decide];omega
theorem K3 {n r:Nat} (h:r<2 ^ n):bhN r n=BZ n r:=by
  refine Nat.eq_of_testBit_eq λ i=> ?_;rw [GB];rcases Nat.lt_or_ge i n with z | z
  · rw [DP h z,decide_eq_true z,Bool.true_and]
  · rw [decide_eq_false (by omega),Bool.false_and,Nat.testBit_lt_two_pow (Nat.lt_of_lt_of_le (CH h) (Nat.pow_le_pow_right (by decide) z))]
def B8:Sp:=λ vs H Q _=>∃ r n:Nat,vs=[nV r,nV n]/\r<2 ^ n/\n<=60/\∀ H',Same H H'->Q (nV (BZ n r)) H'
abbrev Bl:Stmt:=top 38
theorem sc__law_behind:FnScope ["_law_mask_here","_law_wide","_law_found","_law_number"] ["_law_mask_here","_law_wide"] (Ah Bl):=⟨rfl,rfl,rfl,by decide +kernel,rfl,by decide +kernel,by decide +kernel⟩
theorem Eg {f:Addr} {fd:FuncData} (F:Fun K "_law_behind" "_law_behind" Bl f fd) (T:Txt K mg c) (c__law_bit:Au P w K mg base "_law_bit" 1 ["_law_mask_here","_law_number"] Bh):FnOk P w K mg base CX0 2 f fd ["_law_mask_here","_law_wide"] B8:=by
  refine F.ok sc__law_behind (λ vs H Q E h=> ?_) (λ cdv A outer s H vs Q E hr h=> ?_)
  · obtain ⟨r,n,rfl,_⟩:=h;rfl
  · obtain ⟨r,n,rfl,hr',n2,k⟩:=h;refine ⟨_,(Ad (Ap (i:=2) sc__law_behind.nd rfl (Or.inl rfl) Ac)
      (Ad (C5 PassesOwn.never rfl (Df rfl (T.own _ (by decide)) (Aa Ac (Aa (Aj AG (pv 1) Ac) Ab))) (Bg (i:=3) sc__law_behind.nd rfl (Or.inl rfl)) (Af (Ap (i:=2) sc__law_behind.nd rfl (Or.inl rfl) (Aj AG (Aj Eo (pv 2) Ac) (Bw KG rfl (T.own _ (by decide)) boot_int (Aa (Ge (Ag c__law_bit hr (Aa (pv 0) (Aa (pv 3) Ab)))) Ab))))))
      (Af (Al (pv 2))))),?_⟩
    walk_at "w";refine ⟨_,_,rfl,⟨by decide,by decide,by omega,by omega⟩,?_⟩;rw [show (((n:Nat):Int)+1 - 1).toNat=n by omega];refine Cg Fw (λ i σ H3=>∃ y,σ=[some (nV r),some (nV n),some (nV (bhN r i)),y]/\Same H H3) ⟨_,rfl,Same.refl _⟩ (λ i σ H3 ⟨_,_,s⟩=>s) ?_ ?_
    · rintro i σ H' H3 hi ⟨y,rfl,s'⟩ s3;have sH:=s'.trans s3;rw [show (1:Int)+((i:Nat):Int)=((i+1:Nat):Int) by omega];walk_at "w";refine An (.inr ⟨by decide,by decide⟩) ?_;walk_at "w";refine ⟨r,i+1,rfl,by omega,by omega,?_⟩;walk_at "w";refine ⟨_,rfl,?_⟩;walk_at "w";have eb:((bhN r i:Nat):Int)*2+(if (!r.testBit (i+1 - 1))=true then 1 else 0)=((bhN r (i+1):Nat):Int):=by
        rw [show i+1 - 1=i by omega];cases e:r.testBit i <;> simp [bhN,e]
      rw [eb];exact ⟨_,rfl,sH⟩
    · rintro σ H3 ⟨y,rfl,s3⟩;walk_at "w";rw [K3 hr'];exact k H3 s3
theorem Ir:(10:Int) ^ (30:Int).toNat=1000000000000000000000000000000:=by decide +kernel
theorem By {i a b:Int} (h:i<a\/b<i):AH (.int i) a b=false:=by
  show (decide (a<=i)&&decide (i<=b))=false;rw [Bool.and_eq_false_iff,decide_eq_false_iff_not,decide_eq_false_iff_not];omega
def A0:Sp:=λ vs H Q _=>∃ (m n:Nat) (a:Addr) (rs:List Nat),vs=[nV m,nV n, .ref a]/\m<2147483647/\H a=some (.lst (rs.map nV))/\ClOk n rs/\∀ H',Same H H'->Q (.bl true) H'
abbrev AK:Stmt:=top 39
theorem sc__law_odd_refused:FnScope ["_law_number","_law_wide","_law_masks_here","_law_odd","_law_at_here","_law_bad"] ["_law_number","_law_wide","_law_masks_here"] (Ah AK):=⟨rfl,rfl,rfl,by decide +kernel,rfl,by decide +kernel,by decide +kernel⟩
theorem Ck {f:Addr} {fd:FuncData} (F:Fun K "_law_odd_refused" "_law_odd_refused" AK f fd) (T:Txt K mg c) (c__law_refused:Au P w K mg base "_law_refused" 6 ["_law_wide","_law_masks_here"] (BP K)):FnOk P w K mg base CX0 7 f fd ["_law_number","_law_wide","_law_masks_here"] A0:=by
  refine F.ok sc__law_odd_refused (λ vs H Q E h=> ?_) (λ cdv A outer s H vs Q E hr h=> ?_)
  · obtain ⟨m,n,a,rs,rfl,_⟩:=h;rfl
  · obtain ⟨m,n,a,rs,rfl,hm,ha,ok,k⟩:=h;have n1:=ok.n1;have n2:=ok.n2;have p1:=ok.p1;have p2:=ok.p2;refine ⟨_,(Ad (AN (AB (Ay (Ag c__law_refused hr (Aa (A8 (Dn (K:=K)) (AJ (Aa Ac (Aa Ac (Aa (IP Gs Ac) (Aa AZ (Aa Fp (Aa AF (Aa (AJ (Aa (pv 1) Ab)) (Aa (Aj AG Ac (Aj AD (pv 0) (Aj Gg Ac Ac))) Ab))))))))) (Aj AD (pv 0) Ac) (λ _ _=>rfl)) (Aa (pv 2) Ab))))) (Af (Al AZ)) Aq)
      (Ad (Ap (i:=3) sc__law_odd_refused.nd rfl (Or.inl rfl) (A8 (Dn (K:=K)) (AJ (Aa Fp (Aa (Bw (GO (K:=K)) rfl (T.own _ (by decide)) Cb (Aa (pv 2) Ab)) (Aa (AJ Ab) (Aa (Aj (E9 (K:=K)) (pv 2) (Aj KJ (AJ (Aa Ac Ab)) (Aj BD Ac (Ak (BN (K:=K)) rfl (T.own _ (by decide)) boot_len (Aa (pv 2) Ab))))) (Aa IQ (Aa Ac (Aa AF (Aa AZ Ab))))))))) (Aj AD (Aj Ba (pv 0) Ac) Ac) (λ _ _=>rfl)))
      (Ad (AN (AB (Ay (Ag c__law_refused hr (Aa (pv 1) (Aa (pv 3) Ab))))) (Af (Al AZ)) Aq)
      (Ad (Ap (i:=4) sc__law_odd_refused.nd rfl (Or.inl rfl) (Aj AD (Aj Ba (pv 0) Ac) (Ak (BN (K:=K)) rfl (T.own _ (by decide)) boot_len (Aa (pv 2) Ab))))
      (Ad (Ap (i:=5) sc__law_odd_refused.nd rfl (Or.inl rfl) (AJ (Aa (IP Gs Ac) (Aa (Aj B4 Ac (pv 1)) (Aa AZ (Aa Fp (Aa AF (Aa (AJ (Aa Ac Ab)) (Aa (Aj AG (Aj B4 Ac (pv 1)) (Aj AD (pv 0) (Aj Gg Ac Ac))) (Aa (Aj BD (IP Gs Ac) (Aj AD (pv 0) (Aj Gg Ac Ac))) Ab))))))))))
      (Af (Al (Ag c__law_refused hr (Aa (pv 1) (Aa (Aj (E9 (K:=K)) (Aj (E9 (K:=K)) (CS (GU (K:=K)) (pv 2) GJ (Cf (pv 4))) (AJ (Aa (A8 (Dn (K:=K)) (pv 5) (Aj AD (Aj Ba (pv 0) Ac) Ac) (λ _ _=>rfl)) Ab))) (CS (GU (K:=K)) (pv 2) (Cf (Aj AG (pv 4) Ac)) GJ)) Ab)))))))))),?_⟩
    walk_at "w";intro p hp;have s1:=Ai (o:=HO.lst [nV n]) hp;have h1:upd H p (HO.lst [nV n]) p=_:=Ae;generalize upd H p (HO.lst [nV n])=H1 at s1 h1 ⊢;walk_at "w";refine An ⟨by decide,by decide,by decide⟩ ?_;rw [Ir];walk_at "w";refine An (by decide) ?_;have b0:=Int.emod_nonneg (m:Int) (show (1000000000000000000000000000000:Int)≠0 by decide);generalize (m:Int)%1000000000000000000000000000000=M at b0 ⊢;walk_at "w";intro p2 hp2;generalize exs:[V.int 0,V.int 61,V.int (-1),V.bl true,V.non,V.str "5",V.ref p,V.int (61+M)]=xs;have lx:xs.length=8:=by rw [<-exs];rfl
    have s2:=Ai (o:=HO.lst xs) hp2;have h2:upd H1 p2 (HO.lst xs) p2=_:=Ae;generalize upd H1 p2 (HO.lst xs)=H2 at s2 h2 ⊢;have ok2:∀ v∈xs,Ty K H2 v/\AH v 1 60=false:=by
      rw [<-exs];intro v hv;simp only [List.mem_cons,List.not_mem_nil,or_false] at hv;rcases hv with rfl | rfl | rfl | rfl | rfl | rfl | rfl | rfl
      · exact ⟨⟨_, .int _⟩,by decide⟩
      · exact ⟨⟨_, .int _⟩,by decide⟩
      · exact ⟨⟨_, .int _⟩,by decide⟩
      · exact ⟨⟨_, .bl _⟩,rfl⟩
      · exact ⟨⟨_, .non⟩,rfl⟩
      · exact ⟨⟨_, .str _⟩,rfl⟩
      · exact ⟨⟨_, .lst (s2 _ _ h1)⟩,rfl⟩
      · exact ⟨⟨_, .int _⟩,By (.inr (by omega))⟩
    walk_at "w";refine An (by decide) ?_;refine BS (SqL.of h2) (Em (j:=m%8) (by omega) (by omega)) ?_;obtain ⟨t2,a2⟩:=ok2 _ (Ec (y:= .non) (show m%8<xs.length by omega));walk_at "w";refine ⟨_,_,rfl, .ends t2 a2,λ H3 s3=> ?_⟩;have s03:=s1.trans (s2.trans s3);clear h1 s1 ok2 t2 a2 h2 s2 s3 exs lx;walk_at "w";refine FK (SqL.of (s03 _ _ ha)) λ t ht=> ?_;have s4:=Ai (o:=HO.tup (rs.map nV)) ht;have h4:upd H3 t (HO.tup (rs.map nV)) t=_:=Ae;generalize upd H3 t (HO.tup (rs.map nV))=H4 at s4 h4 ⊢;walk_at "w";intro e he;have s5:=Ai (o:=HO.lst []) he;have h5:upd H4 e (HO.lst []) e=_:=Ae;generalize upd H4 e (HO.lst [])=H5 at s5 h5 ⊢;walk_at "w";intro z hz;have s6:=Ai (o:=HO.lst [V.int 0]) hz;have h6:upd H5 z (HO.lst [V.int 0]) z=_:=Ae;generalize upd H5 z (HO.lst [V.int 0])=H6 at s6 h6 ⊢;have s06:=s03.trans (s4.trans (s5.trans s6));walk_at "w";refine AT (SqL.of (s06 _ _ ha)) ?_;rw [List.length_map];walk_at "w";refine Ks h6 (by omega) (by omega) (by decide) λ q hq=> ?_;generalize ezs:(List.replicate (61 - ((rs.length:Nat):Int)).toNat [V.int 0]).flatten=zs;have lz:zs.length=61 - rs.length:=by
      rw [<-ezs];simp
    have s7:=Ai (o:=HO.lst zs) hq;have h7:upd H6 q (HO.lst zs) q=_:=Ae;generalize upd H6 q (HO.lst zs)=H7 at s7 h7 ⊢;have s07:=s06.trans s7;refine Dh (SqL.of (s07 _ _ ha)) (SqL.of h7) (by rw [List.length_map];omega) λ r hr'=> ?_;generalize eys:rs.map nV++zs=ys;have ly:ys.length=61:=by
      rw [<-eys,List.length_append,List.length_map];omega
    have s8:=Ai (o:=HO.lst ys) hr';have h8:upd H7 r (HO.lst ys) r=_:=Ae;generalize upd H7 r (HO.lst ys)=H8 at s8 h8 ⊢;walk_at "w";intro dd hdd;have s9:=Ai (o:=HO.dK []) hdd;have h9:upd H8 dd (HO.dK []) dd=_:=Ae;generalize upd H8 dd (HO.dK [])=H9 at s9 h9 ⊢;walk_at "w";intro p3 hp3;generalize exs:[V.non,V.ref t,V.ref e,V.ref r,V.ref dd,V.int 5,V.str "",V.bl true]=xs;have lx:xs.length=8:=by rw [<-exs];rfl
    have s10:=Ai (o:=HO.lst xs) hp3;have h10:upd H9 p3 (HO.lst xs) p3=_:=Ae;generalize upd H9 p3 (HO.lst xs)=H10 at s10 h10 ⊢;have ok10:∀ v∈xs,ClFit K H10 (.int n) v false:=by
      rw [<-exs];intro v hv;have q4:=s5.trans (s6.trans (s7.trans (s8.trans (s9.trans s10))));have q5:=s6.trans (s7.trans (s8.trans (s9.trans s10)));simp only [List.mem_cons,List.not_mem_nil,or_false] at hv;rcases hv with rfl | rfl | rfl | rfl | rfl | rfl | rfl | rfl
      · exact .kind n1 n2 .non (kb (b:=false) (by decide +kernel))
      · exact .kind n1 n2 (.tup (q4 _ _ h4)) (kb (b:=false) (by decide +kernel))
      · exact .many n1 n2 (q5 _ _ h5) (.inl rfl)
      · exact .many n1 n2 (s10 _ _ (s9 _ _ h8)) (.inr (by omega))
      · exact .kind n1 n2 (.dK (s10 _ _ h9)) (kb (b:=false) (by decide +kernel))
      · exact .kind n1 n2 (.int _) (kb (b:=false) (by decide +kernel))
      · exact .kind n1 n2 (.str _) (kb (b:=false) (by decide +kernel))
      · exact .kind n1 n2 (.bl _) (kb (b:=false) (by decide +kernel))
    walk_at "w";refine An ⟨by decide,by decide⟩ ?_;walk_at "w";refine An (by decide) ?_;refine BS (SqL.of h10) (Em (j:=m / 8%8) (by omega) (by omega)) ?_;have f10:=ok10 _ (Ec (y:= .non) (show m / 8%8<xs.length by omega));walk_at "w";refine ⟨_,_,rfl,f10,λ H11 s11=> ?_⟩;have s011:=s07.trans (s8.trans (s9.trans (s10.trans s11)));generalize xs.getD (m / 8%8) .non=odd;clear f10 ok10 h10 s10 exs lx h9 s9 h8 s8 ly eys h7 s7 lz ezs h6 s6 h5 s5 h4 s4 s06 s07 s03;walk_at "w";refine An ⟨by decide,by decide⟩ ?_;walk_at "w";refine AT (SqL.of (s011 _ _ ha)) ?_;rw [List.length_map];walk_at "w";refine An (by omega) ?_;obtain ⟨j,ej,hj⟩:∃ j:Nat,((m:Nat):Int) / 64%(rs.length:Nat)=(j:Nat)/\j<rs.length:=by
      have c0:=Int.emod_nonneg (((m:Nat):Int) / 64) (show ((rs.length:Nat):Int)≠0 by omega);have c1:=Int.emod_lt_of_pos (((m:Nat):Int) / 64) (show (0:Int)<((rs.length:Nat):Int) by omega);exact ⟨(((m:Nat):Int) / 64%(rs.length:Nat)).toNat,by omega,by omega⟩
    rw [ej];have hpw:=Nat.two_pow_pos n;walk_at "w";refine An ⟨by omega,by omega,by decide⟩ ?_;rw [DJ];walk_at "w";intro z1 hz1;have s12:=Ai (o:=HO.lst [V.int 0]) hz1;have h12:upd H11 z1 (HO.lst [V.int 0]) z1=_:=Ae;generalize upd H11 z1 (HO.lst [V.int 0])=H12 at s12 h12 ⊢;walk_at "w";refine An ⟨by omega,by omega,by decide⟩ ?_;rw [DJ];walk_at "w";refine An ⟨by decide,by decide,by decide⟩ ?_;rw [Ir];walk_at "w";refine An (by decide) ?_;walk_at "w";refine An ⟨by decide,by decide,by decide⟩ ?_;rw [Ir];walk_at "w";refine An (by decide) ?_;have b1:=Int.emod_nonneg (m:Int) (show (1000000000000000000000000000000:Int)≠0 by decide);generalize (m:Int)%1000000000000000000000000000000=M1 at b1 ⊢;walk_at "w";intro p4 hp4;generalize exs:[V.int (-1),V.int ((2 ^ n:Nat):Int),V.bl true,V.non,V.str "1",V.ref z1,V.int (((2 ^ n:Nat):Int)+M1),V.int (-1 - M1)]=xs;have lx:xs.length=8:=by rw [<-exs];rfl
    have s13:=Ai (o:=HO.lst xs) hp4;have h13:upd H12 p4 (HO.lst xs) p4=_:=Ae;generalize upd H12 p4 (HO.lst xs)=H13 at s13 h13 ⊢;have ok13:∀ v∈xs,Ty K H13 v/\AH v 0 ((2 ^ n - 1:Nat):Int)=false:=by
      rw [<-exs];intro v hv;simp only [List.mem_cons,List.not_mem_nil,or_false] at hv;rcases hv with rfl | rfl | rfl | rfl | rfl | rfl | rfl | rfl
      · exact ⟨⟨_, .int _⟩,By (.inl (by decide))⟩
      · exact ⟨⟨_, .int _⟩,By (.inr (by omega))⟩
      · exact ⟨⟨_, .bl _⟩,rfl⟩
      · exact ⟨⟨_, .non⟩,rfl⟩
      · exact ⟨⟨_, .str _⟩,rfl⟩
      · exact ⟨⟨_, .lst (s13 _ _ h12)⟩,rfl⟩
      · exact ⟨⟨_, .int _⟩,By (.inr (by omega))⟩
      · exact ⟨⟨_, .int _⟩,By (.inl (by omega))⟩
    have s013:=s011.trans (s12.trans s13);walk_at "w";refine Fk (SqL.of (s013 _ _ ha)) λ l1 hl1=> ?_;rw [KN (by omega),Int.toNat_natCast, <-List.map_take];have s14:=Ai (o:=HO.lst ((rs.take j).map nV)) hl1;have h14:upd H13 l1 (HO.lst ((rs.take j).map nV)) l1=_:=Ae;generalize upd H13 l1 (HO.lst ((rs.take j).map nV))=H14 at s14 h14 ⊢;walk_at "w";refine An ⟨by decide,by decide⟩ ?_;walk_at "w";refine An (by decide) ?_;refine BS (SqL.of (s14 _ _ h13)) (Em (j:=m / 4096%8) (by omega) (by omega)) ?_;obtain ⟨tv,av⟩:=ok13 _ (Ec (y:= .non) (show m / 4096%8<xs.length by omega));generalize xs.getD (m / 4096%8) .non=v at tv av ⊢;walk_at "w";intro l2 hl2;have s15:=Ai (o:=HO.lst [v]) hl2;have h15:upd H14 l2 (HO.lst [v]) l2=_:=Ae;generalize upd H14 l2 (HO.lst [v])=H15 at s15 h15 ⊢;have lt1:((rs.take j).map nV).length<=60:=by rw [List.length_map,List.length_take];omega
    have lt2:((rs.drop (j+1)).map nV).length<=60:=by rw [List.length_map,List.length_drop];omega
    refine Dh (SqL.of (s15 _ _ h14)) (SqL.of h15) (by simp;omega) λ l3 hl3=> ?_;have s16:=Ai (o:=HO.lst ((rs.take j).map nV++[v])) hl3;have h16:upd H15 l3 (HO.lst ((rs.take j).map nV++[v])) l3=_:=Ae;generalize upd H15 l3 (HO.lst ((rs.take j).map nV++[v]))=H16 at s16 h16 ⊢;have s016:=s013.trans (s14.trans (s15.trans s16));walk_at "w";refine Fk (SqL.of (s016 _ _ ha)) λ l4 hl4=> ?_;rw [HM (by omega),show (((j:Nat):Int)+1).toNat=j+1 by omega, <-List.map_drop];have s17:=Ai (o:=HO.lst ((rs.drop (j+1)).map nV)) hl4;have h17:upd H16 l4 (HO.lst ((rs.drop (j+1)).map nV)) l4=_:=Ae;generalize upd H16 l4 (HO.lst ((rs.drop (j+1)).map nV))=H17 at s17 h17 ⊢;refine Dh (SqL.of (s17 _ _ h16)) (SqL.of h17) (by simp;omega) λ l5 hl5=> ?_;generalize eys:(rs.take j).map nV++[v]++(rs.drop (j+1)).map nV=ys;have ly:ys.length=rs.length:=by
      rw [<-eys];simp;omega
    have s18:=Ai (o:=HO.lst ys) hl5;have h18:upd H17 l5 (HO.lst ys) l5=_:=Ae;generalize upd H17 l5 (HO.lst ys)=H18 at s18 h18 ⊢;have s018:=s016.trans (s17.trans s18);have ty18:∀ x∈ys,Ty K H18 x:=by
      rw [<-eys];intro x hx;simp only [List.mem_append,List.mem_map,List.mem_cons,List.not_mem_nil,or_false] at hx;rcases hx with (⟨r,_,rfl⟩ | rfl) | ⟨r,_,rfl⟩
      · exact ⟨_, .int _⟩
      · exact tv.same (s14.trans (s15.trans (s16.trans (s17.trans s18))))
      · exact ⟨_, .int _⟩
    have f18:ClFit K H18 (.int n) (.ref l5) false:=by
      have e:(ys.all λ x=>AH x 0 ((2 ^ n - 1:Nat):Int))=false:=by
        rw [<-eys,List.all_append,List.all_append,List.all_cons,av];simp
      rw [<-e];exact .rows n1 n2 h18 (by omega) (by omega) ty18
    walk_at "w";exact ⟨_,_,rfl,f18,λ H19 s19=>k H19 (s018.trans s19)⟩
abbrev HJ:Stmt:=top 40
theorem sc_law:FnScope ["_law_script","_law_first","_law_wide","_law_masks_here","_law_handed","_law_cloth","_law_turned","_law_cell"] ["_law_script"] (Ah HJ):=⟨rfl,rfl,rfl,by decide +kernel,rfl,by decide +kernel,by decide +kernel⟩
theorem KP {f:Addr} {fd:FuncData} (F:Fun K "law" "law" HJ f fd) (T:Txt K mg c) (c__law_at:Au P w K mg base "_law_at" 1 ["_law_script","_law_k"] (Cw K)) (c__law_masks:Au P w K mg base "_law_masks" 2 ["_law_script","_law_wide"] (Cr K)) (m_Cloth:FP P w K mg base "Cloth" c.Cloth 4 ["self","ends","rows"] (Ar K c)) (c__law_told_right:Au P w K mg base "_law_told_right" 2 ["_law_cloth","_law_wide","_law_masks_here"] (A7 c)) (c__law_crossings_right:Au P w K mg base "_law_crossings_right" 4 ["_law_cloth","_law_wide","_law_masks_here"] (AL c)) (c_from_behind:Au P w K mg base "from_behind" 6 ["cloth"] (B7 c)) (c__law_behind:Au P w K mg base "_law_behind" 2 ["_law_mask_here","_law_wide"] B8) (d_Cloth_told:A1 P w K mg base c.Cloth "told" 1 ["self"] (Bp c)) (c__law_odd_refused:Au P w K mg base "_law_odd_refused" 7 ["_law_number","_law_wide","_law_masks_here"] A0):FnOk P w K mg base CX0 8 f fd ["_law_script"] (GX K):=by
  refine F.ok sc_law (λ vs H Q E h=> ?_) (λ cdv A outer s H vs Q E hr h=> ?_)
  · obtain ⟨a,ns,rfl,_⟩:=h;rfl
  · obtain ⟨a,ns,rfl,sa,hl,k⟩:=h;refine ⟨_,(Ad (Ap (i:=1) sc_law.nd rfl (Or.inl rfl) (Ag c__law_at (hr.mono (by decide)) (Aa (pv 0) (Aa Ac Ab))))
      (Ad (Ap (i:=2) sc_law.nd rfl (Or.inr rfl) (Aj AG Ac (Aj AD (pv 1) Ac)))
      (Ad (Ap (i:=3) sc_law.nd rfl (Or.inl rfl) (Ag c__law_masks (hr.mono (by decide)) (Aa (pv 0) (Aa (pv 2) Ab))))
      (Ad (Ap (i:=4) sc_law.nd rfl (Or.inl rfl) (Bw (HP (K:=K)) rfl (T.own _ (by decide)) BA (Aa (pv 3) Ab)))
      (Ad (Ap (i:=5) sc_law.nd rfl (Or.inl rfl) (DG m_Cloth (hr.mono (by decide)) J8 (Aa (pv 2) (Aa (pv 4) Ab))))
      (Ad (DE (F6 (K:=K) PySem.F.plainAttrs_list PySem.F.slot_list_clear PySem.F.type_list_clear Fz (pv 4)))
      (Ad (AN (PW.pt (Dj (AB (Ay (Ag c__law_told_right (hr.mono (by decide)) (Aa (pv 5) (Aa (pv 2) (Aa (pv 3) Ab)))))) (Cy (AB (Ay (Ag c__law_crossings_right (hr.mono (by decide)) (Aa (pv 5) (Aa (pv 2) (Aa (pv 3) Ab))))))))) (Af (Al AZ)) Aq)
      (Ad (Ap (i:=6) sc_law.nd rfl (Or.inl rfl) (Ag c_from_behind (hr.mono (by decide)) (Aa (pv 5) Ab)))
      (Ad (AN (AB (Ay (Ag c__law_told_right (hr.mono (by decide)) (Aa (pv 6) (Aa (pv 2) (Aa (Bv (E7 (K:=K) (pv 3)) (λ _ _ _ _=>Cc) (λ _ _ _ _=>(Ag c__law_behind (hr.mono (by decide)) (Aa (pv 0) (Aa (pv 1) Ab))))) Ab)))))) (Af (Al AZ)) Aq)
      (Ad (AN (A2 (KC hr.units) (Bz (Ag c_from_behind (hr.mono (by decide)) (Aa (pv 6) Ab)) d_Cloth_told (hr.mono (by decide))) (HH (Aa (pv 2) (Aa (pv 3) Ab))) (AU _)) (Af (Al AZ)) Aq)
      (Ad (C5 PassesOwn.never rfl (E7 (K:=K) (Aj (E9 (K:=K)) (pv 0) (AJ (Aa (pv 1) Ab)))) (Bg (i:=7) sc_law.nd rfl (Or.inl rfl)) (Af (AN (AB (Ay (Ag c__law_odd_refused hr (Aa (Aj AD (Aj Eo (Aj AD (pv 7) Ac) Ac) Ac) (Aa (pv 2) (Aa (pv 3) Ab)))))) (Af (Al AZ)) Aq)))
      (Af (Al (Ag c__law_told_right (hr.mono (by decide)) (Aa (pv 5) (Aa (pv 2) (Aa (pv 3) Ab))))))))))))))))),?_⟩
    walk_at "w";refine ⟨a,ns,0,rfl,sa,?_⟩;walk_at "w";refine An (by decide) ?_;walk_at "w";obtain ⟨n,en,n1,n2⟩:∃ n:Nat,1+ns.getD 0 0%60=(n:Nat)/\1<=n/\n<=60:=by
      have h0:=Int.emod_nonneg (ns.getD 0 0) (show (60:Int)≠0 by decide);have h1:=Int.emod_lt_of_pos (ns.getD 0 0) (show (0:Int)<60 by decide);exact ⟨(1+ns.getD 0 0%60).toNat,by omega,by omega,by omega⟩
    rw [en];generalize ns.getD 0 0=first;refine ⟨a,ns,n,rfl,sa,hl,n1,n2,λ H1 l rs s1 hl1 e1 ok=> ?_⟩;walk_at "w";refine G0 (SqL.of e1) λ q hq=> ?_;have s2:=Ai (o:=HO.lst (rs.map nV)) hq;have h2:upd H1 q (HO.lst (rs.map nV)) q=_:=Ae;generalize upd H1 q (HO.lst (rs.map nV))=H2 at s2 h2 ⊢;walk_at "w";refine GS (Q:=λ v H3=>AC 5 v _ H3 _) h2 ok λ H3 x s3 hx C3=> ?_;walk_at "w";refine tyL (SqL.of (s3 _ _ h2)) ?_;walk_at "w";refine HR (s3 _ _ h2) ?_;have s4:Same H1 (upd H3 q (.lst [])):=λ b o e=>by
      have nb:b≠q:=λ z=>by rw [z,hq] at e;cases e
      rw [Am nb];exact s3 _ _ (s2 _ _ e)
    have C4:ClAt c.Cloth (upd H3 q (.lst [])) x n rs:=by
      obtain ⟨dx,t,g1,g2⟩:=C3;refine ⟨dx,t,?_,?_⟩
      · rw [Am (HV g1 (s3 _ _ h2) (by intro z;cases z))];exact g1
      · rw [Am (HV g2 (s3 _ _ h2) (by intro z;cases z))];exact g2
    generalize upd H3 q (HO.lst [])=H4 at s4 C4 ⊢;clear C3 s3 h2 s2 hx hq;have p2:=ok.p2;walk_at "w";refine ⟨x,n,rs,l,rfl,C4,s4 _ _ e1,p2,λ H5 s5=> ?_⟩;walk_at "w";refine ⟨x,n,rs,l,rfl,C4.same s5,ok,s5 _ _ (s4 _ _ e1),λ H6 s6=> ?_⟩;walk_at "w";have s46:=s5.trans s6;refine ⟨x,n,rs,rfl,C4.same s46,ok,λ H7 y s7 hy C7=> ?_⟩;walk_at "w";have s47:=s46.trans s7;have e7:=s47 _ _ (s4 _ _ e1);refine ⟨l,rfl,⟨_,SqL.of e7⟩,λ D hD=> ?_⟩;refine Bt (G:=λ i=>((BZ n (rs.getD i 0):Nat):Int)) (CY (SqL.of e7) rfl) hD (by rw [List.length_map];omega) ?_ ?_
    · intro i H' R hi s kk;have hi':i<rs.length:=by simpa using hi
      rw [Bf hi];walk_at "w";exact ⟨_,n,rfl,ok.lt _ (Fi hi'),n2,λ H8 s8=>kk H8 s8⟩
    intro H8 s8 hl8;rw [GT,List.length_map,AS (BZ n) rs 0] at hl8;have ok8:=Iq ok;have C8:=C7.same s8;have s48:=s47.trans s8;walk_at "w";refine ⟨y,n,_,D,rfl,C8,hl8,ok8.p2,λ H9 s9=> ?_⟩;walk_at "w";have s49:=s48.trans s9;have C9:=C8.same s9;refine ⟨y,n,_,rfl,C9,ok8,λ H10 z s10 hz C10=> ?_⟩;rw [Jf ok] at C10;obtain ⟨dz,tz,g1,g2⟩:=id C10;refine ⟨_,_,_,rfl,g1,rfl,?_⟩;walk_at "w";refine ⟨z,n,rs,rfl,C10,λ H11 pt lt s11 hpt hlt q1 q2=> ?_⟩;walk_at "w";intro pE hpE;have s12:=Ai (o:=HO.tup [nV n, .ref l]) hpE;have q12:upd H11 pE (HO.tup [nV n, .ref l]) pE=_:=Ae;generalize upd H11 pE (HO.tup [nV n, .ref l])=H12 at s12 q12 ⊢;have s412:=s49.trans (s10.trans (s11.trans s12));have T1:∀ {H':Hp} {v:Addr} {u:Addr} {N:Nat} {R:List Nat},R.length<=60->H' v=some (.tup [nV N, .ref u])->H' u=some (.lst (R.map nV))->Rp H' FT 2 (.ref v) (.tup [dN N,dL R]):=λ hR h1 h2=>JD h1 (.int _) (NL h2 trivial (by omega));refine ⟨2, .tup [dN n,dL rs], .tup [dN n,dL rs],by decide,T1 p2 (s12 _ _ q1) (s12 _ _ q2),T1 p2 q12 (s412 _ _ (s4 _ _ e1)),rfl,?_⟩;rw [CN,if_pos rfl];walk_at "w";intro v1 hv1;have s13:=Ai (o:=HO.lst [V.int first]) hv1;have h13:upd H12 v1 (HO.lst [V.int first]) v1=_:=Ae;generalize upd H12 v1 (HO.lst [V.int first])=H13 at s13 h13 ⊢;have s413:=s412.trans s13;have s13':=s1.trans (s4.trans s413);refine Dh (s13'.seq sa) (SqL.of h13) (by simp;omega) λ v2 hv2=> ?_;rw [show ns.map V.int++[V.int first]=(ns++[first]).map V.int by simp];have lf:(ns++[first]).length<=64:=by simp;omega
    generalize ns++[first]=fs at lf;have s14:=Ai (o:=HO.lst (fs.map V.int)) hv2;have h14:upd H13 v2 (HO.lst (fs.map V.int)) v2=_:=Ae;generalize upd H13 v2 (HO.lst (fs.map V.int))=H14 at s14 h14 ⊢;have s414:=s413.trans s14;have e14:=s414 _ _ (s4 _ _ e1);have C14:=C4.same s414;refine ⟨v2,rfl,⟨_,SqL.of h14⟩,Cg (GY (SqL.of h14)) (λ i σ H3=>∃ u w,σ=[some (.ref a),some (.int first),some (nV n),some (.ref l),some (.ref q),some (.ref x),w,u]/\Same H14 H3) ⟨_,_,rfl,Same.refl _⟩ (λ i σ H3 ⟨_,_,_,s⟩=>s) ?_ ?_⟩
    · rintro i σ H' H3 hi ⟨u,w',rfl,s'⟩ s3;have sH:=s'.trans s3;rw [DI hi];walk_at "w";refine An (by decide) ?_;walk_at "w";refine An (.inr ⟨by decide,by decide⟩) ?_;walk_at "w";refine An (by decide) ?_;obtain ⟨m,em,hm⟩:∃ m:Nat,fs.getD i 0%1000003*48271%2147483647=(m:Nat)/\m<2147483647:=by
        generalize fs.getD i 0%1000003*48271=Z;have c0:=Int.emod_nonneg Z (show (2147483647:Int)≠0 by decide);have c1:=Int.emod_lt_of_pos Z (show (0:Int)<2147483647 by decide);exact ⟨(Z%2147483647).toNat,by omega,by omega⟩
      rw [em];walk_at "w";refine ⟨m,n,l,rs,rfl,hm,sH _ _ e14,ok,λ H15 s15=> ?_⟩;walk_at "w";exact ⟨_,_,rfl,sH.trans s15⟩
    · rintro σ H3 ⟨u,w',rfl,s3⟩;walk_at "w";exact ⟨x,n,rs,l,rfl,C14.same s3,s3 _ _ e14,p2,λ H15 _=>k H15⟩
end
end K09
namespace K09
open PySem L2 PySem.Spec PyProof.Rows
theorem all_mk {l:PySem.W.OpenLaw} {w:World} {K:PySem.W.Frag} {h:Heap} {mg:Str->Option Value} {fa:Addr} (X:K.In h) (G:h.Ns mainGlobals mg) (hfa:mg "law"=some (.ref fa))
    {C_Cloth C_LoomError C_BadRow C_BadWord C_TooMany C_NotPlain C_NotGrown C_BadDraft C_BadCloth C_OutOfPlace f0 f1 f2 f3 f4 f5 f6 f7 f8 f9 f10 f11 f12 f13 f14 f15 f16 f17 f18 f19 f20 f21 f22 f23 f24 f25 f26 f27 f28 f29 f30:Addr} {d0 d1 d2 d3 d4 d5 d6 d7 d8 d9 d10 d11 d12 d13 d14 d15 d16 d17 d18 d19 d20 d21 d22 d23 d24 d25 d26 d27 d28 d29 d30:FuncData}
    (T0:Txt K mg ⟨C_Cloth,C_LoomError,C_BadRow,C_BadWord,C_TooMany,C_NotPlain,C_NotGrown,C_BadDraft,C_BadCloth,C_OutOfPlace⟩)
    (D0:DefAt K mg "bit_of" DY ["number"] f0 d0)
    (D1:DefAt K mg "mask_of" CZ ["numbers"] f1 d1)
    (D2:DefAt K mg "mask_to" De ["most"] f2 d2)
    (D3:DefAt K mg "has_number" BJ ["mask","number"] f3 d3)
    (D4:DefAt K mg "numbers_of" BF ["mask"] f4 d4)
    (D5:DefAt K mg "other_mask" BC ["mask","most"] f5 d5)
    (D6:DefAt K mg "turned_mask" Bj ["mask","most"] f6 d6)
    (D7:DefAt K mg "is_whole" Cv ["thing"] f7 d7)
    (D8:DefAt K mg "is_among" CD ["thing","least","most"] f8 d8)
    (D9:DefAt K mg "need_cloth" BM ["ends","rows"] f9 d9)
    (j10:Mk K C_Cloth f10)
    (D10:FnA K "__init__" "Cloth.__init__" AV ["self","ends","rows"] f10 d10)
    (j11:Meth K C_Cloth "told" f11)
    (D11:FnA K "told" "Cloth.told" BI ["self"] f11 d11)
    (j12:Meth K C_Cloth "ends" f12)
    (D12:FnA K "ends" "Cloth.ends" BL ["self"] f12 d12)
    (j13:Meth K C_Cloth "picks" f13)
    (D13:FnA K "picks" "Cloth.picks" Bq ["self"] f13 d13)
    (j14:Meth K C_Cloth "column_at" f14)
    (D14:FnA K "column_at" "Cloth.column_at" AO ["self","end"] f14 d14)
    (j15:Meth K C_Cloth "row_at" f15)
    (D15:FnA K "row_at" "Cloth.row_at" Bd ["self","pick"] f15 d15)
    (j16:Meth K C_Cloth "is_up" f16)
    (D16:FnA K "is_up" "Cloth.is_up" Bm ["self","end","pick"] f16 d16)
    (D17:DefAt K mg "from_behind" Bi ["cloth"] f17 d17)
    (D18:DefAt K mg "_law_at" C6 ["_law_script","_law_k"] f18 d18)
    (D19:DefAt K mg "_law_mask" B9 ["_law_cell","_law_k","_law_wide","_law_way"] f19 d19)
    (D20:DefAt K mg "_law_masks" BE ["_law_script","_law_wide"] f20 d20)
    (D21:DefAt K mg "_law_whole" BG ["_law_found","_law_due"] f21 d21)
    (D22:DefAt K mg "_law_bit" CB ["_law_mask_here","_law_number"] f22 d22)
    (D23:DefAt K mg "_law_column" Bk ["_law_masks_here","_law_number"] f23 d23)
    (D24:DefAt K mg "_law_kind" B1 ["_law_error"] f24 d24)
    (D25:DefAt K mg "_law_refused" A9 ["_law_wide","_law_masks_here"] f25 d25)
    (D26:DefAt K mg "_law_told_right" AR ["_law_cloth","_law_wide","_law_masks_here"] f26 d26)
    (D27:DefAt K mg "_law_crossings_right" AA ["_law_cloth","_law_wide","_law_masks_here"] f27 d27)
    (D28:DefAt K mg "_law_behind" Bl ["_law_mask_here","_law_wide"] f28 d28)
    (D29:DefAt K mg "_law_odd_refused" AK ["_law_number","_law_wide","_law_masks_here"] f29 d29)
    (D30:DefAt K mg "law" HJ ["_law_script"] f30 d30)
    (hlb:∀ (s:Shared) (u:Value),BindsTo s d30 ⟨[u],[]⟩ [("_law_script",u)])
    : ∃ fd:FuncData,(∀ (s:Shared) (v:Value),BindsTo s fd ⟨[v],[]⟩ [("_law_script",v)])/\∀ base:Heap,K.In base->base.Ns mainGlobals mg->FnOk l.prog w K mg base CX0 8 fa fd ["_law_script"] (GX K):=by
  cases hfa.symm.trans D30.at';have T:=T0;exact ⟨_,hlb,λ base _ _=>by
    have c_bit_of:=D0.call (He (P:=l.prog) (w:=w) (base:=base) D0.fn T);have c_mask_of:=D1.call (Gt (P:=l.prog) (w:=w) (base:=base) D1.fn T c_bit_of);have c_mask_to:=D2.call (Gc (P:=l.prog) (w:=w) (base:=base) D2.fn T);have c_has_number:=D3.call (EH (P:=l.prog) (w:=w) (base:=base) D3.fn T c_bit_of);have c_numbers_of:=D4.call (EK (P:=l.prog) (w:=w) (base:=base) D4.fn T c_has_number);have c_other_mask:=D5.call (EL (P:=l.prog) (w:=w) (base:=base) D5.fn T c_mask_to);have c_turned_mask:=D6.call (DL (P:=l.prog) (w:=w) (base:=base) D6.fn T c_mask_of c_numbers_of);have c_is_whole:=D7.call (FE (P:=l.prog) (w:=w) (base:=base) D7.fn T);have c_is_among:=D8.call (FH (P:=l.prog) (w:=w) (base:=base) D8.fn T c_is_whole);have c_need_cloth:=D9.callE (EG (P:=l.prog) (w:=w) (base:=base) D9.fn T c_is_among c_mask_to);have m_Cloth:FP l.prog w K mg base "Cloth" C_Cloth 4 ["self","ends","rows"] _:=⟨_,_,T.g_Cloth,j10,CO (P:=l.prog) (w:=w) (base:=base) D10.fn T c_need_cloth,D10.bi⟩;have d_Cloth_told:A1 l.prog w K mg base C_Cloth "told" 1 ["self"] _:=⟨_,_,T.kd_Cloth.cl,j11,Ez (P:=l.prog) (w:=w) (base:=base) D11.fn T,D11.bi⟩;have d_Cloth_ends:A1 l.prog w K mg base C_Cloth "ends" 1 ["self"] _:=⟨_,_,T.kd_Cloth.cl,j12,EF (P:=l.prog) (w:=w) (base:=base) D12.fn T,D12.bi⟩;have d_Cloth_picks:A1 l.prog w K mg base C_Cloth "picks" 1 ["self"] _:=⟨_,_,T.kd_Cloth.cl,j13,Ep (P:=l.prog) (w:=w) (base:=base) D13.fn T,D13.bi⟩;have d_Cloth_column_at:A1 l.prog w K mg base C_Cloth "column_at" 3 ["self","end"] _:=⟨_,_,T.kd_Cloth.cl,j14,Cu (P:=l.prog) (w:=w) (base:=base) D14.fn T c_mask_of c_has_number,D14.bi⟩;have d_Cloth_row_at:A1 l.prog w K mg base C_Cloth "row_at" 1 ["self","pick"] _:=⟨_,_,T.kd_Cloth.cl,j15,Dz (P:=l.prog) (w:=w) (base:=base) D15.fn T,D15.bi⟩;have d_Cloth_is_up:A1 l.prog w K mg base C_Cloth "is_up" 3 ["self","end","pick"] _:=⟨_,_,T.kd_Cloth.cl,j16,DU (P:=l.prog) (w:=w) (base:=base) D16.fn T c_has_number,D16.bi⟩;have c_from_behind:=D17.call (Ed (P:=l.prog) (w:=w) (base:=base) D17.fn T m_Cloth d_Cloth_ends c_other_mask c_turned_mask);have c__law_at:=D18.call (Gw (P:=l.prog) (w:=w) (base:=base) D18.fn T);have c__law_mask:=D19.call (Fq (P:=l.prog) (w:=w) (base:=base) D19.fn T);have c__law_masks:=D20.call (ED (P:=l.prog) (w:=w) (base:=base) D20.fn T c__law_at c__law_mask);have c__law_whole:=D21.call (EA (P:=l.prog) (w:=w) (base:=base) D21.fn T);have c__law_bit:=D22.call (F1 (P:=l.prog) (w:=w) (base:=base) D22.fn T);have c__law_column:=D23.call (DV (P:=l.prog) (w:=w) (base:=base) D23.fn T c__law_bit);have c__law_kind:=D24.call (Fo (P:=l.prog) (w:=w) (base:=base) D24.fn T);have c__law_refused:=D25.call (Dw (P:=l.prog) (w:=w) (base:=base) D25.fn T m_Cloth c__law_kind);have c__law_told_right:=D26.call (CC (P:=l.prog) (w:=w) (base:=base) D26.fn T c__law_whole d_Cloth_told d_Cloth_row_at d_Cloth_ends d_Cloth_picks);have c__law_crossings_right:=D27.call (Bx (P:=l.prog) (w:=w) (base:=base) D27.fn T c__law_whole c__law_column c__law_bit d_Cloth_column_at d_Cloth_is_up);have c__law_behind:=D28.call (Eg (P:=l.prog) (w:=w) (base:=base) D28.fn T c__law_bit);have c__law_odd_refused:=D29.call (Ck (P:=l.prog) (w:=w) (base:=base) D29.fn T c__law_refused);exact KP D30.fn T c__law_at c__law_masks m_Cloth c__law_told_right c__law_crossings_right c_from_behind c__law_behind d_Cloth_told c__law_odd_refused
    ⟩
theorem walk {l:PySem.W.OpenLaw} {q:Program} {loose:List Str} {XP:(Str->Option Value)->Heap->Prop} {YP:World->Heap->Prop} {d:DefRec} {K:Params->PySem.W.Frag} (hn:l.most=some 63) (hdf:d.params.defaults=[])
    (hY:∀ (w:World) (h:Heap),YP w h->(K w.params).In h)
    (F:∀ (w:World) (mg:Str->Option Value) (fa:Addr) (h:Heap),(K w.params).In h->h.Ns mainGlobals mg->mg d.name=some (.ref fa)->
      ∃ fd:FuncData,(∀ (s:Shared) (v:Value),BindsTo s fd ⟨[v],[]⟩ [("_law_script",v)])/\∀ base:Heap,(K w.params).In base->base.Ns mainGlobals mg->FnOk l.prog w (K w.params) mg base CX0 8 fa fd ["_law_script"] (GX (K w.params))):
    PySem.W.WalkO q loose XP YP l.row.toRowW d [] (λ f vs=>PySem.call f vs):=
  L2.walk_of (n:=63) (k:=8) (x:="_law_script") (CX:=λ _=>CX0) (sp:=λ w=>GX (K w.params)) hn (by decide) hdf ⟨rfl,by decide,by decide⟩ hY F (λ _ _ a ns hl _ hS=>⟨a,ns,rfl,hS,hl,λ _=>rfl⟩) λ _ _ _ _ _ z=>z
end K09
open PySem PySem.W PyProof.Rows
set_option maxRecDepth 100000 in
set_option maxHeartbeats 0 in
theorem PySem.Challenge.cw_loomwright_k09_cloths_made_or_refused_holds : PySem.Challenge.rw_loomwright_k09_cloths_made_or_refused.Holds := by
  w_on
  refine PySem.W.holds_law K09.wsaid λ said=> ?_;refine PySem.W.holds_open (q:=K09.view) (loose:=[]) (Xt:=K09.Xt) (XP:=PySem.W.XL K09.view []) (Yf:=(PySem.W.kHook K09.frag K09.addrs K09.addrs_eq).obs) (Ya:=(PySem.W.kHook K09.frag K09.addrs K09.addrs_eq).val) (YP:=(PySem.W.kHook K09.frag K09.addrs K09.addrs_eq).says) (N:=K09.fuel) K09.left (PySem.W.kHook K09.frag K09.addrs K09.addrs_eq).of (PySem.W.kHook K09.frag K09.addrs K09.addrs_eq).keeps (λ s e=>PySem.W.xl_of s (Bool.and_eq_true_iff.mp e).1) PySem.W.XL.keeps (by rfl) (by rfl) (by rfl) (λ s e=>PySem.W.recFacts_of (Bool.and_eq_true_iff.mp e).2) (by rfl) (by first | assumption | decide +kernel) (by first | k_qdec | decide +kernel) ⟨rfl,rfl,rfl,rfl,rfl,by decide +kernel⟩ ?hw ?hc
  (case hw=>w_witness2)
  k_fill
  refine K09.walk (l:=PySem.Challenge.rw_loomwright_k09_cloths_made_or_refused) rfl rfl (λ w h Y=>PySem.W.kIn_of Y) ?F
  case F=>
    intro w mg fa h KX G hmg;refine' K09.all_mk KX G hmg ?T ?_ ?_ ?_ ?_ ?_ ?_ ?_ ?_ ?_ ?_ ?_ ?_ ?_ ?_ ?_ ?_ ?_ ?_ ?_ ?_ ?_ ?_ ?_ ?_ ?_ ?_ ?_ ?_ ?_ ?_ ?_ ?_ ?_ ?_ ?_ ?_ ?_ ?_ ?_
    case T=>
      intros
      constructor
      all_goals try dsimp only
      all_goals try ((with_reducible refine' PySem.W.mg_of KX G ?_);k_is)
      all_goals first
        | ((with_reducible refine' L2.own_cons (PySem.W.mg_none_of KX G ?_) ?_) <;> (repeat' first | (with_reducible exact L2.own_nil) | (with_reducible refine' L2.own_cons (PySem.W.mg_none_of KX G ?_) ?_) | k_is))
        | ((with_reducible first | refine' L2.ci_mk (PySem.W.mg_of KX G ?_) | refine' L2.cs_mk (PySem.W.mg_of KX G ?_)) <;> first | k_is | skip)
        | with_reducible assumption
        | (refine' ⟨⟨?_,?_,?_,?_⟩,?_,?_,?_,?_⟩ <;> k_is)
        | ((with_reducible refine' L2.exc_mk ?_ ?_ ?_ ?_ ?_ ?_ ?_ ?_) <;> k_is)
        | (refine' ⟨?_,?_,?_⟩ <;> first | k_is | kernel_rfl)
        | (unfold L2.NoAttr;k_is)
        | k_is | k_exc | kts_exm | kit_is
    all_goals first
      | (refine' L2.def_mk (PySem.W.mg_of KX G ?_) (L2.fun_mk ?_ ?_ ?_) ?_ <;> first | k_is | exact L2.arg1 λ _=>rfl | exact L2.arg2 λ _ _=>rfl | exact L2.arg3 λ _ _ _=>rfl | exact L2.arg4 λ _ _ _ _=>rfl | exact L2.arg5 λ _ _ _ _ _=>rfl | exact L2.arg6 λ _ _ _ _ _ _=>rfl | exact L2.arg7 λ _ _ _ _ _ _ _=>rfl | exact L2.arg8 λ _ _ _ _ _ _ _ _=>rfl | exact L2.arg9 λ _ _ _ _ _ _ _ _ _=>rfl | skip)
      | (refine' L2.fnA_mk (L2.fun_mk ?_ ?_ ?_) ?_ <;> first | k_is | exact L2.arg1 λ _=>rfl | exact L2.arg2 λ _ _=>rfl | exact L2.arg3 λ _ _ _=>rfl | exact L2.arg4 λ _ _ _ _=>rfl | exact L2.arg5 λ _ _ _ _ _=>rfl | exact L2.arg6 λ _ _ _ _ _ _=>rfl | exact L2.arg7 λ _ _ _ _ _ _ _=>rfl | exact L2.arg8 λ _ _ _ _ _ _ _ _=>rfl | exact L2.arg9 λ _ _ _ _ _ _ _ _ _=>rfl | skip)
      | (refine' ⟨?_,?_,?_,?_⟩;all_goals first | k_is | kernel_rfl | skip)
      | (refine' ⟨?_,?_,?_⟩;all_goals first | k_is | kernel_rfl | skip)
      | k_is
      | exact λ s u=> .of_eq rfl
      | rfl | kernel_rfl | exact List.mem_cons_self | decide | skip
