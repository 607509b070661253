import PyProof.Rows.All
import Wide.All
import OpenK.AllK
import Wide.FinOn
import Lean
import PyProof.EqAt
import PyProof.EqKinds
import PyProof.TupleCall
import PyProof.StrLawsChain
import KE.KIntText
import PyProof.EnumFor
import PyProof.EnumMake
import PyProof.ZipIter
import PyProof.LayNew
import KE.KTurns
import PyProof.Rows.Range3
import KE.KRevSl
import KE.KDictList
import PyProof.Draws
import PyProof.Rows.RuleM_int
import PyProof.Rows.BitMore
import PyProof.NeKinds
import KE.KRevIter
import PyProof.JoinWalk
import KE.KTryMore
import PyProof.ExcArgs
import OpenK.KOwn
import PyProof.ExcBaseAll.ValueError
import KE.KLam
import KE.KNestM
import PySem.Challenge.RW_loomwright_k26_whole_plans_found_again
set_option Elab.async false
set_option linter.all false
set_option maxRecDepth 100000
set_option maxHeartbeats 4000000
namespace L2
open PySem
noncomputable def inClass (s:Stmt) (j:Nat):Stmt:=match s with
  | .ClassDef _ _ _ body _ _ _ _ _ _ _=>body.getD j (.Pass ⟨0,0,0,0⟩)
  | _=> .Pass ⟨0,0,0,0⟩
noncomputable def defArgs (s:Stmt):Arguments:=match s with
  | .FunctionDef _ a _ _ _ _ _ _ _ _=>a
  | _=>{ posonlyargs:=[],args:=[],vararg:=none,kwonlyargs:=[],kw_defaults:=[],kwarg:=none,defaults:=[] }
noncomputable def defBody (s:Stmt):List Stmt:=match s with
  | .FunctionDef _ _ b _ _ _ _ _ _ _=>b
  | _=>[]
noncomputable def defScope (s:Stmt):Scope:=match s with
  | .FunctionDef _ _ _ _ _ _ sc _ _ _=>sc
  | _=>{ kind:= .function,names:=[],isGenerator:=false,isCoroutine:=false }
end L2
namespace K26
open PySem
noncomputable def top (i:Nat):Stmt:=PySem.Challenge.pw_loomwright_k26_whole_plans_found_again.main.body.getD i (.Pass ⟨0,0,0,0⟩)
end K26
namespace HX
open PySem PySem.W PySem.Calls PyProof.Rows
noncomputable def topT (tb:String→Option Builtin) (p:Program) (w:World) (n₀:Nat) (ann:Option Value):Nat→SharedT→Thread→Option SharedT
  | 0,_,_=>none
  | n+1,s,t=>match through t with
    | true=>some s
    | false=>match stepOk n₀ ann t with
      | false=>none
      | true=>match stepT (denote tb) p w s t with
        | some (s',t')=>topT tb p w n₀ ann n s' t'
        | none=>none
theorem topT_of {tb:String→Option Builtin} {p:Program} {w:World} {n₀:Nat} {ann:Option Value}:∀ {n:Nat} {s s':SharedT} {t:Thread},topT tb p w n₀ ann n s t=some s'→topRun tb p w n₀ ann n s.abs t=some s'.abs
  | 0,_,_,_,h=>by cases h
  | n+1,s,s',t,h=>by
    unfold topT at h
    unfold topRun
    cases ht:through t with
    | true=>rw [ht] at h;cases h;rfl
    | false=>
      rw [ht] at h
      cases hk:stepOk n₀ ann t with
      | false=>rw [hk] at h;cases h
      | true=>
        rw [hk] at h
        cases hs:stepT (denote tb) p w s t with
        | none=>rw [hs] at h;cases h
        | some x=>
          obtain ⟨s2,t2⟩:=x
          rw [hs] at h
          dsimp only
          rw [stepT_spec hs]
          exact topT_of h
noncomputable def ofL:List Obj→Nat→BT→BT
  | [],_,t=>t
  | o::r,i,t=>ofL r (i+1) (t.ins i o)
noncomputable def bootT (P:Params):BT:=ofL (boot_heap P).objs.toList 0 .nil
noncomputable def fn0 (name qual:Str) (a:Arguments) (b:List Stmt) (sc:Scope):FuncData:=
  { name,qualname:=qual,params:=a,body:= .stmts b,scope:=sc,globals:=0,closure:=[],defaults:= .none,kwdefaults:= .none }
end HX
namespace HX
open PySem PySem.W PySem.Calls PyProof.Rows
theorem left_run {p q:Program} {loose:List Str} {Xt:Shared→Bool} {α:Type} {Yf:Shared→α} {Ya:World→α} {N:Nat} {g0:Bool}
    (e:opening p=plainProg p.main.scope.names) (hN:Nat.ble 600 N=true) (f:∀ s,fenceModules? p s=some s)
    (hb:∀ P:Params,(absHeap (bootT P) 11 {},boot_drawn,(boot_heap P).isNs mainGlobals,(boot_heap P).objs.size,(boot_heap P).nsMap mainGlobals "__annotations__")=(boot_heap P,boot_drawn,true,11,some (.ref 6)))
    (run:∀ (w:World) (os:OsState),∃ s:Shared,topRun treeTable p w 11 (some (.ref 6)) N (⟨bootT w.params,11,{},Array.mk [],boot_drawn,boot_toks,os⟩:SharedT).abs (topStub p)=some s∧((staticsOk (importedModules p.main.body) (boot_heap w.params) s.heap&&namesBound p s.heap&&gensDone s&&laidKept (boot_heap w.params) s.heap),openSeen q loose (importedModules p.main.body) Xt g0 s,Yf s)=(true,openGood q loose,Ya w)):LeftO p q loose Xt Yf Ya N g0:=fun w=>by
  obtain ⟨⟨h,gs,d,k,os⟩,e1,e'⟩:=Option.map_eq_some_iff.mp (boot_open (p:=p) (N:=N) e hN f w)
  obtain ⟨rfl,rfl,rfl,rfl⟩:h=boot_heap w.params∧gs=Array.mk []∧d=boot_drawn∧k=boot_toks:=by simpa using e'
  have hb':=hb w.params
  simp only [Prod.mk.injEq] at hb'
  obtain ⟨b1,_,b2,b3,b4⟩:=hb'
  obtain ⟨s,r,l⟩:=run w os
  obtain ⟨l1,l2,l3⟩:_∧_∧_:=by simpa only [Prod.mk.injEq] using l
  have b0:(⟨bootT w.params,11,{},Array.mk [],boot_drawn,boot_toks,os⟩:SharedT).abs=⟨boot_heap w.params,Array.mk [],boot_drawn,boot_toks,os⟩:=by
    show (⟨absHeap (bootT w.params) 11 {},_,_,_,_⟩:Shared)=_
    rw [b1]
  rw [b0] at r
  have t:topFrom treeTable p w N ⟨boot_heap w.params,Array.mk [],boot_drawn,boot_toks,os⟩=some s:=by
    unfold topFrom
    dsimp only
    rw [b2,b3,b4]
    show Option.bind (topRun treeTable p w 11 (some (.ref 6)) N ⟨boot_heap w.params,Array.mk [],boot_drawn,boot_toks,os⟩ (topStub p)) _=_
    rw [r]
    show (match staticsOk (importedModules p.main.body) (boot_heap w.params) s.heap&&namesBound p s.heap&&gensDone s&&laidKept (boot_heap w.params) s.heap with | true=>_ | false=>_)=_
    rw [l1]
  unfold openEnds
  rw [e1]
  show (topFrom treeTable p w N _).map _=_
  rw [t]
  exact congrArg some (Prod.ext l2 l3)
theorem three {α β γ:Type} {a a':α} {b b':β} {c c':γ} (h:(a,c)=(a',c')) (k:b=b'):(a,b,c)=(a',b',c'):=by
  cases h
  cases k
  rfl
theorem hb (P:Params):(absHeap (bootT P) 11 {},boot_drawn,(boot_heap P).isNs mainGlobals,(boot_heap P).objs.size,(boot_heap P).nsMap mainGlobals "__annotations__")=(boot_heap P,boot_drawn,true,11,some (.ref 6)):=by kernel_rfl
end HX
namespace K26
open PySem L2 PySem.W PySem.Calls PyProof.Rows
noncomputable abbrev Ob:=Params→Obj
noncomputable abbrev dE (P:Params) (s:Str) (t:Tok) (v:Value):DictEntry:=⟨PyData.keyHash P s, .str s t,v⟩
noncomputable abbrev dR (P:Params) (s:Str) (t:Tok) (a:Addr):DictEntry:=⟨PyData.keyHash P s, .str s t, .ref a⟩
noncomputable abbrev tu (xs:Array Value):Obj:=⟨.type "tuple",none, .seq xs 0, #[]⟩
noncomputable abbrev di (es:Array DictEntry) (n:Nat):Obj:=⟨.type "dict",none, .dict es n, #[]⟩
noncomputable abbrev f0 (n q:Str) (st:Stmt):FuncData:=HX.fn0 n q (defArgs st) (defBody st) (defScope st)
noncomputable abbrev fo (n q:Str) (st:Stmt) (m:Str) (t:Tok) (c:Addr):Obj:=⟨.type "function",none, .func (fnOf n q (defArgs st) (defBody st) (defScope st) .none .none .none (.str m t) none (.ref c) .none), #[]⟩
noncomputable abbrev co (n q:Str) (t:Tok) (l ac nl:Int) (a:Addr) (b:Bool) (r:Addr) (c d e:Value) (k:Int) (t4:Tok):Obj:=⟨.type "code",none, .fields #[.str n t, .str q (t+1), .str "/claim/cut.py" (t+2), .int l 0, .int ac 0, .int 0 0, .int 0 0, .int nl 0, .ref a, .bool b, .int 181 0, .ref r, .none,c,d,e, .int k 0, .int l 0, .str "/claim/cut.py" t4], #[]⟩
noncomputable def o3:Ob:=fun P=>di #[dE P "__name__" 165 (.str "law_loomwright_k26_whole_plans_found_again" 567),dE P "__doc__" 166 .none,dE P "__package__" 167 .none,dE P "__loader__" 168 (.builtin "__main__.__loader__#opaque"),dE P "__spec__" 169 .none,dR P "__annotations__" 170 6,dR P "__builtins__" 171 4,dE P "__file__" 173 (.str "/claim/cut.py" 172),dE P "__cached__" 174 .none,dR P "_wall" 193 21,dE P "MOST_ENDS" 195 (.int 60 194),dE P "MOST_PICKS" 197 (.int 60 196),dR P "LoomError" 217 31,dR P "BadRow" 244 51,dR P "BadWord" 269 70,dR P "TooMany" 296 89,dR P "NotPlain" 323 108,dR P "NotGrown" 350 127,dR P "BadDraft" 366 139,dR P "BadCloth" 382 151,dR P "OutOfPlace" 398 163,dR P "bit_of" 407 172,dR P "mask_of" 416 179,dR P "mask_to" 423 186,dR P "is_whole" 432 193,dR P "is_among" 441 200,dR P "need_cloth" 449 205,dR P "Cloth" 526 264,dR P "need_like_sizes" 536 275,dR P "rows_at" 542 280,dR P "is_on" 554 287,dR P "plan_row" 560 292,dR P "plan_of" 566 297,dR P "_law_mixed" 576 304,dR P "_law_kinds" 582 309,dR P "_law_whole" 588 314,dR P "_law_up" 597 321,dR P "_law_caught" 606 328,dR P "_law_grown" 622 335,dR P "_law_due" 628 340,dR P "_law_right" 644 347,dR P "_law_blocks" 650 352,dR P "_law_refused" 662 359,dR P "_law_all_refused" 677 366,dR P "_law_cut_refused" 683 371,dR P "law" 689 376] 46
noncomputable def o15:Ob:=fun P=>tu #[]
noncomputable def o17:Ob:=fun P=>tu #[(.str "k" 190)]
noncomputable def o18:Ob:=fun P=>tu #[]
noncomputable def o20:Ob:=fun P=>co "_wall" "_wall" 187 1 1 3 15 true 16 (.ref 17) (.ref 18) (.ref 19) 191 192
noncomputable def o21:Ob:=fun P=>fo "_wall" "_wall" (top 0) "__main__" 164 20
noncomputable def o22:Ob:=fun P=>tu #[(.type "ValueError")]
noncomputable def o29:Ob:=fun P=>tu #[]
noncomputable def o30:Ob:=fun P=>di #[dE P "__module__" 207 (.str "loomwright.errors" 198),dE P "__firstlineno__" 211 (.int 7 210),dR P "__static_attributes__" 212 29,dR P "__weakref__" 214 32,dE P "__doc__" 215 .none] 3
noncomputable def o31:Ob:=fun P=>⟨(.type "type"),none,(.cls ⟨"LoomError",[(.type "ValueError")],[(.ref 31),(.type "ValueError"),(.type "Exception"),(.type "BaseException"),(.type "object")],30,"LoomError",true,[],[(.ref 51),(.ref 70),(.ref 89),(.ref 108),(.ref 127),(.ref 139),(.ref 151),(.ref 163)],false,none,false⟩), #[(some (.ref 22)),none,(some (.str "LoomError" 200)),(some (.str "LoomError" 208)),(some (.builtin "ValueError.__new__")),(some (.bool true))]⟩
noncomputable def o32:Ob:=fun P=>⟨(.type "getset_descriptor"),none,(.fields #[(.str "__weakref__" 213),(.ref 31),(.builtin "ExceptionGroup.__weakref__"), .none]), #[]⟩
noncomputable def o35:Ob:=fun P=>tu #[(.ref 31)]
noncomputable def o42:Ob:=fun P=>tu #[]
noncomputable def o44:Ob:=fun P=>tu #[(.str "self" 233),(.str "row" 234),(.str "word" 235)]
noncomputable def o45:Ob:=fun P=>tu #[]
noncomputable def o47:Ob:=fun P=>co "__init__" "BadRow.__init__" 230 11 3 3 42 true 43 (.ref 44) (.ref 45) (.ref 46) 236 237
noncomputable def o48:Ob:=fun P=>fo "__init__" "BadRow.__init__" (inClass (top 5) 0) "loomwright.errors" 198 47
noncomputable def o49:Ob:=fun P=>tu #[(.str "row" 239),(.str "word" 240)]
noncomputable def o50:Ob:=fun P=>di #[dE P "__module__" 225 (.str "loomwright.errors" 198),dE P "__firstlineno__" 229 (.int 9 228),dR P "__init__" 238 48,dR P "__static_attributes__" 241 49,dE P "__doc__" 242 .none] 2
noncomputable def o51:Ob:=fun P=>⟨(.type "type"),none,(.cls ⟨"BadRow",[(.ref 31)],[(.ref 51),(.ref 31),(.type "ValueError"),(.type "Exception"),(.type "BaseException"),(.type "object")],50,"BadRow",true,[],[],false,none,false⟩), #[(some (.ref 35)),none,(some (.str "BadRow" 218)),(some (.str "BadRow" 226)),(some (.builtin "ValueError.__new__")),(some (.bool true))]⟩
noncomputable def o54:Ob:=fun P=>tu #[(.ref 31)]
noncomputable def o61:Ob:=fun P=>tu #[]
noncomputable def o63:Ob:=fun P=>tu #[(.str "self" 260),(.str "place" 261)]
noncomputable def o64:Ob:=fun P=>tu #[]
noncomputable def o66:Ob:=fun P=>co "__init__" "BadWord.__init__" 257 17 2 3 61 true 62 (.ref 63) (.ref 64) (.ref 65) 262 263
noncomputable def o67:Ob:=fun P=>fo "__init__" "BadWord.__init__" (inClass (top 6) 0) "loomwright.errors" 198 66
noncomputable def o68:Ob:=fun P=>tu #[(.str "place" 265)]
noncomputable def o69:Ob:=fun P=>di #[dE P "__module__" 252 (.str "loomwright.errors" 198),dE P "__firstlineno__" 256 (.int 15 255),dR P "__init__" 264 67,dR P "__static_attributes__" 266 68,dE P "__doc__" 267 .none] 2
noncomputable def o70:Ob:=fun P=>⟨(.type "type"),none,(.cls ⟨"BadWord",[(.ref 31)],[(.ref 70),(.ref 31),(.type "ValueError"),(.type "Exception"),(.type "BaseException"),(.type "object")],69,"BadWord",true,[],[],false,none,false⟩), #[(some (.ref 54)),none,(some (.str "BadWord" 245)),(some (.str "BadWord" 253)),(some (.builtin "ValueError.__new__")),(some (.bool true))]⟩
noncomputable def o73:Ob:=fun P=>tu #[(.ref 31)]
noncomputable def o80:Ob:=fun P=>tu #[]
noncomputable def o82:Ob:=fun P=>tu #[(.str "self" 285),(.str "what" 286),(.str "many" 287)]
noncomputable def o83:Ob:=fun P=>tu #[]
noncomputable def o85:Ob:=fun P=>co "__init__" "TooMany.__init__" 282 22 3 3 80 true 81 (.ref 82) (.ref 83) (.ref 84) 288 289
noncomputable def o86:Ob:=fun P=>fo "__init__" "TooMany.__init__" (inClass (top 7) 0) "loomwright.errors" 198 85
noncomputable def o87:Ob:=fun P=>tu #[(.str "many" 291),(.str "what" 292)]
noncomputable def o88:Ob:=fun P=>di #[dE P "__module__" 277 (.str "loomwright.errors" 198),dE P "__firstlineno__" 281 (.int 20 280),dR P "__init__" 290 86,dR P "__static_attributes__" 293 87,dE P "__doc__" 294 .none] 2
noncomputable def o89:Ob:=fun P=>⟨(.type "type"),none,(.cls ⟨"TooMany",[(.ref 31)],[(.ref 89),(.ref 31),(.type "ValueError"),(.type "Exception"),(.type "BaseException"),(.type "object")],88,"TooMany",true,[],[],false,none,false⟩), #[(some (.ref 73)),none,(some (.str "TooMany" 270)),(some (.str "TooMany" 278)),(some (.builtin "ValueError.__new__")),(some (.bool true))]⟩
noncomputable def o92:Ob:=fun P=>tu #[(.ref 31)]
noncomputable def o99:Ob:=fun P=>tu #[]
noncomputable def o101:Ob:=fun P=>tu #[(.str "self" 312),(.str "what" 313),(.str "number" 314)]
noncomputable def o102:Ob:=fun P=>tu #[]
noncomputable def o104:Ob:=fun P=>co "__init__" "NotPlain.__init__" 309 28 3 3 99 true 100 (.ref 101) (.ref 102) (.ref 103) 315 316
noncomputable def o105:Ob:=fun P=>fo "__init__" "NotPlain.__init__" (inClass (top 8) 0) "loomwright.errors" 198 104
noncomputable def o106:Ob:=fun P=>tu #[(.str "number" 318),(.str "what" 319)]
noncomputable def o107:Ob:=fun P=>di #[dE P "__module__" 304 (.str "loomwright.errors" 198),dE P "__firstlineno__" 308 (.int 26 307),dR P "__init__" 317 105,dR P "__static_attributes__" 320 106,dE P "__doc__" 321 .none] 2
noncomputable def o108:Ob:=fun P=>⟨(.type "type"),none,(.cls ⟨"NotPlain",[(.ref 31)],[(.ref 108),(.ref 31),(.type "ValueError"),(.type "Exception"),(.type "BaseException"),(.type "object")],107,"NotPlain",true,[],[],false,none,false⟩), #[(some (.ref 92)),none,(some (.str "NotPlain" 297)),(some (.str "NotPlain" 305)),(some (.builtin "ValueError.__new__")),(some (.bool true))]⟩
noncomputable def o111:Ob:=fun P=>tu #[(.ref 31)]
noncomputable def o118:Ob:=fun P=>tu #[]
noncomputable def o120:Ob:=fun P=>tu #[(.str "self" 339),(.str "row" 340),(.str "column" 341)]
noncomputable def o121:Ob:=fun P=>tu #[]
noncomputable def o123:Ob:=fun P=>co "__init__" "NotGrown.__init__" 336 34 3 3 118 true 119 (.ref 120) (.ref 121) (.ref 122) 342 343
noncomputable def o124:Ob:=fun P=>fo "__init__" "NotGrown.__init__" (inClass (top 9) 0) "loomwright.errors" 198 123
noncomputable def o125:Ob:=fun P=>tu #[(.str "column" 345),(.str "row" 346)]
noncomputable def o126:Ob:=fun P=>di #[dE P "__module__" 331 (.str "loomwright.errors" 198),dE P "__firstlineno__" 335 (.int 32 334),dR P "__init__" 344 124,dR P "__static_attributes__" 347 125,dE P "__doc__" 348 .none] 2
noncomputable def o127:Ob:=fun P=>⟨(.type "type"),none,(.cls ⟨"NotGrown",[(.ref 31)],[(.ref 127),(.ref 31),(.type "ValueError"),(.type "Exception"),(.type "BaseException"),(.type "object")],126,"NotGrown",true,[],[],false,none,false⟩), #[(some (.ref 111)),none,(some (.str "NotGrown" 324)),(some (.str "NotGrown" 332)),(some (.builtin "ValueError.__new__")),(some (.bool true))]⟩
noncomputable def o130:Ob:=fun P=>tu #[(.ref 31)]
noncomputable def o137:Ob:=fun P=>tu #[]
noncomputable def o138:Ob:=fun P=>di #[dE P "__module__" 358 (.str "loomwright.errors" 198),dE P "__firstlineno__" 362 (.int 38 361),dR P "__static_attributes__" 363 137,dE P "__doc__" 364 .none] 2
noncomputable def o139:Ob:=fun P=>⟨(.type "type"),none,(.cls ⟨"BadDraft",[(.ref 31)],[(.ref 139),(.ref 31),(.type "ValueError"),(.type "Exception"),(.type "BaseException"),(.type "object")],138,"BadDraft",true,[],[],false,none,false⟩), #[(some (.ref 130)),none,(some (.str "BadDraft" 351)),(some (.str "BadDraft" 359)),(some (.builtin "ValueError.__new__")),(some (.bool true))]⟩
noncomputable def o142:Ob:=fun P=>tu #[(.ref 31)]
noncomputable def o149:Ob:=fun P=>tu #[]
noncomputable def o150:Ob:=fun P=>di #[dE P "__module__" 374 (.str "loomwright.errors" 198),dE P "__firstlineno__" 378 (.int 40 377),dR P "__static_attributes__" 379 149,dE P "__doc__" 380 .none] 2
noncomputable def o151:Ob:=fun P=>⟨(.type "type"),none,(.cls ⟨"BadCloth",[(.ref 31)],[(.ref 151),(.ref 31),(.type "ValueError"),(.type "Exception"),(.type "BaseException"),(.type "object")],150,"BadCloth",true,[],[],false,none,false⟩), #[(some (.ref 142)),none,(some (.str "BadCloth" 367)),(some (.str "BadCloth" 375)),(some (.builtin "ValueError.__new__")),(some (.bool true))]⟩
noncomputable def o154:Ob:=fun P=>tu #[(.ref 31)]
noncomputable def o161:Ob:=fun P=>tu #[]
noncomputable def o162:Ob:=fun P=>di #[dE P "__module__" 390 (.str "loomwright.errors" 198),dE P "__firstlineno__" 394 (.int 42 393),dR P "__static_attributes__" 395 161,dE P "__doc__" 396 .none] 2
noncomputable def o163:Ob:=fun P=>⟨(.type "type"),none,(.cls ⟨"OutOfPlace",[(.ref 31)],[(.ref 163),(.ref 31),(.type "ValueError"),(.type "Exception"),(.type "BaseException"),(.type "object")],162,"OutOfPlace",true,[],[],false,none,false⟩), #[(some (.ref 154)),none,(some (.str "OutOfPlace" 383)),(some (.str "OutOfPlace" 391)),(some (.builtin "ValueError.__new__")),(some (.bool true))]⟩
noncomputable def o166:Ob:=fun P=>tu #[]
noncomputable def o168:Ob:=fun P=>tu #[(.str "number" 404)]
noncomputable def o169:Ob:=fun P=>tu #[]
noncomputable def o171:Ob:=fun P=>co "bit_of" "bit_of" 401 45 1 3 166 true 167 (.ref 168) (.ref 169) (.ref 170) 405 406
noncomputable def o172:Ob:=fun P=>fo "bit_of" "bit_of" (top 14) "loomwright.masks" 399 171
noncomputable def o173:Ob:=fun P=>tu #[]
noncomputable def o175:Ob:=fun P=>tu #[(.str "numbers" 411),(.str "mask" 412),(.str "number" 413)]
noncomputable def o176:Ob:=fun P=>tu #[]
noncomputable def o178:Ob:=fun P=>co "mask_of" "mask_of" 408 47 1 3 173 true 174 (.ref 175) (.ref 176) (.ref 177) 414 415
noncomputable def o179:Ob:=fun P=>fo "mask_of" "mask_of" (top 15) "loomwright.masks" 399 178
noncomputable def o180:Ob:=fun P=>tu #[]
noncomputable def o182:Ob:=fun P=>tu #[(.str "most" 420)]
noncomputable def o183:Ob:=fun P=>tu #[]
noncomputable def o185:Ob:=fun P=>co "mask_to" "mask_to" 417 52 1 3 180 true 181 (.ref 182) (.ref 183) (.ref 184) 421 422
noncomputable def o186:Ob:=fun P=>fo "mask_to" "mask_to" (top 16) "loomwright.masks" 399 185
noncomputable def o187:Ob:=fun P=>tu #[]
noncomputable def o189:Ob:=fun P=>tu #[(.str "thing" 429)]
noncomputable def o190:Ob:=fun P=>tu #[]
noncomputable def o192:Ob:=fun P=>co "is_whole" "is_whole" 426 55 1 3 187 true 188 (.ref 189) (.ref 190) (.ref 191) 430 431
noncomputable def o193:Ob:=fun P=>fo "is_whole" "is_whole" (top 18) "loomwright.words" 424 192
noncomputable def o194:Ob:=fun P=>tu #[]
noncomputable def o196:Ob:=fun P=>tu #[(.str "thing" 436),(.str "least" 437),(.str "most" 438)]
noncomputable def o197:Ob:=fun P=>tu #[]
noncomputable def o199:Ob:=fun P=>co "is_among" "is_among" 433 57 3 3 194 true 195 (.ref 196) (.ref 197) (.ref 198) 439 440
noncomputable def o200:Ob:=fun P=>fo "is_among" "is_among" (top 19) "loomwright.words" 424 199
noncomputable def o201:Ob:=fun P=>tu #[]
noncomputable def o204:Ob:=fun P=>co "need_cloth" "need_cloth" 444 60 2 3 201 true 202 .none .none (.ref 203) 447 448
noncomputable def o205:Ob:=fun P=>fo "need_cloth" "need_cloth" (top 21) "loomwright.cloth" 442 204
noncomputable def o213:Ob:=fun P=>tu #[]
noncomputable def o215:Ob:=fun P=>tu #[(.str "self" 465),(.str "ends" 466),(.str "rows" 467)]
noncomputable def o216:Ob:=fun P=>tu #[]
noncomputable def o218:Ob:=fun P=>co "__init__" "Cloth.__init__" 462 69 3 3 213 true 214 (.ref 215) (.ref 216) (.ref 217) 468 469
noncomputable def o219:Ob:=fun P=>fo "__init__" "Cloth.__init__" (inClass (top 22) 0) "loomwright.cloth" 442 218
noncomputable def o220:Ob:=fun P=>tu #[]
noncomputable def o222:Ob:=fun P=>tu #[(.str "self" 474)]
noncomputable def o223:Ob:=fun P=>tu #[]
noncomputable def o225:Ob:=fun P=>co "told" "Cloth.told" 471 74 1 3 220 true 221 (.ref 222) (.ref 223) (.ref 224) 475 476
noncomputable def o226:Ob:=fun P=>fo "told" "Cloth.told" (inClass (top 22) 1) "loomwright.cloth" 442 225
noncomputable def o227:Ob:=fun P=>tu #[]
noncomputable def o229:Ob:=fun P=>tu #[(.str "self" 481)]
noncomputable def o230:Ob:=fun P=>tu #[]
noncomputable def o232:Ob:=fun P=>co "ends" "Cloth.ends" 478 77 1 3 227 true 228 (.ref 229) (.ref 230) (.ref 231) 482 483
noncomputable def o233:Ob:=fun P=>fo "ends" "Cloth.ends" (inClass (top 22) 2) "loomwright.cloth" 442 232
noncomputable def o234:Ob:=fun P=>tu #[]
noncomputable def o236:Ob:=fun P=>tu #[(.str "self" 488)]
noncomputable def o237:Ob:=fun P=>tu #[]
noncomputable def o239:Ob:=fun P=>co "picks" "Cloth.picks" 485 80 1 3 234 true 235 (.ref 236) (.ref 237) (.ref 238) 489 490
noncomputable def o240:Ob:=fun P=>fo "picks" "Cloth.picks" (inClass (top 22) 3) "loomwright.cloth" 442 239
noncomputable def o241:Ob:=fun P=>tu #[]
noncomputable def o243:Ob:=fun P=>tu #[(.str "self" 495),(.str "pick" 496)]
noncomputable def o244:Ob:=fun P=>tu #[]
noncomputable def o246:Ob:=fun P=>co "row_at" "Cloth.row_at" 492 83 2 3 241 true 242 (.ref 243) (.ref 244) (.ref 245) 497 498
noncomputable def o247:Ob:=fun P=>fo "row_at" "Cloth.row_at" (inClass (top 22) 4) "loomwright.cloth" 442 246
noncomputable def o248:Ob:=fun P=>tu #[]
noncomputable def o250:Ob:=fun P=>tu #[(.str "self" 503),(.str "end" 504)]
noncomputable def o251:Ob:=fun P=>tu #[]
noncomputable def o253:Ob:=fun P=>co "column_at" "Cloth.column_at" 500 86 2 3 248 true 249 (.ref 250) (.ref 251) (.ref 252) 505 506
noncomputable def o254:Ob:=fun P=>fo "column_at" "Cloth.column_at" (inClass (top 22) 5) "loomwright.cloth" 442 253
noncomputable def o255:Ob:=fun P=>tu #[]
noncomputable def o257:Ob:=fun P=>tu #[(.str "self" 511),(.str "end" 512),(.str "pick" 513)]
noncomputable def o258:Ob:=fun P=>tu #[]
noncomputable def o260:Ob:=fun P=>co "is_up" "Cloth.is_up" 508 89 3 3 255 true 256 (.ref 257) (.ref 258) (.ref 259) 514 515
noncomputable def o261:Ob:=fun P=>fo "is_up" "Cloth.is_up" (inClass (top 22) 6) "loomwright.cloth" 442 260
noncomputable def o262:Ob:=fun P=>tu #[(.str "rows" 517),(.str "width" 518)]
noncomputable def o263:Ob:=fun P=>di #[dE P "__module__" 457 (.str "loomwright.cloth" 442),dE P "__firstlineno__" 461 (.int 67 460),dR P "__init__" 470 219,dR P "told" 477 226,dR P "ends" 484 233,dR P "picks" 491 240,dR P "row_at" 499 247,dR P "column_at" 507 254,dR P "is_up" 516 261,dR P "__static_attributes__" 519 262,dR P "__dict__" 521 265,dR P "__weakref__" 523 266,dE P "__doc__" 524 .none] 4
noncomputable def o264:Ob:=fun P=>⟨(.type "type"),none,(.cls ⟨"Cloth",[(.type "object")],[(.ref 264),(.type "object")],263,"Cloth",true,[],[],false,none,false⟩), #[none,none,(some (.str "Cloth" 450)),(some (.str "Cloth" 458)),(some (.builtin "object.__new__")),(some (.bool true))]⟩
noncomputable def o265:Ob:=fun P=>⟨(.type "getset_descriptor"),none,(.fields #[(.str "__dict__" 520),(.ref 264),(.builtin "function.__dict__"),(.builtin "function.__dict__#set")]), #[]⟩
noncomputable def o266:Ob:=fun P=>⟨(.type "getset_descriptor"),none,(.fields #[(.str "__weakref__" 522),(.ref 264),(.builtin "ExceptionGroup.__weakref__"), .none]), #[]⟩
noncomputable def o269:Ob:=fun P=>tu #[]
noncomputable def o271:Ob:=fun P=>tu #[(.str "on" 532),(.str "off" 533)]
noncomputable def o272:Ob:=fun P=>tu #[]
noncomputable def o274:Ob:=fun P=>co "need_like_sizes" "need_like_sizes" 529 92 2 3 269 true 270 (.ref 271) (.ref 272) (.ref 273) 534 535
noncomputable def o275:Ob:=fun P=>fo "need_like_sizes" "need_like_sizes" (top 24) "loomwright.blocks" 527 274
noncomputable def o276:Ob:=fun P=>tu #[]
noncomputable def o279:Ob:=fun P=>co "rows_at" "rows_at" 537 95 5 3 276 true 277 .none .none (.ref 278) 540 541
noncomputable def o280:Ob:=fun P=>fo "rows_at" "rows_at" (top 25) "loomwright.blocks" 527 279
noncomputable def o281:Ob:=fun P=>tu #[]
noncomputable def o283:Ob:=fun P=>tu #[(.str "cloth" 546),(.str "row" 547),(.str "column" 548),(.str "on" 549),(.str "off" 550),(.str "rows" 551)]
noncomputable def o284:Ob:=fun P=>tu #[]
noncomputable def o286:Ob:=fun P=>co "is_on" "is_on" 543 98 5 3 281 true 282 (.ref 283) (.ref 284) (.ref 285) 552 553
noncomputable def o287:Ob:=fun P=>fo "is_on" "is_on" (top 26) "loomwright.blocks" 527 286
noncomputable def o288:Ob:=fun P=>tu #[]
noncomputable def o291:Ob:=fun P=>co "plan_row" "plan_row" 555 103 4 3 288 true 289 .none .none (.ref 290) 558 559
noncomputable def o292:Ob:=fun P=>fo "plan_row" "plan_row" (top 27) "loomwright.blocks" 527 291
noncomputable def o293:Ob:=fun P=>tu #[]
noncomputable def o296:Ob:=fun P=>co "plan_of" "plan_of" 561 106 3 3 293 true 294 .none .none (.ref 295) 564 565
noncomputable def o297:Ob:=fun P=>fo "plan_of" "plan_of" (top 28) "loomwright.blocks" 527 296
noncomputable def o298:Ob:=fun P=>tu #[]
noncomputable def o300:Ob:=fun P=>tu #[(.str "_law_cell" 572),(.str "_law_k" 573)]
noncomputable def o301:Ob:=fun P=>tu #[]
noncomputable def o303:Ob:=fun P=>co "_law_mixed" "_law_mixed" 569 115 2 3 298 true 299 (.ref 300) (.ref 301) (.ref 302) 574 575
noncomputable def o304:Ob:=fun P=>fo "_law_mixed" "_law_mixed" (top 30) "law_loomwright_k26_whole_plans_found_again" 567 303
noncomputable def o305:Ob:=fun P=>tu #[]
noncomputable def o308:Ob:=fun P=>co "_law_kinds" "_law_kinds" 577 118 1 3 305 true 306 .none .none (.ref 307) 580 581
noncomputable def o309:Ob:=fun P=>fo "_law_kinds" "_law_kinds" (top 31) "law_loomwright_k26_whole_plans_found_again" 567 308
noncomputable def o310:Ob:=fun P=>tu #[]
noncomputable def o313:Ob:=fun P=>co "_law_whole" "_law_whole" 583 125 1 3 310 true 311 .none .none (.ref 312) 586 587
noncomputable def o314:Ob:=fun P=>fo "_law_whole" "_law_whole" (top 32) "law_loomwright_k26_whole_plans_found_again" 567 313
noncomputable def o322:Ob:=fun P=>tu #[]
noncomputable def o324:Ob:=fun P=>tu #[(.str "_law_asked" 601),(.str "_law_wrong" 602),(.str "e" 603)]
noncomputable def o325:Ob:=fun P=>tu #[]
noncomputable def o327:Ob:=fun P=>co "_law_caught" "_law_caught" 598 129 1 3 322 true 323 (.ref 324) (.ref 325) (.ref 326) 604 605
noncomputable def o328:Ob:=fun P=>fo "_law_caught" "_law_caught" (top 34) "law_loomwright_k26_whole_plans_found_again" 567 327
noncomputable def o329:Ob:=fun P=>tu #[]
noncomputable def o331:Ob:=fun P=>tu #[(.str "_law_plan" 610),(.str "_law_wide" 611),(.str "_law_on" 612),(.str "_law_off" 613),(.str "_law_own" 614),(.str "_law_found" 615),(.str "_law_mask" 616),(.str "_law_turn" 617),(.str "_law_row" 618),(.str "_law_end" 619)]
noncomputable def o332:Ob:=fun P=>tu #[]
noncomputable def o334:Ob:=fun P=>co "_law_grown" "_law_grown" 607 136 5 3 329 true 330 (.ref 331) (.ref 332) (.ref 333) 620 621
noncomputable def o335:Ob:=fun P=>fo "_law_grown" "_law_grown" (top 35) "law_loomwright_k26_whole_plans_found_again" 567 334
noncomputable def o336:Ob:=fun P=>tu #[]
noncomputable def o339:Ob:=fun P=>co "_law_due" "_law_due" 623 145 5 3 336 true 337 .none .none (.ref 338) 626 627
noncomputable def o340:Ob:=fun P=>fo "_law_due" "_law_due" (top 36) "law_loomwright_k26_whole_plans_found_again" 567 339
noncomputable def o341:Ob:=fun P=>tu #[]
noncomputable def o343:Ob:=fun P=>tu #[(.str "_law_cloth" 632),(.str "_law_on" 633),(.str "_law_off" 634),(.str "_law_due_here" 635),(.str "_law_kinds_here" 636),(.str "_law_wrong" 637)]
noncomputable def o344:Ob:=fun P=>tu #[(.str "_law_cloth" 638),(.str "_law_on" 639),(.str "_law_off" 640),(.str "_law_found" 641)]
noncomputable def o346:Ob:=fun P=>co "_law_right" "_law_right" 629 157 4 3 341 true 342 (.ref 343) (.ref 344) (.ref 345) 642 643
noncomputable def o347:Ob:=fun P=>fo "_law_right" "_law_right" (top 37) "law_loomwright_k26_whole_plans_found_again" 567 346
noncomputable def o348:Ob:=fun P=>tu #[]
noncomputable def o351:Ob:=fun P=>co "_law_blocks" "_law_blocks" 645 163 3 3 348 true 349 .none .none (.ref 350) 648 649
noncomputable def o352:Ob:=fun P=>fo "_law_blocks" "_law_blocks" (top 38) "law_loomwright_k26_whole_plans_found_again" 567 351
noncomputable def o353:Ob:=fun P=>tu #[]
noncomputable def o355:Ob:=fun P=>tu #[(.str "_law_cloth" 654),(.str "_law_on" 655),(.str "_law_off" 656)]
noncomputable def o356:Ob:=fun P=>tu #[(.str "_law_cloth" 657),(.str "_law_on" 658),(.str "_law_off" 659)]
noncomputable def o358:Ob:=fun P=>co "_law_refused" "_law_refused" 651 170 3 3 353 true 354 (.ref 355) (.ref 356) (.ref 357) 660 661
noncomputable def o359:Ob:=fun P=>fo "_law_refused" "_law_refused" (top 39) "law_loomwright_k26_whole_plans_found_again" 567 358
noncomputable def o360:Ob:=fun P=>tu #[]
noncomputable def o362:Ob:=fun P=>tu #[(.str "_law_rows" 666),(.str "_law_ends" 667),(.str "_law_on" 668),(.str "_law_off" 669),(.str "_law_own" 670),(.str "_law_cloth" 671),(.str "_law_one" 672),(.str "_law_other" 673),(.str "_law_tall" 674)]
noncomputable def o363:Ob:=fun P=>tu #[]
noncomputable def o365:Ob:=fun P=>co "_law_all_refused" "_law_all_refused" 663 172 5 3 360 true 361 (.ref 362) (.ref 363) (.ref 364) 675 676
noncomputable def o366:Ob:=fun P=>fo "_law_all_refused" "_law_all_refused" (top 40) "law_loomwright_k26_whole_plans_found_again" 567 365
noncomputable def o367:Ob:=fun P=>tu #[]
noncomputable def o370:Ob:=fun P=>co "_law_cut_refused" "_law_cut_refused" 678 184 6 3 367 true 368 .none .none (.ref 369) 681 682
noncomputable def o371:Ob:=fun P=>fo "_law_cut_refused" "_law_cut_refused" (top 41) "law_loomwright_k26_whole_plans_found_again" 567 370
noncomputable def o372:Ob:=fun P=>tu #[]
noncomputable def o375:Ob:=fun P=>co "law" "law" 684 194 1 3 372 true 373 .none .none (.ref 374) 687 688
noncomputable def o376:Ob:=fun P=>fo "law" "law" (top 42) "law_loomwright_k26_whole_plans_found_again" 567 375
noncomputable def ob16 (P:Params):List Obj:=o359 P::o360 P::o362 P::o363 P::o365 P::o366 P::o367 P::o370 P::o371 P::o372 P::o375 P::o376 P::[]
noncomputable def ob15 (P:Params):List Obj:=o341 P::o343 P::o344 P::o346 P::o347 P::o348 P::o351 P::o352 P::o353 P::o355 P::o356 P::o358 P::ob16 P
noncomputable def ob14 (P:Params):List Obj:=o324 P::o325 P::o327 P::o328 P::o329 P::o331 P::o332 P::o334 P::o335 P::o336 P::o339 P::o340 P::ob15 P
noncomputable def ob13 (P:Params):List Obj:=o298 P::o300 P::o301 P::o303 P::o304 P::o305 P::o308 P::o309 P::o310 P::o313 P::o314 P::o322 P::ob14 P
noncomputable def ob12 (P:Params):List Obj:=o280 P::o281 P::o283 P::o284 P::o286 P::o287 P::o288 P::o291 P::o292 P::o293 P::o296 P::o297 P::ob13 P
noncomputable def ob11 (P:Params):List Obj:=o262 P::o263 P::o264 P::o265 P::o266 P::o269 P::o271 P::o272 P::o274 P::o275 P::o276 P::o279 P::ob12 P
noncomputable def ob10 (P:Params):List Obj:=o246 P::o247 P::o248 P::o250 P::o251 P::o253 P::o254 P::o255 P::o257 P::o258 P::o260 P::o261 P::ob11 P
noncomputable def ob9 (P:Params):List Obj:=o229 P::o230 P::o232 P::o233 P::o234 P::o236 P::o237 P::o239 P::o240 P::o241 P::o243 P::o244 P::ob10 P
noncomputable def ob8 (P:Params):List Obj:=o205 P::o213 P::o215 P::o216 P::o218 P::o219 P::o220 P::o222 P::o223 P::o225 P::o226 P::o227 P::ob9 P
noncomputable def ob7 (P:Params):List Obj:=o187 P::o189 P::o190 P::o192 P::o193 P::o194 P::o196 P::o197 P::o199 P::o200 P::o201 P::o204 P::ob8 P
noncomputable def ob6 (P:Params):List Obj:=o171 P::o172 P::o173 P::o175 P::o176 P::o178 P::o179 P::o180 P::o182 P::o183 P::o185 P::o186 P::ob7 P
noncomputable def ob5 (P:Params):List Obj:=o139 P::o142 P::o149 P::o150 P::o151 P::o154 P::o161 P::o162 P::o163 P::o166 P::o168 P::o169 P::ob6 P
noncomputable def ob4 (P:Params):List Obj:=o111 P::o118 P::o120 P::o121 P::o123 P::o124 P::o125 P::o126 P::o127 P::o130 P::o137 P::o138 P::ob5 P
noncomputable def ob3 (P:Params):List Obj:=o87 P::o88 P::o89 P::o92 P::o99 P::o101 P::o102 P::o104 P::o105 P::o106 P::o107 P::o108 P::ob4 P
noncomputable def ob2 (P:Params):List Obj:=o64 P::o66 P::o67 P::o68 P::o69 P::o70 P::o73 P::o80 P::o82 P::o83 P::o85 P::o86 P::ob3 P
noncomputable def ob1 (P:Params):List Obj:=o35 P::o42 P::o44 P::o45 P::o47 P::o48 P::o49 P::o50 P::o51 P::o54 P::o61 P::o63 P::ob2 P
noncomputable def ob0 (P:Params):List Obj:=boot_o_2 P::o3 P::o15 P::o17 P::o18 P::o20 P::o21 P::o22 P::o29 P::o30 P::o31 P::o32 P::ob1 P
noncomputable def frag (P:Params):Frag:=(nat_lit 2,boot_o_2 P)::(nat_lit 3,o3 P)::(nat_lit 15,o15 P)::(nat_lit 17,o17 P)::(nat_lit 18,o18 P)::(nat_lit 20,o20 P)::(nat_lit 21,o21 P)::(nat_lit 22,o22 P)::(nat_lit 29,o29 P)::(nat_lit 30,o30 P)::(nat_lit 31,o31 P)::(nat_lit 32,o32 P)::(nat_lit 35,o35 P)::(nat_lit 42,o42 P)::(nat_lit 44,o44 P)::(nat_lit 45,o45 P)::(nat_lit 47,o47 P)::(nat_lit 48,o48 P)::(nat_lit 49,o49 P)::(nat_lit 50,o50 P)::(nat_lit 51,o51 P)::(nat_lit 54,o54 P)::(nat_lit 61,o61 P)::(nat_lit 63,o63 P)::(nat_lit 64,o64 P)::(nat_lit 66,o66 P)::(nat_lit 67,o67 P)::(nat_lit 68,o68 P)::(nat_lit 69,o69 P)::(nat_lit 70,o70 P)::(nat_lit 73,o73 P)::(nat_lit 80,o80 P)::(nat_lit 82,o82 P)::(nat_lit 83,o83 P)::(nat_lit 85,o85 P)::(nat_lit 86,o86 P)::(nat_lit 87,o87 P)::(nat_lit 88,o88 P)::(nat_lit 89,o89 P)::(nat_lit 92,o92 P)::(nat_lit 99,o99 P)::(nat_lit 101,o101 P)::(nat_lit 102,o102 P)::(nat_lit 104,o104 P)::(nat_lit 105,o105 P)::(nat_lit 106,o106 P)::(nat_lit 107,o107 P)::(nat_lit 108,o108 P)::(nat_lit 111,o111 P)::(nat_lit 118,o118 P)::(nat_lit 120,o120 P)::(nat_lit 121,o121 P)::(nat_lit 123,o123 P)::(nat_lit 124,o124 P)::(nat_lit 125,o125 P)::(nat_lit 126,o126 P)::(nat_lit 127,o127 P)::(nat_lit 130,o130 P)::(nat_lit 137,o137 P)::(nat_lit 138,o138 P)::(nat_lit 139,o139 P)::(nat_lit 142,o142 P)::(nat_lit 149,o149 P)::(nat_lit 150,o150 P)::(nat_lit 151,o151 P)::(nat_lit 154,o154 P)::(nat_lit 161,o161 P)::(nat_lit 162,o162 P)::(nat_lit 163,o163 P)::(nat_lit 166,o166 P)::(nat_lit 168,o168 P)::(nat_lit 169,o169 P)::(nat_lit 171,o171 P)::(nat_lit 172,o172 P)::(nat_lit 173,o173 P)::(nat_lit 175,o175 P)::(nat_lit 176,o176 P)::(nat_lit 178,o178 P)::(nat_lit 179,o179 P)::(nat_lit 180,o180 P)::(nat_lit 182,o182 P)::(nat_lit 183,o183 P)::(nat_lit 185,o185 P)::(nat_lit 186,o186 P)::(nat_lit 187,o187 P)::(nat_lit 189,o189 P)::(nat_lit 190,o190 P)::(nat_lit 192,o192 P)::(nat_lit 193,o193 P)::(nat_lit 194,o194 P)::(nat_lit 196,o196 P)::(nat_lit 197,o197 P)::(nat_lit 199,o199 P)::(nat_lit 200,o200 P)::(nat_lit 201,o201 P)::(nat_lit 204,o204 P)::(nat_lit 205,o205 P)::(nat_lit 213,o213 P)::(nat_lit 215,o215 P)::(nat_lit 216,o216 P)::(nat_lit 218,o218 P)::(nat_lit 219,o219 P)::(nat_lit 220,o220 P)::(nat_lit 222,o222 P)::(nat_lit 223,o223 P)::(nat_lit 225,o225 P)::(nat_lit 226,o226 P)::(nat_lit 227,o227 P)::(nat_lit 229,o229 P)::(nat_lit 230,o230 P)::(nat_lit 232,o232 P)::(nat_lit 233,o233 P)::(nat_lit 234,o234 P)::(nat_lit 236,o236 P)::(nat_lit 237,o237 P)::(nat_lit 239,o239 P)::(nat_lit 240,o240 P)::(nat_lit 241,o241 P)::(nat_lit 243,o243 P)::(nat_lit 244,o244 P)::(nat_lit 246,o246 P)::(nat_lit 247,o247 P)::(nat_lit 248,o248 P)::(nat_lit 250,o250 P)::(nat_lit 251,o251 P)::(nat_lit 253,o253 P)::(nat_lit 254,o254 P)::(nat_lit 255,o255 P)::(nat_lit 257,o257 P)::(nat_lit 258,o258 P)::(nat_lit 260,o260 P)::(nat_lit 261,o261 P)::(nat_lit 262,o262 P)::(nat_lit 263,o263 P)::(nat_lit 264,o264 P)::(nat_lit 265,o265 P)::(nat_lit 266,o266 P)::(nat_lit 269,o269 P)::(nat_lit 271,o271 P)::(nat_lit 272,o272 P)::(nat_lit 274,o274 P)::(nat_lit 275,o275 P)::(nat_lit 276,o276 P)::(nat_lit 279,o279 P)::(nat_lit 280,o280 P)::(nat_lit 281,o281 P)::(nat_lit 283,o283 P)::(nat_lit 284,o284 P)::(nat_lit 286,o286 P)::(nat_lit 287,o287 P)::(nat_lit 288,o288 P)::(nat_lit 291,o291 P)::(nat_lit 292,o292 P)::(nat_lit 293,o293 P)::(nat_lit 296,o296 P)::(nat_lit 297,o297 P)::(nat_lit 298,o298 P)::(nat_lit 300,o300 P)::(nat_lit 301,o301 P)::(nat_lit 303,o303 P)::(nat_lit 304,o304 P)::(nat_lit 305,o305 P)::(nat_lit 308,o308 P)::(nat_lit 309,o309 P)::(nat_lit 310,o310 P)::(nat_lit 313,o313 P)::(nat_lit 314,o314 P)::(nat_lit 322,o322 P)::(nat_lit 324,o324 P)::(nat_lit 325,o325 P)::(nat_lit 327,o327 P)::(nat_lit 328,o328 P)::(nat_lit 329,o329 P)::(nat_lit 331,o331 P)::(nat_lit 332,o332 P)::(nat_lit 334,o334 P)::(nat_lit 335,o335 P)::(nat_lit 336,o336 P)::(nat_lit 339,o339 P)::(nat_lit 340,o340 P)::(nat_lit 341,o341 P)::(nat_lit 343,o343 P)::(nat_lit 344,o344 P)::(nat_lit 346,o346 P)::(nat_lit 347,o347 P)::(nat_lit 348,o348 P)::(nat_lit 351,o351 P)::(nat_lit 352,o352 P)::(nat_lit 353,o353 P)::(nat_lit 355,o355 P)::(nat_lit 356,o356 P)::(nat_lit 358,o358 P)::(nat_lit 359,o359 P)::(nat_lit 360,o360 P)::(nat_lit 362,o362 P)::(nat_lit 363,o363 P)::(nat_lit 365,o365 P)::(nat_lit 366,o366 P)::(nat_lit 367,o367 P)::(nat_lit 370,o370 P)::(nat_lit 371,o371 P)::(nat_lit 372,o372 P)::(nat_lit 375,o375 P)::(nat_lit 376,o376 P)::[]
noncomputable def addrs:List Addr:=[2,3,15,17,18,20,21,22,29,30,31,32,35,42,44,45,47,48,49,50,51,54,61,63,64,66,67,68,69,70,73,80,82,83,85,86,87,88,89,92,99,101,102,104,105,106,107,108,111,118,120,121,123,124,125,126,127,130,137,138,139,142,149,150,151,154,161,162,163,166,168,169,171,172,173,175,176,178,179,180,182,183,185,186,187,189,190,192,193,194,196,197,199,200,201,204,205,213,215,216,218,219,220,222,223,225,226,227,229,230,232,233,234,236,237,239,240,241,243,244,246,247,248,250,251,253,254,255,257,258,260,261,262,263,264,265,266,269,271,272,274,275,276,279,280,281,283,284,286,287,288,291,292,293,296,297,298,300,301,303,304,305,308,309,310,313,314,322,324,325,327,328,329,331,332,334,335,336,339,340,341,343,344,346,347,348,351,352,353,355,356,358,359,360,362,363,365,366,367,370,371,372,375,376]
noncomputable def fr0 (P:Params):Frag:=addrs.zip (ob0 P)
theorem frag_eq (P:Params):frag P=fr0 P:=by kernel_rfl
noncomputable def view:Program:={ PySem.Challenge.pw_loomwright_k26_whole_plans_found_again with main:={ PySem.Challenge.pw_loomwright_k26_whole_plans_found_again.main with body:=[top 0,top 1,top 2,top 4,top 5,top 6,top 7,top 8,top 9,top 10,top 11,top 12,top 14,top 15,top 16,top 18,top 19,top 21,top 22,top 24,top 25,top 26,top 27,top 28,top 30,top 31,top 32,top 33,top 34,top 35,top 36,top 37,top 38,top 39,top 40,top 41,top 42] } }
noncomputable abbrev Xt:Shared→Bool:=fun s=>xlAt view [] s&&recOk (RowW.records PySem.Challenge.rw_loomwright_k26_whole_plans_found_again.row.toRowW) s
noncomputable def tabs:List Addr:=[354,342]
theorem addrs_eq:∀ P:Params,addrs=(frag P).map (·.1):=fun _=>by kernel_rfl
noncomputable abbrev hook:Hook:=kmHook frag addrs addrs_eq tabs
noncomputable abbrev fuel:Nat:=6696
theorem twins:(fun _=>true) (HX.topT treeTable view (aWorld 1) 0 none,view,fr0,PySem.Challenge.rw_loomwright_k26_whole_plans_found_again)=true:=by k_qdec
theorem runA (w:World) (os:OsState):(HX.topT treeTable PySem.Challenge.pw_loomwright_k26_whole_plans_found_again w 11 (some (.ref 6)) fuel ⟨HX.bootT w.params,11,{},Array.mk [],boot_drawn,boot_toks,os⟩ (topStub PySem.Challenge.pw_loomwright_k26_whole_plans_found_again)).map (fun s=>((staticsOk (importedModules PySem.Challenge.pw_loomwright_k26_whole_plans_found_again.main.body) (boot_heap w.params) s.abs.heap&&namesBound PySem.Challenge.pw_loomwright_k26_whole_plans_found_again s.abs.heap&&gensDone s.abs&&laidKept (boot_heap w.params) s.abs.heap),(addrs.map s.abs.heap.get?,tabs.map s.abs.heap.get?)))=some (true,((fr0 w.params).map fun p=>some p.2,tabs.map fun _=>some (tabObj #[]))):=by
  have _tw:=twins
  rw [PySem.W.Fast.te5923862056798008813,PySem.W.Fast.te9120903079849401792,PySem.W.Fast.te14364793385576792824,PySem.W.Fast.te9621378704136392807,PySem.W.Fast.te12181950244342417869]
  kernel_rfl
theorem runB (w:World) (os:OsState):(HX.topT treeTable PySem.Challenge.pw_loomwright_k26_whole_plans_found_again w 11 (some (.ref 6)) fuel ⟨HX.bootT w.params,11,{},Array.mk [],boot_drawn,boot_toks,os⟩ (topStub PySem.Challenge.pw_loomwright_k26_whole_plans_found_again)).map (fun s=>openSeen view [] (importedModules PySem.Challenge.pw_loomwright_k26_whole_plans_found_again.main.body) Xt true s.abs)=some (openGood view []):=by
  unfold Xt
  rw [PySem.W.Fast.te5923862056798008813,PySem.W.Fast.te4187177175401517315,PySem.W.Fast.te2368527892694137696,PySem.W.Fast.te1659137727523802081,PySem.W.Fast.te198278674533548725,PySem.W.Fast.te14364793385576792824,PySem.W.Fast.te9621378704136392807,PySem.W.Fast.te12181950244342417869]
  kernel_rfl
theorem left:LeftO PySem.Challenge.pw_loomwright_k26_whole_plans_found_again view [] Xt hook.obs hook.val fuel:=HX.left_run (by kernel_rfl) (by decide) (fun s=>by kernel_rfl) HX.hb fun w os=>by
  obtain ⟨s,r,l⟩:=Option.map_eq_some_iff.mp (runA w os)
  obtain ⟨s2,r2,l2⟩:=Option.map_eq_some_iff.mp (runB w os)
  cases r.symm.trans r2
  rw [← frag_eq] at l
  exact ⟨s.abs,HX.topT_of r,HX.three l l2⟩
end K26
namespace L2
open PySem PySem.Spec PyProof.Rows
noncomputable abbrev Key:=Sum Int Str
noncomputable def keyIs:Key→Value→Bool
  | .inl k,v=>Value.isInt k v
  | .inr x,v=>Value.isStrOf x v
noncomputable def keyH (w:World):Key→Int
  | .inl k=>hashInt k
  | .inr x=>hashStr w x
theorem keyIs_shape:∀ {k:Key} {v:Value},keyIs k v=true→(∃ i t,k=Sum.inl i∧v=Value.int i t)∨(∃ x t,k=Sum.inr x∧v=Value.str x t)
  | .inl i,v,h=>by
    obtain ⟨t,e⟩:=Value.isInt_shape (k:=i) (v:=v) h
    exact .inl ⟨i,t,rfl,e⟩
  | .inr x,v,h=>by
    obtain ⟨t,e⟩:=Value.isStrOf_shape (x:=x) (v:=v) h
    exact .inr ⟨x,t,rfl,e⟩
theorem key_ll (a b:Int):decide ((Sum.inl a:Key)=Sum.inl b)=(a == b):=by
  by_cases e:a=b
  · subst e;simp
  · have h:¬ (Sum.inl a:Key)=Sum.inl b:=fun q=>e (Sum.inl.inj q)
    rw [decide_eq_false h]
    exact (beq_eq_false_iff_ne.mpr e).symm
theorem key_rr (a b:Str):decide ((Sum.inr a:Key)=Sum.inr b)=decide (a=b):=by
  by_cases e:a=b
  · subst e;simp
  · have h:¬ (Sum.inr a:Key)=Sum.inr b:=fun q=>e (Sum.inr.inj q)
    rw [decide_eq_false h,decide_eq_false e]
theorem key_lr (a:Int) (b:Str):decide ((Sum.inl a:Key)=Sum.inr b)=false:=decide_eq_false (fun q=>nomatch q)
theorem key_rl (a:Str) (b:Int):decide ((Sum.inr a:Key)=Sum.inl b)=false:=decide_eq_false (fun q=>nomatch q)
noncomputable def mixKind (prog:Program) (w:World):PySem.KeyKind prog w Key where
  is:=keyIs
  hash:=keyH w
  inj:=fun v a b ha hb=>by
    rcases keyIs_shape ha with ⟨i,t,rfl,rfl⟩ | ⟨x,t,rfl,rfl⟩
    · rcases keyIs_shape hb with ⟨j,u,rfl,e⟩ | ⟨y,u,rfl,e⟩
      · injection e with e1 _;rw [e1]
      · exact nomatch e
    · rcases keyIs_shape hb with ⟨j,u,rfl,e⟩ | ⟨y,u,rfl,e⟩
      · exact nomatch e
      · injection e with e1 _;rw [e1]
  byValue:=fun k v h=>by
    rcases keyIs_shape h with ⟨i,t,rfl,rfl⟩ | ⟨x,t,rfl,rfl⟩ <;> rfl
  pyHash:=fun hv h=>by
    rcases keyIs_shape hv with ⟨i,t,rfl,rfl⟩ | ⟨x,t,rfl,rfl⟩
    · exact wpAny_pyHash_int h
    · exact wpAny_pyHash_str h
  eqBool:=fun hu hv h=>by
    rcases keyIs_shape hu with ⟨i,t,rfl,rfl⟩ | ⟨x,t,rfl,rfl⟩
    · rcases keyIs_shape hv with ⟨j,u,rfl,rfl⟩ | ⟨y,u,rfl,rfl⟩
      · rw [key_ll] at h;exact wpAny_eqBool_int h
      · rw [key_lr] at h;exact SeqAt.EqAt.int_str i t y u _ _ _ _ h
    · rcases keyIs_shape hv with ⟨j,u,rfl,rfl⟩ | ⟨y,u,rfl,rfl⟩
      · rw [key_rl] at h;exact SeqAt.EqAt.str_int x t j u _ _ _ _ h
      · rw [key_rr] at h;exact wpAny_eqBool_str h
  «strs» := fun k x t v h=>by
    rcases keyIs_shape h with ⟨i,u,rfl,e⟩ | ⟨y,u,rfl,e⟩
    · exact nomatch e
    · injection e with e1 _
      subst e1
      cases v <;> rfl
end L2
namespace L2
open PySem PySem.Spec PyProof.Rows
inductive V where
  | non | bl (b:Bool) | int (i:Int) | str (x:Str) | byt (b:Array UInt8) | flt (b:UInt64) | ref (a:Addr) | ty (n:String)
  deriving DecidableEq
noncomputable def RelV:V→Value→Prop
  | .non,u=>u=Value.none
  | .bl b,u=>u=Value.bool b
  | .int i,u=>∃ t,u=Value.int i t
  | .str x,u=>∃ t,u=Value.str x t
  | .byt b,u=>∃ t,u=Value.bytes b t
  | .flt b,u=>∃ t,u=Value.float b t
  | .ref a,u=>u=Value.ref a
  | .ty n,u=>u=Value.type n
noncomputable abbrev Vals:List V→List Value→Prop:=Paired RelV
theorem Vals.length {xs:List V} {us:List Value} (r:Vals xs us):xs.length=us.length:=Paired.length r
theorem Vals.get:∀ {xs:List V} {us:List Value} {i:Nat} {x:V},Vals xs us→xs[i]?=some x→∃ u,us[i]?=some u∧RelV x u
  | _,_,_,_, .nil,e=>by simp at e
  | _,_,0,_, .cons r _,e=>by simp at e;subst e;exact ⟨_,rfl,r⟩
  | _,_,i+1,x, .cons _ t,e=>by
    obtain ⟨u,h1,h2⟩:=Vals.get (i:=i) (x:=x) t (by simpa using e)
    exact ⟨u,by simpa using h1,h2⟩
theorem Vals.set {x:V} {u:Value} (r:RelV x u):∀ {xs:List V} {us:List Value} (i:Nat),Vals xs us→Vals (xs.set i x) (us.set i u)
  | _,_,_, .nil=> .nil
  | _,_,0, .cons _ t=> .cons r t
  | _,_,i+1, .cons q t=> .cons q (Vals.set r i t)
theorem Vals.append:∀ {xs ys:List V} {us ws:List Value},Vals xs us→Vals ys ws→Vals (xs++ys) (us++ws)
  | _,_,_,_, .nil,s=>s
  | _,_,_,_, .cons r t,s=> .cons r (Vals.append t s)
theorem Vals.take:∀ {xs:List V} {us:List Value} (n:Nat),Vals xs us→Vals (xs.take n) (us.take n)
  | _,_,0,_=> .nil
  | _,_,_+1, .nil=> .nil
  | _,_,n+1, .cons r t=> .cons r (Vals.take n t)
theorem Vals.drop:∀ {xs:List V} {us:List Value} (n:Nat),Vals xs us→Vals (xs.drop n) (us.drop n)
  | _,_,0,r=>r
  | _,_,_+1, .nil=> .nil
  | _,_,n+1, .cons _ t=>Vals.drop n t
noncomputable def RelO:Option V→Option Value→Prop
  | some v,some u=>RelV v u
  | none,none=>True
  | _,_=>False
noncomputable def KV {κ:Type}:List (κ × V)→List (κ × Value)→Prop:=Paired fun (p:κ × V) (q:κ × Value)=>p.1=q.1∧RelV p.2 q.2
noncomputable def kV:Key→V
  | .inl i=> .int i
  | .inr x=> .str x
inductive HO where
  | lst (xs:List V)
  | tup (xs:List V)
  | dK (kvs:List (Key × V)) | dT (kvs:List (List Key × V))
  | set (S:Int→Bool) (n:Nat)
  | ins (C dx:Addr) (fs:List (Str × V))
  | own (x:Addr)
  | xd (fs:List (Str × V))
  | met (f x:Addr)
  | rng (lo hi:Int)
  | frz (o:Obj) (u:HO)
  | tbl (ps:Array Value)
  | ext (φ:Heap→Prop)
noncomputable abbrev Hp:=Addr→Option HO
noncomputable def upd (H:Hp) (a:Addr) (o:HO):Hp:=fun b=>if b=a then some o else H b
theorem upd_same {H:Hp} {a:Addr} {o:HO}:upd H a o a=some o:=by unfold upd;rw [if_pos rfl]
theorem upd_ne {H:Hp} {a b:Addr} {o:HO} (h:b≠a):upd H a o b=H b:=by unfold upd;rw [if_neg h]
theorem ne_of {H:Hp} {a b:Addr} {o u:HO} (h:H a=some o) (h':H b=some u) (d:o≠u):a≠b:=by
  intro e;subst e;rw [h] at h';exact d (Option.some.inj h')
theorem ne_of_none {H:Hp} {a b:Addr} {o:HO} (h:H a=some o) (h':H b=none):a≠b:=by
  intro e;subst e;rw [h] at h';cases h'
section
variable (P:Program) (w:World)
noncomputable def ObjOk (H:Hp) (h:Heap) (a:Addr):HO→Prop
  | .lst xs=>xs.length≤sizeLine∧∃ (its:List Value) (n:Nat),Vals xs its∧h.get? a=some { cls:= .type "list",data:= .seq its.toArray n }
  | .tup xs=>xs.length≤sizeLine∧∃ its:List Value,Vals xs its∧IsTup h a its.toArray
  | .dK kvs=>kvs.length≤sizeLine∧(a == sysModules)=false∧∃ vs,KV kvs vs∧h.DictOf (mixKind P w) a vs
  | .dT kvs=>kvs.length≤sizeLine∧(a == sysModules)=false∧∃ xs:List (List Key × Addr × Value),
      Paired (fun (p:List Key × V) (q:List Key × Addr × Value)=>p.1=q.1∧H q.2.1=some (.tup (p.1.map kV))∧RelV p.2 q.2.2) kvs xs∧
      ∃ o es ep,h.get? a=some o∧o.ExactDict∧o.data= .dict es ep∧es.toList=xs.map (entryOfKey (tupleKind (mixKind P w)))∧(xs.map (·.1)).Nodup
  | .set S n=>h.SetOf (intKind P w) a S n
  | .ins C dx fs=>H dx=some (.own a)∧fs.length≤1000∧dx≠a∧h.get? a=some (PySem.W.instObj C dx)∧
      ∃ mA,h.Ns1 dx mA∧(∀ f,RelO (fs.lookup f) (mA f))∧PySem.Within mA (fs.map (·.1))
  | .own _=>∃ o,h.get? a=some o
  | .xd fs=>∃ mA,h.Ns1 a mA∧∀ f,RelO (fs.lookup f) (mA f)
  | .rng lo hi=>∃ t u v,h.get? a=some { cls:= .type "range",data:= .fields #[.int lo t, .int hi u, .int 1 v] }
  | .frz o u=>h.get? a=some o∧ObjOk H h a u
  | .tbl ps=>h.get? a=some { cls:= .none,data:= .fields ps }
  | .met f x=>h.get? a=some (PySem.W.methodObj (.ref f) (.ref x))
  | .ext φ=>φ h∧(∃ o,h.get? a=some o)∧∀ h1 h2:Heap,φ h1→(∀ o,h1.get? a=some o→h2.get? a=some o)→φ h2
noncomputable def HOk (H:Hp) (h:Heap):Prop:=∀ a o,H a=some o→ObjOk P w H h a o
end
section
variable {P:Program} {w:World} {H H':Hp} {h h':Heap} {a:Addr} {o:HO}
theorem ObjOk.lt (x:ObjOk P w H h a o):a<h.objs.size:=by
  cases o with
  | lst xs=>obtain ⟨_,_,_,_,e⟩:=x;exact Heap.lt_size e
  | tup xs=>obtain ⟨_,_,_,p⟩:=x;exact p.lt
  | dK kvs=>obtain ⟨_,_,_,_,o,_,_,e,_⟩:=x;exact Heap.lt_size e
  | dT kvs=>obtain ⟨_,_,_,_,o,_,_,e,_⟩:=x;exact Heap.lt_size e
  | set S n=>obtain ⟨o,_,_,_,e,_⟩:=x;exact Heap.lt_size e
  | ins C dx fs=>obtain ⟨_,_,_,e,_⟩:=x;exact Heap.lt_size e
  | own y=>obtain ⟨_,e⟩:=x;exact Heap.lt_size e
  | xd fs=>obtain ⟨_,⟨_,_,_,e,_⟩,_⟩:=x;exact Heap.lt_size e
  | rng lo hi=>obtain ⟨_,_,_,e⟩:=x;exact Heap.lt_size e
  | frz ob u=>obtain ⟨e,_⟩:=x;exact Heap.lt_size e
  | tbl ps=>exact Heap.lt_size (show h.get? a=some _ from x)
  | met f y=>exact Heap.lt_size (show h.get? a=some _ from x)
  | ext φ=>obtain ⟨_,⟨_,e⟩,_⟩:=x;exact Heap.lt_size e
theorem Paired.mapP {α β:Type} {F G:α→β→Prop}:∀ {l₁:List α} {l₂:List β},Paired F l₁ l₂→(∀ a b,F a b→G a b)→Paired G l₁ l₂
  | _,_, .nil,_=> .nil
  | _,_, .cons r t,f=> .cons (f _ _ r) (Paired.mapP t f)
theorem ObjOk.stay (x:ObjOk P w H h a o) (k:∀ b u,(b=a∨H b=some (.own a))→h.get? b=some u→h'.get? b=some u)
    (ho:∀ b,H b=some (.own a)→H' b=some (.own a)) (ht:∀ b xs,H b=some (.tup xs)→H' b=some (.tup xs)):ObjOk P w H' h' a o:=by
  induction o with
  | lst xs=>obtain ⟨z,its,n,r,e⟩:=x;exact ⟨z,its,n,r,k _ _ (.inl rfl) e⟩
  | tup xs=>obtain ⟨z,its,r,ob,e,c⟩:=x;exact ⟨z,its,r,ob,k _ _ (.inl rfl) e,c⟩
  | dK kvs=>obtain ⟨z,y,vs,r,ob,es,ep,e,c⟩:=x;exact ⟨z,y,vs,r,ob,es,ep,k _ _ (.inl rfl) e,c⟩
  | dT kvs=>
    obtain ⟨z,y,xs,r,ob,es,ep,e,c⟩:=x
    exact ⟨z,y,xs,Paired.mapP r fun p q z=>⟨z.1,ht _ _ z.2.1,z.2.2⟩,ob,es,ep,k _ _ (.inl rfl) e,c⟩
  | set S n=>obtain ⟨ob,es,ep,t,e,c⟩:=x;exact ⟨ob,es,ep,t,k _ _ (.inl rfl) e,c⟩
  | ins C dx fs=>
    obtain ⟨d,z,ne,e,mA,⟨od,es,ep,e2,c⟩,r⟩:=x
    exact ⟨ho _ d,z,ne,k _ _ (.inl rfl) e,mA,⟨od,es,ep,k _ _ (.inr d) e2,c⟩,r⟩
  | own y=>obtain ⟨ob,e⟩:=x;exact ⟨ob,k _ _ (.inl rfl) e⟩
  | xd fs=>obtain ⟨mA,⟨od,es,ep,e,c⟩,r⟩:=x;exact ⟨mA,⟨od,es,ep,k _ _ (.inl rfl) e,c⟩,r⟩
  | rng lo hi=>obtain ⟨t,u,v,e⟩:=x;exact ⟨t,u,v,k _ _ (.inl rfl) e⟩
  | frz ob u ih=>obtain ⟨e,q⟩:=x;exact ⟨k _ _ (.inl rfl) e,ih q⟩
  | tbl ps=>
    have e:h.get? a=some { cls:= .none,data:= .fields ps }:=x
    show h'.get? a=some { cls:= .none,data:= .fields ps }
    exact k a _ (.inl rfl) e
  | met f y=>
    have e:h.get? a=some (PySem.W.methodObj (.ref f) (.ref y)):=x
    show h'.get? a=some (PySem.W.methodObj (.ref f) (.ref y))
    exact k a _ (.inl rfl) e
  | ext φ=>obtain ⟨p,⟨o,e⟩,st⟩:=x;exact ⟨st _ _ p fun o q=>k _ _ (.inl rfl) q,⟨o,k _ _ (.inl rfl) e⟩,st⟩
theorem HOk.lt (x:HOk P w H h) (e:H a=some o):a<h.objs.size:=(x a o e).lt
theorem HOk.fresh (x:HOk P w H h) (e:h.objs.size≤a):H a=none:=by
  cases q:H a with
  | none=>rfl
  | some u=>exact absurd (Nat.lt_of_lt_of_le (x.lt q) e) (Nat.lt_irrefl _)
theorem HOk.kept (x:HOk P w H h) (k:∀ b u,h.get? b=some u→h'.get? b=some u):HOk P w H h':=fun a o e=>
  (x a o e).stay (fun b u _ q=>k b u q) (fun _ q=>q) fun _ _ q=>q
theorem HOk.laid (x:HOk P w H h) (k:∀ b u,h.get? b=some u→h'.get? b=some u) (hp:h.objs.size≤a) (new:ObjOk P w (upd H a o) h' a o):HOk P w (upd H a o) h':=fun b u e=>by
  have hn:=x.fresh hp
  by_cases hb:b=a
  · subst hb;rw [upd_same] at e;cases e;exact new
  · rw [upd_ne hb] at e
    exact (x b u e).stay (fun c v _ q=>k c v q) (fun c q=>by rw [upd_ne (ne_of_none q hn)];exact q) fun c xs q=>by rw [upd_ne (ne_of_none q hn)];exact q
end
noncomputable def Rd (H:Hp) (a:Addr) (u:HO):Prop:=H a=some u∨∃ o,H a=some (.frz o u)
theorem Rd.of {H:Hp} {a:Addr} {u:HO} (h:H a=some u):Rd H a u:= .inl h
theorem Rd.ok {P:Program} {w:World} {H:Hp} {h:Heap} {a:Addr} {u:HO} (r:Rd H a u) (x:HOk P w H h):ObjOk P w H h a u:=by
  rcases r with r | ⟨o,r⟩
  · exact x a u r
  · obtain ⟨_,q⟩:=x a _ r
    exact q
noncomputable def Mut:Option HO→Prop
  | some (.lst _)=>True
  | some (.dK _)=>True
  | some (.dT _)=>True
  | some (.set _ _)=>True
  | some (.ins _ _ _)=>True
  | some (.ext _)=>True
  | _=>False
section
variable {P:Program} {w:World} {H:Hp} {h h':Heap} {x e:Addr} {o':HO}
theorem HOk.write (ok:HOk P w H h) (mu:Mut (H x)) (he:e=x∨H e=some (.own x)) (k:∀ b u,b≠e→h.get? b=some u→h'.get? b=some u) (heo:∃ u,h'.get? e=some u)
    (new:ObjOk P w (upd H x o') h' x o'):HOk P w (upd H x o') h':=fun b u q=>by
  have nown:∀ c y,H c=some (.own y)→c≠x:=fun c y r z=>by subst z;rw [r] at mu;exact mu
  have ntup:∀ c xs,H c=some (.tup xs)→c≠x:=fun c xs r z=>by subst z;rw [r] at mu;exact mu
  by_cases hb:b=x
  · subst hb;rw [upd_same] at q;cases q;exact new
  · rw [upd_ne hb] at q
    by_cases hbe:b=e
    · have q':H b=some (.own x):=by
        rcases he with z | z
        · exact absurd (hbe.trans z) hb
        · rw [hbe];exact z
      rw [q] at q';cases q'
      obtain ⟨v,hv⟩:=heo
      exact ⟨v,by rw [hbe];exact hv⟩
    · refine (ok b u q).stay (fun c v hc r=>k c v ?_ r) (fun c r=>by rw [upd_ne (nown c b r)];exact r) fun c xs r=>by rw [upd_ne (ntup c xs r)];exact r
      rcases hc with rfl | hc
      · exact hbe
      · rintro rfl
        rcases he with z | z
        · exact nown c b hc z
        · rw [hc] at z;cases z;exact hb rfl
end
structure Un (fs ex:List Addr) (H H':Hp) (h h':Heap):Prop where
  keep:∀ b o,h.get? b=some o→H b=none→b∉fs→b∉ex→h'.get? b=some o
  slot:∀ b o,h.get? b=some o→H b=none→b∈fs→b∉ex→∃ sl,h'.get? b=some { o with slots:=sl }
  free:∀ b o,h.get? b=some o→H b=none→b∉ex→H' b=none
  there:∀ b o,h.get? b=some o→b∉ex→∃ o',h'.get? b=some o'
  tups:∀ b xs,H b=some (.tup xs)→H' b=some (.tup xs)
  frzs:∀ b o u,H b=some (.frz o u)→H' b=some (.frz o u)
  tbls:∀ b ps,H b=some (.tbl ps)→∃ more,H' b=some (.tbl (ps++more))
section
variable {fs fs' ex ex':List Addr} {H H1 H2:Hp} {h h1 h2 h':Heap} {a x e:Addr} {o:HO}
theorem Un.any (u:Un fs ex H H1 h h1) {b:Addr} {ob:Obj} (q:h.get? b=some ob) (n:H b=none) (hx:b∉ex):∃ sl,h1.get? b=some { ob with slots:=sl }:=by
  by_cases hb:b∈fs
  · exact u.slot b ob q n hb hx
  · exact ⟨ob.slots,u.keep b ob q n hb hx⟩
theorem Un.kept (k:∀ b u,h.get? b=some u→h'.get? b=some u):Un fs ex H H h h':=
  ⟨fun b ob q _ _ _=>k b ob q,fun b ob q _ _ _=>⟨ob.slots,k b ob q⟩,fun _ _ _ n _=>n,fun b ob q _=>⟨ob,k b ob q⟩,fun _ _ q=>q,fun _ _ _ q=>q,fun _ ps q=>⟨#[],by rw [q];simp⟩⟩
theorem Un.refl:Un fs ex H H h h:=Un.kept fun _ _ q=>q
theorem Un.laid (k:∀ b u,h.get? b=some u→h'.get? b=some u) (hp:h.objs.size≤a) (hn:H a=none):Un fs ex H (upd H a o) h h' where
  keep:=fun b u q _ _ _=>k b u q
  slot:=fun b u q _ _ _=>⟨u.slots,k b u q⟩
  free:=fun b u q n _=>by rw [upd_ne (Nat.ne_of_lt (Nat.lt_of_lt_of_le (Heap.lt_size q) hp))];exact n
  there:=fun b u q _=>⟨u,k b u q⟩
  tups:=fun b xs q=>by rw [upd_ne (ne_of_none q hn)];exact q
  frzs:=fun b u xs q=>by rw [upd_ne (ne_of_none q hn)];exact q
  tbls:=fun b ps q=>⟨#[],by rw [upd_ne (ne_of_none q hn),q];simp⟩
theorem Un.write (mu:Mut (H x)) (he:e=x∨H e=some (.own x)) (k:∀ b u,b≠e→h.get? b=some u→h'.get? b=some u) (heo:∃ u,h'.get? e=some u):Un fs ex H (upd H x o) h h':=by
  have hx:∀ b,H b=none→b≠x:=fun b n z=>by subst z;rw [n] at mu;exact mu
  have hb:∀ b,H b=none→b≠e:=fun b n z=>by
    subst z
    rcases he with r | r
    · exact hx b n r
    · rw [n] at r;cases r
  have hm:∀ b u,H b=some u→¬ Mut (some u)→b≠x:=fun b u q nm z=>by subst z;rw [q] at mu;exact nm mu
  refine ⟨fun b u q n _ _=>k b u (hb b n) q,fun b u q n _ _=>⟨u.slots,k b u (hb b n) q⟩,fun b u q n _=>by rw [upd_ne (hx b n)];exact n,fun b u q _=> ?_,
    fun b xs q=>by rw [upd_ne (hm b _ q fun z=>z)];exact q,fun b u xs q=>by rw [upd_ne (hm b _ q fun z=>z)];exact q,fun b ps q=>⟨#[],by rw [upd_ne (hm b _ q fun z=>z),q];simp⟩⟩
  by_cases hbe:b=e
  · subst hbe;exact heo
  · exact ⟨u,k b u hbe q⟩
end
noncomputable def trk (h:Heap) (H:Hp):List Addr:=(List.range h.objs.size).filter fun a=>(H a).isSome
noncomputable def hidT (h:Heap) (H:Hp):Heap:=PySem.W.hideAll h (trk h H)
theorem hidT_size (h:Heap) (H:Hp):(hidT h H).objs.size=h.objs.size:=PySem.W.hideAll_size _ _
theorem hidT_get {h:Heap} {H:Hp} {b:Addr} {o:Obj} (e:h.get? b=some o) (n:H b=none):(hidT h H).get? b=some o:=
  PySem.W.hideAll_get _ e fun hm=>by
    have q:(H b).isSome=true:=(List.mem_filter.mp hm).2
    rw [n] at q;simp at q
theorem of_hidT {h:Heap} {H:Hp} {b:Addr} {o:Obj} (e:(hidT h H).get? b=some o):h.get? b=some o∧H b=none:=by
  have e':h.get? b=some o:=PySem.W.of_hideAll (trk h H) e
  refine ⟨e',?_⟩
  cases q:H b with
  | none=>rfl
  | some x=>
    have hm:b∈trk h H:=List.mem_filter.mpr ⟨List.mem_range.mpr (Heap.lt_size e'),by simp [q]⟩
    have z:(hidT h H).get? b=none:=PySem.W.hideAll_none (trk h H) hm
    rw [z] at e;cases e
noncomputable def allNews (g h:Heap) (L:Addr):List (Addr × Obj):=(List.range h.objs.size).filterMap fun a=>if a=L∨(g.get? a).isSome=true then none else (h.get? a).map fun o=>(a,o)
noncomputable def rest (g h:Heap) (L d:Addr):List (Addr × Obj):=(allNews g h L).filter fun p=>decide (p.1≠d)
end L2
namespace L2
open PySem PySem.Spec PyProof.Rows
structure Mod (K:PySem.W.Frag) (mg:Str→Option Value) (base:Heap):Prop where
  kin:K.In base
  glob:base.Ns mainGlobals mg
  blt:∃ mb,base.Ns builtinsNs mb∧∀ x:Str,x≠"__name__"→mb x=bootBuiltins x
  nolimit:base.NoLimit
structure Cx where
  prog:Program
  w:World
  K:PySem.W.Frag
  mg:Str→Option Value
  base:Heap
  A:Around
  N:List Str
  s₀:Shared
  H₀:Hp
  env:Env
  outer:List Env
  stack:List Env
  ex:List Addr
  fn:Str→Bool
  calm:Bool
  pn:List (Addr × Obj)
  xe:Value→Shared→Prop
noncomputable def frs (l:List Env):List Addr:=l.filterMap (·.frame)
noncomputable abbrev Cx.fs (X:Cx):List Addr:=frs X.outer
noncomputable def Vis (sc:Scope) (x:Str):Prop:=sc.names.lookup x=some .local∨sc.names.lookup x=some .cell∨sc.names.lookup x=some .free
noncomputable def Loc (sc:Scope) (x:Str):Prop:=sc.names.lookup x=some .local∨sc.names.lookup x=some .cell
noncomputable def Look (env:Env) (h:Heap) (m:Str→Option Value) (x:Str) (u:Value):Prop:=
  (env.kindOf x=some .local∧m x=some u)∨((env.kindOf x=some .cell∨env.kindOf x=some .free)∧∃ c,env.cells.lookup x=some c∧h.IsCell c (some u))
structure Cx.Ok (X:Cx):Prop where
  mod:Mod X.K X.mg X.base
  kind:X.env.scope.kind= .function
  glob:X.env.globals=mainGlobals
  blt:X.env.builtins=builtinsNs
  above:X.s₀.heap.objs.size≤X.env.locals
  inj:∀ x y c,X.env.cells.lookup x=some c→X.env.cells.lookup y=some c→x=y
  has:∀ x,(X.env.kindOf x=some .cell∨X.env.kindOf x=some .free)→∃ c,X.env.cells.lookup x=some c
  cab:∀ x c,X.fn x=true→X.env.cells.lookup x=some c→X.s₀.heap.objs.size≤c
  hd:X.calm=true→X.A.handled=none
  frames:X.A.frames=some X.stack
  stk:X.stack=X.outer∨(X.stack=X.env::X.outer∧X.env.frame=some X.env.locals)
  exf:∀ b∈X.ex,b≠X.env.locals∧∀ x c,X.env.cells.lookup x=some c→c≠b
  bs:∀ b o,X.base.get? b=some o→X.s₀.heap.get? b=some o∧X.H₀ b=none
  bsz:X.base.objs.size≤X.s₀.heap.objs.size
  noex:∀ b o,X.base.get? b=some o→b∉X.ex
  exfs:∀ b∈X.ex,b∉X.fs
  funs:X.s₀.heap.FunFrames X.base X.outer
  frf:∀ b∈X.fs,X.H₀ b=none
structure Inv (X:Cx) (pins:List (Addr × Obj)) (σ:List (Option V)) (H:Hp) (s:Shared):Prop where
  ok:X.Ok
  os:s.os=X.s₀.os
  bare:AllBare s.gens
  base:Un X.fs X.ex X.H₀ H X.s₀.heap s.heap
  loc:∃ m,s.heap.Ns X.env.locals m∧∀ (i:Nat) (x:Str) (v:V),X.N[i]?=some x→σ[i]?=some (some v)→Vis X.env.scope x→∃ u,RelV v u∧Look X.env s.heap m x u
  cell:∀ x c,X.env.cells.lookup x=some c→∃ v,s.heap.IsCell c v
  free:H X.env.locals=none
  freeC:∀ x c,X.env.cells.lookup x=some c→H c=none
  pin:∀ p∈X.pn++pins,s.heap.get? p.1=some p.2∧H p.1=none∧p.1≠X.env.locals∧p.1∉X.fs∧∀ v,p.2.data≠ .cell v
  hok:HOk X.prog X.w H s.heap
  len:σ.length=X.N.length
section
variable {X:Cx} {pins:List (Addr × Obj)} {σ:List (Option V)} {H H':Hp} {s:Shared} {h':Heap}
theorem Cx.Ok.nofr (ok:X.Ok) {b:Addr} {o:Obj} (e:X.base.get? b=some o):b∉X.fs:=fun hb=>by
  have:=(ok.funs.mem hb).1
  rw [e] at this;cases this
theorem Inv.bs (I:Inv X pins σ H s):∀ b o,X.base.get? b=some o→s.heap.get? b=some o∧H b=none:=fun b o e=>
  ⟨I.base.keep b o (I.ok.bs b o e).1 (I.ok.bs b o e).2 (I.ok.nofr e) (I.ok.noex b o e),I.base.free b o (I.ok.bs b o e).1 (I.ok.bs b o e).2 (I.ok.noex b o e)⟩
theorem Inv.bk (I:Inv X pins σ H s):∀ b o,X.base.get? b=some o→s.heap.get? b=some o:=fun b o e=>(I.bs b o e).1
theorem Inv.mod (I:Inv X pins σ H s):Mod X.K X.mg X.base:=I.ok.mod
theorem Inv.kIn (I:Inv X pins σ H s):X.K.In s.heap:=I.ok.mod.kin.keeps I.bk
theorem Inv.fr (I:Inv X pins σ H s):∃ m,Fr X.base X.env.locals s.heap m:=
  let ⟨m,hn,_⟩:=I.loc
  ⟨m,hn,I.bk,Nat.le_trans I.ok.bsz I.ok.above⟩
theorem Inv.lt (I:Inv X pins σ H s):X.env.locals<s.heap.objs.size:=let ⟨_,hn,_⟩:=I.loc;hn.lt
theorem Inv.sz (I:Inv X pins σ H s):X.s₀.heap.objs.size≤s.heap.objs.size:=Nat.le_trans I.ok.above (Nat.le_of_lt I.lt)
theorem Inv.nofs (I:Inv X pins σ H s) {a:Addr} (h:s.heap.objs.size≤a):a∉X.fs:=fun hb=>by
  obtain ⟨_,o,ho,_⟩:=I.ok.funs.mem hb
  exact absurd (Nat.lt_of_lt_of_le (Heap.lt_size ho) (Nat.le_trans I.sz h)) (Nat.lt_irrefl _)
theorem Inv.cne (I:Inv X pins σ H s):∀ x c,X.env.cells.lookup x=some c→c≠X.env.locals:=fun x c e z=>by
  obtain ⟨v,o,ho,hd⟩:=I.cell x c e
  obtain ⟨m,⟨o',es,ep,ho',hd',_⟩,_⟩:=I.loc
  rw [z,ho'] at ho;cases ho;rw [hd'] at hd;cases hd
theorem Inv.funs (I:Inv X pins σ H s):s.heap.FunFrames X.base X.outer:=by
  have all:∀ (l:List Env),(∀ b∈frs l,b∈X.fs)→X.s₀.heap.FunFrames X.base l→s.heap.FunFrames X.base l:=by
    intro l
    induction l with
    | nil=>intro _ _;trivial
    | cons env r ih=>
      intro hs hl
      obtain ⟨hk,⟨L,o,hf,hn,ho,hd⟩,hr⟩:=hl
      have hL:L∈X.fs:=hs L (by unfold frs;rw [List.filterMap_cons,hf];exact List.mem_cons_self)
      obtain ⟨sl,e⟩:=I.base.slot L o ho (I.ok.frf L hL) hL fun z=>I.ok.exfs L z hL
      exact ⟨hk,⟨L,_,hf,hn,e,hd⟩,ih (fun b hb=>hs b (by unfold frs;rw [List.filterMap_cons,hf];exact List.mem_cons_of_mem _ hb)) hr⟩
  exact all X.outer (fun _ hb=>hb) I.ok.funs
theorem Inv.stack (I:Inv X pins σ H s):s.heap.FunFrames X.base X.stack:=by
  rcases I.ok.stk with e | ⟨e,hf⟩
  · rw [e];exact I.funs
  · rw [e]
    obtain ⟨m,hn,_⟩:=I.loc
    refine .cons (by rw [I.ok.kind];decide) hf hn ?_ I.funs
    exact Heap.get?_none_of_le (Nat.le_trans I.ok.bsz I.ok.above)
theorem Inv.stkSub (I:Inv X pins σ H s):∀ b∈frs X.stack,b∈X.env.locals::X.fs:=fun b hb=>by
  rcases I.ok.stk with e | ⟨e,hf⟩
  · rw [e] at hb;exact List.mem_cons_of_mem _ hb
  · rw [e] at hb
    unfold frs at hb
    rw [List.filterMap_cons,hf] at hb
    exact hb
theorem Inv.stkFree (I:Inv X pins σ H s):∀ b∈frs X.stack,H b=none:=fun b hb=>by
  rcases List.mem_cons.mp (I.stkSub b hb) with e | hb
  · rw [e];exact I.free
  · obtain ⟨_,o,ho,_⟩:=I.ok.funs.mem hb
    exact I.base.free b o ho (I.ok.frf b hb) fun z=>I.ok.exfs b z hb
theorem Inv.step {g':Array GenState} {t':Nat} {d':Drawn} {ch:List Addr} (I:Inv X pins σ H s)
    (hch:∀ b∈ch,(b∈X.ex∨X.s₀.heap.objs.size≤b)∧b≠X.env.locals∧(∀ x c,X.env.cells.lookup x=some c→c≠b)∧∀ p∈X.pn++pins,p.1≠b)
    (keep:∀ b o,b≠X.env.locals→b∉X.fs→b∉ch→s.heap.get? b=some o→H b=none→h'.get? b=some o)
    (slot:∀ b o,b≠X.env.locals→b∈X.fs→b∉ch→s.heap.get? b=some o→H b=none→∃ sl,h'.get? b=some { o with slots:=sl }) (free:∀ b o,b∉ch→s.heap.get? b=some o→H b=none→H' b=none)
    (there:∀ b o,b∉ch→s.heap.get? b=some o→∃ o',h'.get? b=some o')
    (tups:∀ b xs,H b=some (.tup xs)→H' b=some (.tup xs)) (frzs:∀ b o u,H b=some (.frz o u)→H' b=some (.frz o u)) (tbls:∀ b ps,H b=some (.tbl ps)→∃ more,H' b=some (.tbl (ps++more)))
    (ns:∀ m,s.heap.Ns X.env.locals m→h'.Ns X.env.locals m) (hok:HOk X.prog X.w H' h') (hg:AllBare g'):
    Inv X pins σ H' { s with heap:=h',gens:=g',drawn:=d',toks:=t' }:=by
  have neL:∀ b o,X.s₀.heap.get? b=some o→b≠X.env.locals:=fun b o e=>Nat.ne_of_lt (Nat.lt_of_lt_of_le (Heap.lt_size e) I.ok.above)
  have neC:∀ b o,X.s₀.heap.get? b=some o→b∉X.ex→b∉ch:=fun b o e hx hb=>by
    rcases (hch b hb).1 with z | z
    · exact hx z
    · exact absurd (Nat.lt_of_lt_of_le (Heap.lt_size e) z) (Nat.lt_irrefl _)
  have cellK:∀ x c,X.env.cells.lookup x=some c→∀ v,s.heap.IsCell c v→h'.IsCell c v:=fun x c e v ⟨o,ho,hd⟩=>by
    have nch:c∉ch:=fun z=>(hch c z).2.2.1 x c e rfl
    by_cases hc:c∈X.fs
    · obtain ⟨sl,q⟩:=slot c o (I.cne x c e) hc nch ho (I.freeC x c e)
      exact ⟨_,q,hd⟩
    · exact ⟨o,keep c o (I.cne x c e) hc nch ho (I.freeC x c e),hd⟩
  refine ⟨I.ok,I.os,hg,⟨fun b o e n hb hx=> ?_,fun b o e n hb hx=> ?_,fun b o e n hx=> ?_,fun b o e hx=> ?_,fun b xs e=>tups b xs (I.base.tups b xs e),fun b o xs e=>frzs b o xs (I.base.frzs b o xs e),fun b ps e=> ?_⟩,?_,fun x c e=> ?_,?_,fun x c e=> ?_,fun p hp=> ?_,hok,I.len⟩
  · exact keep b o (neL b o e) hb (neC b o e hx) (I.base.keep b o e n hb hx) (I.base.free b o e n hx)
  · obtain ⟨sl,e1⟩:=I.base.slot b o e n hb hx
    obtain ⟨sl',e2⟩:=slot b _ (neL b o e) hb (neC b o e hx) e1 (I.base.free b o e n hx)
    exact ⟨sl',e2⟩
  · obtain ⟨o',e1⟩:=I.base.there b o e hx
    exact free b o' (neC b o e hx) e1 (I.base.free b o e n hx)
  · obtain ⟨o',e1⟩:=I.base.there b o e hx
    exact there b o' (neC b o e hx) e1
  · obtain ⟨m1,e1⟩:=I.base.tbls b ps e
    obtain ⟨m2,e2⟩:=tbls b _ e1
    exact ⟨m1++m2,by rw [e2,Array.append_assoc]⟩
  · obtain ⟨m,hn,hl⟩:=I.loc
    refine ⟨m,ns m hn,fun i x v e1 e2 e3=> ?_⟩
    obtain ⟨u,r,l⟩:=hl i x v e1 e2 e3
    refine ⟨u,r,?_⟩
    rcases l with l | ⟨k,c,e,z⟩
    · exact .inl l
    · exact .inr ⟨k,c,e,cellK x c e _ z⟩
  · obtain ⟨v,z⟩:=I.cell x c e
    exact ⟨v,cellK x c e v z⟩
  · obtain ⟨m,⟨o,_,_,ho,_⟩,_⟩:=I.loc
    exact free _ o (fun z=>(hch _ z).2.1 rfl) ho I.free
  · obtain ⟨v,o,ho,hd⟩:=I.cell x c e
    exact free c o (fun z=>(hch c z).2.2.1 x c e rfl) ho (I.freeC x c e)
  · obtain ⟨e,n,ne,nf,d⟩:=I.pin p hp
    have nch:p.1∉ch:=fun z=>(hch p.1 z).2.2.2 p hp rfl
    exact ⟨keep p.1 p.2 ne nf nch e n,free p.1 p.2 nch e n,ne,nf,d⟩
theorem Inv.un {t':Nat} (I:Inv X pins σ H s) (u:Un X.fs [] H H' s.heap h') (hok:HOk X.prog X.w H' h'):Inv X pins σ H' { s with heap:=h',toks:=t' }:=by
  obtain ⟨m,⟨o,es,ep,ho,r⟩,_⟩:=id I.loc
  obtain ⟨sl,hL⟩:=u.any ho I.free (by simp)
  exact I.step (g':=s.gens) (d':=s.drawn) (ch:=[]) (fun _ z=>nomatch z) (fun b o _ hb _ e n=>u.keep b o e n hb (by simp)) (fun b o _ hb _ e n=>u.slot b o e n hb (by simp)) (fun b o _ e n=>u.free b o e n (by simp)) (fun b o _ e=>u.there b o e (by simp)) u.tups u.frzs u.tbls (fun m' hm=>by
    obtain ⟨o',es',ep',ho',r'⟩:=hm
    rw [ho] at ho';cases ho'
    exact ⟨_,es',ep',hL,r'⟩) hok I.bare
theorem Inv.call {g':Array GenState} {t':Nat} {d':Drawn} {ch:List Addr} (I:Inv X pins σ H s) (u:Un (frs X.stack) ch H H' s.heap h') (hok:HOk X.prog X.w H' h') (hg:AllBare g')
    (hch:∀ b∈ch,(b∈X.ex∨X.s₀.heap.objs.size≤b)∧b≠X.env.locals∧(∀ x c,X.env.cells.lookup x=some c→c≠b)∧∀ p∈X.pn++pins,p.1≠b):
    Inv X pins σ H' { s with heap:=h',gens:=g',drawn:=d',toks:=t' }:=by
  obtain ⟨m,⟨o,es,ep,ho,r⟩,_⟩:=id I.loc
  obtain ⟨sl,hL⟩:=u.any ho I.free fun z=>(hch _ z).2.1 rfl
  exact I.step (ch:=ch) hch (fun b o hL hb hc e n=>u.keep b o e n (fun z=>(List.mem_cons.mp (I.stkSub b z)).elim hL hb) hc) (fun b o _ _ hc e n=>u.any e n hc) (fun b o hc e n=>u.free b o e n hc) (fun b o hc e=>u.there b o e hc) u.tups u.frzs u.tbls (fun m' hm=>by
    obtain ⟨o',es',ep',ho',r'⟩:=hm
    rw [ho] at ho';cases ho'
    exact ⟨_,es',ep',hL,r'⟩) hok hg
theorem Inv.turned {t':Nat} {it:Addr} (I:Inv X pins σ H s) (k:∀ b o,b≠it→s.heap.get? b=some o→h'.get? b=some o) (hn:H it=none) (hL:it≠X.env.locals)
    (h1:it∈X.ex∨X.s₀.heap.objs.size≤it) (h2:∀ x c,X.env.cells.lookup x=some c→c≠it) (h3:∀ p∈X.pn++pins,p.1≠it):Inv X pins σ H { s with heap:=h',toks:=t' }:=by
  have nit:∀ b u,H b=some u→b≠it:=fun b u e z=>by rw [z,hn] at e;cases e
  refine I.step (g':=s.gens) (d':=s.drawn) (ch:=[it]) (fun b hb=> ?_) (fun b o _ _ hc e _=>k b o (fun z=>hc (by simp [z])) e) (fun b o _ _ hc e _=>⟨o.slots,k b o (fun z=>hc (by simp [z])) e⟩) (fun _ _ _ _ n=>n)
    (fun b o hc e=>⟨o,k b o (fun z=>hc (by simp [z])) e⟩) (fun _ _ e=>e) (fun _ _ _ e=>e) (fun b ps e=>⟨#[],by rw [e];simp⟩) (fun m hm=> ?_) (fun b u e=> ?_) I.bare
  · have e:b=it:=by simpa using hb
    subst e
    exact ⟨h1,hL,h2,h3⟩
  · obtain ⟨o,es,ep,ho,r⟩:=hm
    exact ⟨o,es,ep,k _ o (Ne.symm hL) ho,r⟩
  · refine (I.hok b u e).stay (fun c v hc q=>k c v ?_ q) (fun _ q=>q) fun _ _ q=>q
    rcases hc with z | z
    · rw [z];exact nit b u e
    · exact nit c _ z
theorem Inv.tok (I:Inv X pins σ H s) (t:Nat):Inv X pins σ H { s with toks:=t }:=I.un (h':=s.heap) (t':=t) Un.refl I.hok
theorem Inv.kept {t':Nat} (I:Inv X pins σ H s) (k:∀ b u,s.heap.get? b=some u→h'.get? b=some u):Inv X pins σ H { s with heap:=h',toks:=t' }:=I.un (Un.kept k) (I.hok.kept k)
theorem Inv.laid {a:Addr} {o:HO} {t':Nat} (I:Inv X pins σ H s) (k:∀ b u,s.heap.get? b=some u→h'.get? b=some u) (hp:s.heap.objs.size≤a) (new:ObjOk X.prog X.w (upd H a o) h' a o):
    Inv X pins σ (upd H a o) { s with heap:=h',toks:=t' }:=I.un (Un.laid k hp (I.hok.fresh hp)) (I.hok.laid k hp new)
theorem Inv.write {x e:Addr} {o:HO} {t':Nat} (I:Inv X pins σ H s) (mu:Mut (H x)) (he:e=x∨H e=some (.own x)) (k:∀ b u,b≠e→s.heap.get? b=some u→h'.get? b=some u) (heo:∃ u,h'.get? e=some u)
    (new:ObjOk X.prog X.w (upd H x o) h' x o):Inv X pins σ (upd H x o) { s with heap:=h',toks:=t' }:=I.un (Un.write mu he k heo) (I.hok.write mu he k heo new)
theorem Inv.weak {σ':List (Option V)} (I:Inv X pins σ H s) (hl:σ'.length=σ.length) (w:∀ (i:Nat) v,σ'[i]?=some (some v)→σ[i]?=some (some v)):Inv X pins σ' H s:=
  ⟨I.ok,I.os,I.bare,I.base,let ⟨m,hn,hl'⟩:=I.loc;⟨m,hn,fun i x v e1 e2 e3=>hl' i x v e1 (w i v e2) e3⟩,I.cell,I.free,I.freeC,I.pin,I.hok,hl.trans I.len⟩
theorem Inv.pins_of {pins':List (Addr × Obj)} (I:Inv X pins σ H s) (h:∀ p∈pins',s.heap.get? p.1=some p.2∧H p.1=none∧p.1≠X.env.locals∧p.1∉X.fs∧∀ v,p.2.data≠ .cell v):Inv X pins' σ H s:=
  ⟨I.ok,I.os,I.bare,I.base,I.loc,I.cell,I.free,I.freeC,fun p hp=>(List.mem_append.mp hp).elim (fun z=>I.pin p (List.mem_append_left _ z)) (h p),I.hok,I.len⟩
theorem nodup_ix {N:List Str} (hN:N.Nodup) {i j:Nat} {x:Str} (a:N[i]?=some x) (b:N[j]?=some x):i=j:=by
  obtain ⟨h1,e1⟩:=List.getElem?_eq_some_iff.mp a
  obtain ⟨h2,e2⟩:=List.getElem?_eq_some_iff.mp b
  exact (List.getElem_inj hN).mp (e1.trans e2.symm)
theorem store_ok2 {M:Model} {A:Around} {E:Value→Shared→Prop} {i:Nat} {x:Str} {v:V} {u:Value} {Q:Unit→Shared→Prop} (I:Inv X pins σ H s) (hN:X.N.Nodup) (hi:X.N[i]?=some x) (hx:Loc X.env.scope x) (r:RelV v u)
    (h:∀ s',Inv X pins (σ.set i (some v)) H s'→(∃ a,Heap.SameBut a s.heap s'.heap∧(a=X.env.locals∨X.env.cells.lookup x=some a))→Q () s') (hf:X.fn x=true∨X.env.scope.names.lookup x=some .local:=by first | exact .inl rfl | exact .inr rfl | assumption):wpAny M A (storeName X.env x u) Q E s:=by
  obtain ⟨m,hn,hl⟩:=id I.loc
  have hcls:(X.env.scope.kind == .class||(X.env.scope.kind == .module&&X.env.locals != X.env.globals))=false:=by rw [I.ok.kind];rfl
  have hiσ:i<σ.length:=by rw [I.len];exact (List.getElem?_eq_some_iff.mp hi).1
  have cne:=I.cne
  have tracked:∀ {a:Addr} {h':Heap},(∃ o,s.heap.get? a=some o∧H a=none)→Heap.SameBut a s.heap h'→HOk X.prog X.w H h':=fun {a h'} ha hs b ob e=>by
    obtain ⟨_,_,hfree⟩:=ha
    refine (I.hok b ob e).stay (fun c w' hc q=>(hs.2 c ?_).trans q) (fun _ q=>q) fun _ _ q=>q
    rintro rfl
    rcases hc with rfl | hc
    · rw [hfree] at e;cases e
    · rw [hfree] at hc;cases hc
  rcases hx with hk | hk
  · refine wpAny_storeName_local hk hn (fun h' hn' hs=> ?_) hcls
    obtain ⟨oL,_,_,hoL,_⟩:=id hn
    refine h _ ⟨I.ok,I.os,I.bare,⟨fun b o e n hb hx=> ?_,fun b o e n hb hx=> ?_,I.base.free,fun b o e hx=> ?_,I.base.tups,I.base.frzs,I.base.tbls⟩,⟨_,hn',fun j y v' e1 e2 e3=> ?_⟩,fun y c e=> ?_,I.free,I.freeC,fun p hp=> ?_,tracked ⟨oL,hoL,I.free⟩ hs,by simpa using I.len⟩ ⟨_,hs, .inl rfl⟩
    · exact (hs.2 b (Nat.ne_of_lt (Nat.lt_of_lt_of_le (Heap.lt_size e) I.ok.above))).trans (I.base.keep b o e n hb hx)
    · obtain ⟨sl,e1⟩:=I.base.slot b o e n hb hx
      exact ⟨sl,(hs.2 b (Nat.ne_of_lt (Nat.lt_of_lt_of_le (Heap.lt_size e) I.ok.above))).trans e1⟩
    · obtain ⟨o',e1⟩:=I.base.there b o e hx
      exact ⟨o',(hs.2 b (Nat.ne_of_lt (Nat.lt_of_lt_of_le (Heap.lt_size e) I.ok.above))).trans e1⟩
    · by_cases hj:j=i
      · subst hj
        rw [hi] at e1;cases e1
        rw [List.getElem?_set_self hiσ] at e2
        cases e2
        exact ⟨u,r, .inl ⟨hk,by simp⟩⟩
      · rw [List.getElem?_set_ne (Ne.symm hj)] at e2
        obtain ⟨u',r',q⟩:=hl j y v' e1 e2 e3
        refine ⟨u',r',?_⟩
        rcases q with ⟨k,e⟩ | ⟨k,c,e,z⟩
        · refine .inl ⟨k,?_⟩
          have:y≠x:=fun e=>hj (nodup_ix hN e1 (e▸hi))
          simp [this,e]
        · exact .inr ⟨k,c,e,z.sameBut hs (cne y c e)⟩
    · obtain ⟨w',z⟩:=I.cell y c e
      exact ⟨w',z.sameBut hs (cne y c e)⟩
    · obtain ⟨e,n,ne,nf,d⟩:=I.pin p hp
      exact ⟨(hs.2 p.1 ne).trans e,n,ne,nf,d⟩
  · have hfn:X.fn x=true:=by
      rcases hf with z | z
      · exact z
      · rw [z] at hk;cases hk
    obtain ⟨c,hc⟩:=I.ok.has x (.inl hk)
    obtain ⟨w',z⟩:=I.cell x c hc
    refine wpAny_storeName_cell I.ok.kind hk hc z (fun h' hc' hs=> ?_)
    obtain ⟨oc,hoc,hocd⟩:=id z
    refine h { s with heap:=h' } ⟨I.ok,I.os,I.bare,⟨fun b o e n hb hx=> ?_,fun b o e n hb hx=> ?_,I.base.free,fun b o e hx=> ?_,I.base.tups,I.base.frzs,I.base.tbls⟩,⟨m,hn.sameBut hs (Ne.symm (cne x c hc)),fun j y v' e1 e2 e3=> ?_⟩,fun y c' e=> ?_,I.free,I.freeC,fun p hp=> ?_,tracked ⟨oc,hoc,I.freeC x c hc⟩ hs,by simpa using I.len⟩ ⟨c,hs, .inr hc⟩
    · exact (hs.2 b (Nat.ne_of_lt (Nat.lt_of_lt_of_le (Heap.lt_size e) (I.ok.cab x c hfn hc)))).trans (I.base.keep b o e n hb hx)
    · obtain ⟨sl,e1⟩:=I.base.slot b o e n hb hx
      exact ⟨sl,(hs.2 b (Nat.ne_of_lt (Nat.lt_of_lt_of_le (Heap.lt_size e) (I.ok.cab x c hfn hc)))).trans e1⟩
    · obtain ⟨o',e1⟩:=I.base.there b o e hx
      exact ⟨o',(hs.2 b (Nat.ne_of_lt (Nat.lt_of_lt_of_le (Heap.lt_size e) (I.ok.cab x c hfn hc)))).trans e1⟩
    · by_cases hj:j=i
      · subst hj
        rw [hi] at e1;cases e1
        rw [List.getElem?_set_self hiσ] at e2
        cases e2
        exact ⟨u,r, .inr ⟨.inl hk,c,hc,hc'⟩⟩
      · rw [List.getElem?_set_ne (Ne.symm hj)] at e2
        obtain ⟨u',r',q⟩:=hl j y v' e1 e2 e3
        refine ⟨u',r',?_⟩
        rcases q with q | ⟨k,c',e,z'⟩
        · exact .inl q
        · refine .inr ⟨k,c',e,z'.sameBut hs ?_⟩
          rintro rfl
          exact hj (nodup_ix hN e1 (I.ok.inj _ _ _ e hc▸hi))
    · by_cases hcc:c'=c
      · subst hcc;exact ⟨_,hc'⟩
      · obtain ⟨w2,z2⟩:=I.cell y c' e
        exact ⟨w2,z2.sameBut hs hcc⟩
    · obtain ⟨e,n,ne,nf,d⟩:=I.pin p hp
      refine ⟨(hs.2 p.1 ?_).trans e,n,ne,nf,d⟩
      intro q
      rw [q,hoc] at e
      have q':oc=p.2:=Option.some.inj e
      exact d w' (by rw [← q'];exact hocd)
theorem store_ok {M:Model} {A:Around} {E:Value→Shared→Prop} {i:Nat} {x:Str} {v:V} {u:Value} {Q:Unit→Shared→Prop} (I:Inv X pins σ H s) (hN:X.N.Nodup) (hi:X.N[i]?=some x) (hx:Loc X.env.scope x) (r:RelV v u)
    (h:∀ s',Inv X pins (σ.set i (some v)) H s'→Q () s') (hf:X.fn x=true∨X.env.scope.names.lookup x=some .local:=by first | exact .inl rfl | exact .inr rfl | assumption):wpAny M A (storeName X.env x u) Q E s:=
  store_ok2 I hN hi hx r (fun s' I' _=>h s' I') hf
theorem Inv.call' {s':Shared} {ch:List Addr} (I:Inv X pins σ H s) (ho:s'.os=s.os) (u:Un (frs X.stack) ch H H' s.heap s'.heap) (hok:HOk X.prog X.w H' s'.heap) (hg:AllBare s'.gens)
    (hch:∀ b∈ch,(b∈X.ex∨X.s₀.heap.objs.size≤b)∧b≠X.env.locals∧(∀ x c,X.env.cells.lookup x=some c→c≠b)∧∀ p∈X.pn++pins,p.1≠b):Inv X pins σ H' s':=by
  obtain ⟨h',g',d',t',o'⟩:=s'
  have e:o'=s.os:=ho
  subst e
  exact I.call (g':=g') (t':=t') (d':=d') u hok hg hch
end
noncomputable abbrev XK:=Value→Option Addr→Hp→Prop
noncomputable abbrev St:=List (Option V)
noncomputable abbrev VK:=V→Hp→Prop
noncomputable abbrev TE:=St→Hp→VK→Prop
noncomputable abbrev TT:=St→Hp→(Bool→Hp→Prop)→Prop
noncomputable abbrev TA:=St→Hp→(List V→Hp→Prop)→Prop
structure Ends where
  nx:St→Hp→Prop
  rt:VK
  bk:St→Hp→Prop:=fun _ _=>False
  ct:St→Hp→Prop:=fun _ _=>False
noncomputable abbrev TS:=Ends→St→Hp→Prop
noncomputable def EP (X:Cx) (pins:List (Addr × Obj)) (σ:St) (Q:VK) (u:Value) (s':Shared):Prop:=∃ v H',Inv X pins σ H' s'∧RelV v u∧Q v H'
noncomputable def TP (X:Cx) (pins:List (Addr × Obj)) (σ:St) (Q:Bool→Hp→Prop) (b:Bool) (s':Shared):Prop:=∃ H',Inv X pins σ H' s'∧Q b H'
noncomputable def AP (X:Cx) (pins:List (Addr × Obj)) (σ:St) (Q:List V→Hp→Prop) (us:List Value) (s':Shared):Prop:=∃ vs H',Inv X pins σ H' s'∧Vals vs us∧Q vs H'
noncomputable def SP (X:Cx) (pins:List (Addr × Obj)) (D:Ends) (f:Flow) (s':Shared):Prop:=
  match f with
  | .next=>∃ σ' H',Inv X pins σ' H' s'∧D.nx σ' H'
  | .brk=>∃ σ' H',Inv X pins σ' H' s'∧D.bk σ' H'
  | .cont=>∃ σ' H',Inv X pins σ' H' s'∧D.ct σ' H'
  | .ret u=>∃ v σ' H',Inv X pins σ' H' s'∧RelV v u∧D.rt v H'
noncomputable def PE (X:Cx) (e:Expr) (t:TE):Prop:=
  ∀ (pins:List (Addr × Obj)) (s:Shared) (σ:St) (H:Hp) (Q:VK),Inv X pins σ H s→t σ H Q→wpAny (model X.prog X.w) X.A (eval e X.env) (EP X pins σ Q) X.xe s
noncomputable def PT (X:Cx) (e:Expr) (t:TT):Prop:=
  ∀ (pins:List (Addr × Obj)) (s:Shared) (σ:St) (H:Hp) (Q:Bool→Hp→Prop),Inv X pins σ H s→t σ H Q→wpAny (model X.prog X.w) X.A (isTrue e X.env (eval e X.env)) (TP X pins σ Q) X.xe s
noncomputable def PW (X:Cx) (e:Expr) (t:TT):Prop:=
  ∀ (whole:Sem Value) (pins:List (Addr × Obj)) (s:Shared) (σ:St) (H:Hp) (Q:Bool→Hp→Prop),Inv X pins σ H s→t σ H Q→wpAny (model X.prog X.w) X.A (isTrue e X.env whole) (TP X pins σ Q) X.xe s
theorem PW.pt {X:Cx} {e:Expr} {t:TT} (h:PW X e t):PT X e t:=h _
noncomputable def PA (X:Cx) (es:List Expr) (t:TA):Prop:=
  ∀ (pos:Pos) (pins:List (Addr × Obj)) (s:Shared) (σ:St) (H:Hp) (Q:List V→Hp→Prop),Inv X pins σ H s→t σ H Q→wpAny (model X.prog X.w) X.A (spliced (backTo pos (starEach es X.env))) (AP X pins σ Q) X.xe s
noncomputable def PS (X:Cx) (st:Stmt) (t:TS):Prop:=
  ∀ (pins:List (Addr × Obj)) (s:Shared) (σ:St) (H:Hp) (D:Ends),Inv X pins σ H s→t D σ H→wpAny (model X.prog X.w) X.A (exec st X.env) (SP X pins D) X.xe s
noncomputable def PSs (X:Cx) (st:List Stmt) (t:TS):Prop:=
  ∀ (pins:List (Addr × Obj)) (s:Shared) (σ:St) (H:Hp) (D:Ends),Inv X pins σ H s→t D σ H→wpAny (model X.prog X.w) X.A (execs st X.env) (SP X pins D) X.xe s
theorem thn {α:Type} {t:Sem α} {Q Q':α→Shared→Prop} {M:Model} {A:Around} {E:Value→Shared→Prop} {s:Shared} (h:wpAny M A t Q E s) (hQ:∀ a s,Q a s→Q' a s):wpAny M A t Q' E s:=wpAny_mono h hQ fun _ _ x=>x
end L2
namespace L2
open PySem PySem.Spec PyProof.Rows
section
variable {X:Cx}
theorem bin {a b:Expr} {ta tb:TE} (ha:PE X a ta) (hb:PE X b tb) {pins:List (Addr × Obj)} {s:Shared} {σ:St} {H:Hp} {R:V→V→Hp→Prop} (I:Inv X pins σ H s) (h:ta σ H fun x H1=>tb σ H1 fun y H2=>R x y H2)
    {α:Type} {Q:α→Shared→Prop} {f:Value→Value→Sem α}
    (hf:∀ v u s2 x y H2,Inv X pins σ H2 s2→RelV x v→RelV y u→R x y H2→wpAny (model X.prog X.w) X.A (f v u) Q X.xe s2):
    wpAny (model X.prog X.w) X.A (eval a X.env) (fun v s₁=>wpAny (model X.prog X.w) X.A (eval b X.env) (fun u s₂=>wpAny (model X.prog X.w) X.A (f v u) Q X.xe s₂) X.xe s₁) X.xe s:=by
  refine thn (ha pins s σ H _ I h) fun v s1 ⟨x,H1,I1,r1,q1⟩=> ?_
  refine thn (hb pins s1 σ H1 _ I1 q1) fun u s2 ⟨y,H2,I2,r2,q2⟩=> ?_
  exact hf v u s2 x y H2 I2 r1 r2 q2
noncomputable def tVar (i:Nat):TE:=fun σ H Q=>∃ v,σ[i]?=some (some v)∧Q v H
noncomputable def tC (v:V):TE:=fun _ H Q=>Q v H
theorem pe_var {i:Nat} {x:Str} {pos:Pos} (hN:X.N[i]?=some x) (hv:Vis X.env.scope x) (hd:(x == ("__debug__":Str))=false:=by decide) (hcd:(x == ("__classdict__":Str))=false:=by decide):PE X (.Name x pos) (tVar i):=by
  intro pins s σ H Q I h
  obtain ⟨v,e,h⟩:=h
  obtain ⟨m,hn,hl⟩:=I.loc
  obtain ⟨u,r,l⟩:=hl i x v hN e hv
  have fin:EP X pins σ Q u s:=⟨v,H,I,r,h⟩
  rcases l with ⟨hk,hm⟩ | ⟨hk,c,hc,hcell⟩
  · exact wpAny_Name (wpAny_loadName_local I.ok.kind hk hn hm fin) hd
  · rcases hk with hk | hk
    · exact wpAny_Name (wpAny_loadName_cell I.ok.kind hk hc hcell fin) hd
    · exact wpAny_Name (wpAny_loadName_free I.ok.kind hk hc hcell fin hcd) hd
theorem pe_int {i j pos}:PE X (.Constant (.int i) j pos) (tC (.int i)):=fun _ _ _ H _ I h=>wpAny_Constant_int ⟨.int i,H,I.tok _,⟨_,rfl⟩,h⟩
theorem pe_bl {b j pos}:PE X (.Constant (.bool b) j pos) (tC (.bl b)):=fun _ _ _ H _ I h=>Constant_bool ⟨.bl b,H,I,rfl,h⟩
theorem pe_non {j pos}:PE X (.Constant .none j pos) (tC .non):=fun _ _ _ H _ I h=>Constant_none ⟨.non,H,I,rfl,h⟩
theorem pe_str {x j pos}:PE X (.Constant (.str x) j pos) (tC (.str x)):=fun _ _ _ H _ I h=>Calls.Constant_str ⟨.str x,H,I.tok _,⟨_,rfl⟩,h⟩
noncomputable def Gl (X:Cx) (x:Str):Prop:=X.env.kindOf x=some .globalImplicit
theorem ld_glob {E:Value→Shared→Prop} {pins:List (Addr × Obj)} {s:Shared} {σ:St} {H:Hp} {x:Str} {u:Value} {pos:Pos} {Q:Value→Shared→Prop} (I:Inv X pins σ H s) (hg:Gl X x) (hm:X.mg x=some u) (h:Q u s)
    (hd:(x == ("__debug__":Str))=false:=by decide):wpAny (model X.prog X.w) X.A (eval (.Name x pos) X.env) Q E s:=
  Calls.Name_function_global I.ok.kind hg (Calls.loadGlobal_global (by rw [I.ok.glob];exact I.mod.glob.keeps I.bk) hm h) hd
theorem ld_blt {E:Value→Shared→Prop} {pins:List (Addr × Obj)} {s:Shared} {σ:St} {H:Hp} {x:Str} {u:Value} {pos:Pos} {Q:Value→Shared→Prop} (I:Inv X pins σ H s) (hg:Gl X x) (hm:X.mg x=none) (hv:bootBuiltins x=some u) (h:Q u s)
    (hn:x≠"__name__":=by decide) (hd:(x == ("__debug__":Str))=false:=by decide):wpAny (model X.prog X.w) X.A (eval (.Name x pos) X.env) Q E s:=by
  obtain ⟨mb,h1,h2⟩:=I.mod.blt
  exact Calls.Name_function_global I.ok.kind hg (Calls.loadGlobal_builtin (by rw [I.ok.glob];exact I.mod.glob.keeps I.bk) hm (by rw [I.ok.blt];exact h1.keeps I.bk) ((h2 x hn).trans hv) h) hd
theorem pe_glob {x:Str} {v:V} {u:Value} {pos:Pos} (hg:Gl X x) (hm:X.mg x=some u) (r:RelV v u) (hd:(x == ("__debug__":Str))=false:=by decide):PE X (.Name x pos) (tC v):=
  fun _ _ _ H _ I h=>ld_glob I hg hm ⟨v,H,I,r,h⟩ hd
theorem pe_bltn {x:Str} {v:V} {u:Value} {pos:Pos} (hg:Gl X x) (hm:X.mg x=none) (hv:bootBuiltins x=some u) (r:RelV v u) (hn:x≠"__name__":=by decide) (hd:(x == ("__debug__":Str))=false:=by decide):PE X (.Name x pos) (tC v):=
  fun _ _ _ H _ I h=>ld_blt I hg hm hv ⟨v,H,I,r,h⟩ hn hd
variable {a b:Expr} {ta tb:TE} {pos:Pos}
noncomputable def PC (X:Cx) (op:CmpOp) (a b:Expr) (t:TE):Prop:=
  ∀ (pins:List (Addr × Obj)) (s:Shared) (σ:St) (H:Hp) (Q:VK),Inv X pins σ H s→t σ H Q→
    wpAny (model X.prog X.w) X.A (eval a X.env) (fun v s₁=>wpAny (model X.prog X.w) X.A (eval b X.env) (fun u s₂=>wpAny (model X.prog X.w) X.A (compareOp op v u) (EP X pins σ Q) X.xe s₂) X.xe s₁) X.xe s
theorem nobehind (b:Expr) {op:CmpOp} (h:op≠ .In) (h2:op≠ .NotIn):behindInMarks op b=false:=by
  have e1:(op == CmpOp.In)=false:=by cases op <;> first | rfl | exact absurd rfl h
  have e2:(op == CmpOp.NotIn)=false:=by cases op <;> first | rfl | exact absurd rfl h2
  cases b <;> simp [behindInMarks,e1,e2]
noncomputable def tB (t:TE):TT:=fun σ H Q=>t σ H fun x H1=>∃ c,x= .bl c∧Q c H1
theorem pt_cmp {op:CmpOp} {t:TE} (h:PC X op a b t) (h1:behindInMarks op b=false:=by first | exact nobehind _ (by decide) (by decide) | rfl):PT X (.Compare a [op] [b] pos) (tB t):=by
  intro pins s σ H Q I hw
  refine wpAny_isTrue_Compare1 (thn (h pins s σ H _ I hw) fun v s1 h1=>thn h1 fun u s2 h2=>thn h2 fun c s3 ⟨x,H1,I1,r1,q1⟩=> ?_) h1
  obtain ⟨d,rfl,q⟩:=q1
  cases r1
  exact wpAny_truthy_bool ⟨H1,I1,q⟩
theorem pt_val {e:Expr} {t:TE} (h:PE X e t) (he:∀ whole,isTrue e X.env whole=(do let v ← whole;standAt e.pos;holding [v] (truthy v)):=by intro _;rfl):PT X e (tB t):=by
  intro pins s σ H Q I hw
  refine isTrue_plain (thn (h pins s σ H _ I hw) fun v s1 ⟨x,H1,I1,r1,q1⟩=> ?_) (he _)
  obtain ⟨d,rfl,q⟩:=q1
  cases r1
  exact wpAny_truthy_bool ⟨H1,I1,q⟩
variable {tA tB':TT} {rest:List Expr}
noncomputable def tAnd (t u:TT):TT:=fun σ H Q=>t σ H fun c H1=>if c=true then u σ H1 Q else Q false H1
noncomputable def tOr (t u:TT):TT:=fun σ H Q=>t σ H fun c H1=>if c=true then Q true H1 else u σ H1 Q
noncomputable def tNot (t:TT):TT:=fun σ H Q=>t σ H fun c H1=>Q (!c) H1
theorem pw_and1 (ha:PT X a tA):PW X (.BoolOp .And [a] pos) tA:=by
  intro wh pins s σ H Q I h
  refine isTrue_and (thn (ha pins s σ H Q I h) fun c s1 e=> ?_)
  cases c with
  | true=>exact isTrue_and_nil e
  | false=>exact e
theorem pw_or1 (ha:PT X a tA):PW X (.BoolOp .Or [a] pos) tA:=by
  intro wh pins s σ H Q I h
  refine isTrue_or (thn (ha pins s σ H Q I h) fun c s1 e=> ?_)
  cases c with
  | false=>exact isTrue_or_nil e
  | true=>exact e
theorem pw_and (ha:PT X a tA) (hb:PW X (.BoolOp .And (b::rest) pos) tB'):PW X (.BoolOp .And (a::b::rest) pos) (tAnd tA tB'):=by
  intro wh pins s σ H Q I h
  refine isTrue_and (thn (ha pins s σ H _ I h) fun c s1 ⟨H1,I1,q1⟩=> ?_)
  cases c with
  | true=>exact hb wh pins s1 σ H1 Q I1 q1
  | false=>exact ⟨H1,I1,q1⟩
theorem pw_or (ha:PT X a tA) (hb:PW X (.BoolOp .Or (b::rest) pos) tB'):PW X (.BoolOp .Or (a::b::rest) pos) (tOr tA tB'):=by
  intro wh pins s σ H Q I h
  refine isTrue_or (thn (ha pins s σ H _ I h) fun c s1 ⟨H1,I1,q1⟩=> ?_)
  cases c with
  | true=>exact ⟨H1,I1,q1⟩
  | false=>exact hb wh pins s1 σ H1 Q I1 q1
theorem pt_not (ha:PT X a tA):PT X (.UnaryOp .Not a pos) (tNot tA):=by
  intro pins s σ H Q I h
  exact isTrue_not (ha pins s σ H (fun c H1=>Q (!c) H1) I h)
noncomputable def tAndV (ta tb:TE):TE:=fun σ H Q=>ta σ H fun x H1=>∃ c,x= .bl c∧if c=true then tb σ H1 Q else Q (.bl false) H1
noncomputable def tNotV (ta:TE):TE:=fun σ H Q=>ta σ H fun x H1=>∃ c,x= .bl c∧Q (.bl (!c)) H1
theorem pe_one {op} {t:TE} (h:PE X a t):PE X (.BoolOp op [a] pos) t:=fun pins s σ H Q I hw=>BoolOp_one (h pins s σ H Q I hw)
theorem pe_and (ha:PE X a ta) (hb:PE X (.BoolOp .And (b::rest) pos) tb):PE X (.BoolOp .And (a::b::rest) pos) (tAndV ta tb):=by
  intro pins s σ H Q I h
  refine BoolOp_and (thn (ha pins s σ H _ I h) fun v s1 ⟨x,H1,I1,r1,q1⟩=> ?_)
  obtain ⟨c,rfl,q1⟩:=q1
  cases r1
  refine wpAny_truthy_bool ?_
  cases c with
  | true=>exact hb pins s1 σ H1 Q I1 q1
  | false=>exact ⟨.bl false,H1,I1,rfl,q1⟩
theorem pe_not (ha:PE X a ta):PE X (.UnaryOp .Not a pos) (tNotV ta):=by
  intro pins s σ H Q I h
  refine UnaryOp_ (thn (ha pins s σ H _ I h) fun v s1 ⟨x,H1,I1,r1,q1⟩=> ?_)
  obtain ⟨c,rfl,q1⟩:=q1
  cases r1
  exact not_of (wpAny_truthy_bool ⟨.bl (!c),H1,I1,rfl,q1⟩)
noncomputable def tIf (t:TT) (ta tb:TE):TE:=fun σ H Q=>t σ H fun c H1=>if c=true then ta σ H1 Q else tb σ H1 Q
theorem pe_ifExp {c:Expr} (hc:PT X c tA) (ha:PE X a ta) (hb:PE X b tb):PE X (.IfExp c a b pos) (tIf tA ta tb):=by
  intro pins s σ H Q I h
  refine wpAny_IfExp (thn (hc pins s σ H _ I h) fun d s1 ⟨H1,I1,q1⟩=> ?_)
  cases d with
  | true=>exact ha pins s1 σ H1 Q I1 q1
  | false=>exact hb pins s1 σ H1 Q I1 q1
end
end L2
namespace L2
open PySem PySem.Spec PyProof.Rows
noncomputable def SqL (K:PySem.W.Frag) (H:Hp) (a:Addr) (xs:List V):Prop:=
  Rd H a (.lst xs)∨
    ∃ (o:Obj) (its:Array Value) (n:Nat),K.lookup a=some o∧o.cls= .type "list"∧o.dict=none∧o.data= .seq its n∧its.size≤sizeLine∧Vals xs its.toList
noncomputable def SqT (K:PySem.W.Frag) (H:Hp) (a:Addr) (xs:List V):Prop:=
  Rd H a (.tup xs)∨
    ∃ (o:Obj) (its:Array Value) (n:Nat),K.lookup a=some o∧o.cls= .type "tuple"∧o.data= .seq its n∧its.size≤sizeLine∧Vals xs its.toList
noncomputable def absV:Value→Option V
  | .none=>some .non
  | .bool b=>some (.bl b)
  | .int i _=>some (.int i)
  | .str x _=>some (.str x)
  | .bytes b _=>some (.byt b)
  | .float b _=>some (.flt b)
  | .ref a=>some (.ref a)
  | .type n=>some (.ty n)
  | _=>none
theorem RelV.abs {x:V} {u:Value} (r:RelV x u):absV u=some x:=by
  cases x with
  | non=>cases r;rfl
  | bl _=>cases r;rfl
  | int _=>obtain ⟨t,rfl⟩:=r;rfl
  | str _=>obtain ⟨t,rfl⟩:=r;rfl
  | byt _=>obtain ⟨t,rfl⟩:=r;rfl
  | flt _=>obtain ⟨t,rfl⟩:=r;rfl
  | ref _=>cases r;rfl
  | ty _=>cases r;rfl
theorem RelV.inj {x y:V} {u:Value} (r:RelV x u) (q:RelV y u):x=y:=Option.some.inj (r.abs.symm.trans q.abs)
theorem Vals.inj:∀ {xs ys:List V} {us:List Value},Vals xs us→Vals ys us→xs=ys
  | _,_,_, .nil, .nil=>rfl
  | _,_,_, .cons r t, .cons r' t'=>by rw [r.inj r',Vals.inj t t']
section
variable {X:Cx} {pins:List (Addr × Obj)} {σ:St} {H:Hp} {s:Shared} {a:Addr} {xs ys:List V}
theorem SqL.of {K:PySem.W.Frag} (h:H a=some (.lst xs)):SqL K H a xs:= .inl (.inl h)
theorem SqT.of {K:PySem.W.Frag} (h:H a=some (.tup xs)):SqT K H a xs:= .inl (.inl h)
theorem Inv.list (I:Inv X pins σ H s) (h:SqL X.K H a xs):∃ its:List Value,Vals xs its∧PlainL s.heap a its.toArray∧xs.length≤sizeLine:=by
  rcases h with h | ⟨o,its,n,hk,hc,hd,hs,hz,r⟩
  · obtain ⟨z,its,n,r,e⟩:=h.ok I.hok
    exact ⟨its,r,⟨_,n,e,rfl,rfl,rfl⟩,z⟩
  · refine ⟨its.toList,r,⟨o,n,I.kIn a o hk,hc,hd,by simpa using hs⟩,?_⟩
    have e:=r.length
    simp only [Array.length_toList] at e
    omega
theorem Inv.tuple (I:Inv X pins σ H s) (h:SqT X.K H a xs):∃ its:List Value,Vals xs its∧IsTup s.heap a its.toArray∧xs.length≤sizeLine:=by
  rcases h with h | ⟨o,its,n,hk,hc,hs,hz,r⟩
  · obtain ⟨z,its,r,p⟩:=h.ok I.hok
    exact ⟨its,r,p,z⟩
  · refine ⟨its.toList,r,⟨o,I.kIn a o hk,hc,n,by simpa using hs⟩,?_⟩
    have e:=r.length
    simp only [Array.length_toList] at e
    omega
theorem Inv.list_inj (I:Inv X pins σ H s) (h:SqL X.K H a xs) (h':SqL X.K H a ys):xs=ys:=by
  obtain ⟨its,r,⟨o,n,e,_,_,d⟩,_⟩:=I.list h
  obtain ⟨its',r',⟨o',n',e',_,_,d'⟩,_⟩:=I.list h'
  rw [e] at e';cases e'
  rw [d] at d'
  injection d' with d1 _
  have:its=its':=by simpa using congrArg Array.toList d1
  subst this
  exact r.inj r'
theorem Inv.tuple_inj (I:Inv X pins σ H s) (h:SqT X.K H a xs) (h':SqT X.K H a ys):xs=ys:=by
  obtain ⟨its,r,⟨o,e,_,n,d⟩,_⟩:=I.tuple h
  obtain ⟨its',r',⟨o',e',_,n',d'⟩,_⟩:=I.tuple h'
  rw [e] at e';cases e'
  rw [d] at d'
  injection d' with d1 _
  have:its=its':=by simpa using congrArg Array.toList d1
  subst this
  exact r.inj r'
end
noncomputable abbrev Cx.wish (X:Cx) (E:Value→Shared→Prop):Cx:={ X with xe:=E }
noncomputable abbrev Cx.nox (X:Cx):Cx:=X.wish fun _ _=>False
theorem Cx.Ok.wish {X:Cx} (ok:X.Ok) (E:Value→Shared→Prop):(X.wish E).Ok:=
  ⟨ok.mod,ok.kind,ok.glob,ok.blt,ok.above,ok.inj,ok.has,ok.cab,ok.hd,ok.frames,ok.stk,ok.exf,ok.bs,ok.bsz,ok.noex,ok.exfs,ok.funs,ok.frf⟩
theorem Cx.Ok.unwish {X:Cx} {E:Value→Shared→Prop} (ok:(X.wish E).Ok):X.Ok:=
  ⟨ok.mod,ok.kind,ok.glob,ok.blt,ok.above,ok.inj,ok.has,ok.cab,ok.hd,ok.frames,ok.stk,ok.exf,ok.bs,ok.bsz,ok.noex,ok.exfs,ok.funs,ok.frf⟩
section
variable {X:Cx} {pins:List (Addr × Obj)} {σ:St} {H:Hp} {s:Shared} {E:Value→Shared→Prop}
theorem Inv.wish (I:Inv X pins σ H s) (E:Value→Shared→Prop):Inv (X.wish E) pins σ H s:=⟨I.ok.wish E,I.os,I.bare,I.base,I.loc,I.cell,I.free,I.freeC,I.pin,I.hok,I.len⟩
theorem Inv.unwish (I:Inv (X.wish E) pins σ H s):Inv X pins σ H s:=⟨I.ok.unwish,I.os,I.bare,I.base,I.loc,I.cell,I.free,I.freeC,I.pin,I.hok,I.len⟩
theorem SP.unwish {D:Ends} {f:Flow} {s':Shared} (h:SP (X.wish E) pins D f s'):SP X pins D f s':=by
  cases f with
  | next=>obtain ⟨σ',H',I,q⟩:=h;exact ⟨σ',H',I.unwish,q⟩
  | brk=>obtain ⟨σ',H',I,q⟩:=h;exact ⟨σ',H',I.unwish,q⟩
  | cont=>obtain ⟨σ',H',I,q⟩:=h;exact ⟨σ',H',I.unwish,q⟩
  | ret u=>obtain ⟨v,σ',H',I,r,q⟩:=h;exact ⟨v,σ',H',I.unwish,r,q⟩
theorem PSs.nox {st:List Stmt} {t:TS} (h:PSs X.nox st t):PSs X st t:=fun pins s σ H D I hw=>
  wpAny_mono (h pins s σ H D (I.wish _) hw) (fun _ _ q=>q.unwish) fun _ _ z=>False.elim z
end
section
variable {X:Cx} {st:Stmt} {rest:List Stmt} {t u:TS} {e:Expr} {te:TE} {pos:Pos}
noncomputable def tNext:TS:=fun D σ H=>D.nx σ H
noncomputable def tSeq (t u:TS):TS:=fun D σ H=>t { D with nx:=u D } σ H
theorem pss_nil:PSs X [] tNext:=fun _ _ σ H _ I h=>wpAny_execs_nil ⟨σ,H,I,h⟩
theorem pss_cons (h1:PS X st t) (h2:PSs X rest u):PSs X (st::rest) (tSeq t u):=by
  intro pins s σ H D I h
  refine wpAny_execs_cons (thn (h1 pins s σ H { D with nx:=u D } I h) fun f s1 q=> ?_)
  cases f with
  | next=>
    obtain ⟨σ',H',I',q⟩:=q
    exact h2 pins s1 σ' H' D I' q
  | ret v=>exact q
  | brk=>exact q
  | cont=>exact q
theorem pss_one (h1:PS X st t):PSs X [st] t:=by
  intro pins s σ H D I h
  refine wpAny_execs_cons (thn (h1 pins s σ H D I h) fun f s1 q=> ?_)
  cases f with
  | next=>exact wpAny_execs_nil q
  | ret v=>exact q
  | brk=>exact q
  | cont=>exact q
theorem Inv.quiet {pins:List (Addr × Obj)} {σ:St} {H:Hp} {s:Shared} (I:Inv X pins σ H s):interactive X.env=false:=by simp [interactive,I.ok.kind]
noncomputable def tDrop (te:TE):TS:=fun D σ H=>te σ H fun _ H1=>D.nx σ H1
theorem ps_expr (he:PE X e te) (hs:swapsWith e none pos.line X.env=pure false:=by rfl):PS X (.Expr e pos) (tDrop te):=by
  intro pins s σ H D I h
  exact wpAny_Expr_any (thn (he pins s σ H _ I h) fun v s1 ⟨x,H1,I1,r1,q1⟩=>⟨σ,H1,I1,q1⟩) I.quiet hs
noncomputable def tRet (te:TE):TS:=fun D σ H=>te σ H D.rt
theorem ps_ret (he:PE X e te):PS X (.Return (some e) pos) (tRet te):=by
  intro pins s σ H D I h
  exact wpAny_Return_some (thn (he pins s σ H _ I h) fun v s1 ⟨x,H1,I1,r1,q1⟩=>⟨x,σ,H1,I1,r1,q1⟩)
noncomputable def tIfS (c:TT) (t u:TS):TS:=fun D σ H=>c σ H fun b H1=>if b=true then t D σ H1 else u D σ H1
theorem ps_if {c:Expr} {a b:List Stmt} {tc:TT} (hc:PT X c tc) (ha:PSs X a t) (hb:PSs X b u):PS X (.If c a b pos) (tIfS tc t u):=by
  intro pins s σ H D I h
  refine wpAny_If (thn (hc pins s σ H _ I h) fun d s1 ⟨H1,I1,q1⟩=> ?_)
  cases d with
  | true=>exact ha pins s1 σ H1 D I1 q1
  | false=>exact hb pins s1 σ H1 D I1 q1
end
noncomputable abbrev TG:=V→St→Hp→(St→Hp→Prop)→Prop
noncomputable abbrev TGs:=List V→St→Hp→(St→Hp→Prop)→Prop
noncomputable def PG (X:Cx) (target:Expr) (t:TG):Prop:=
  ∀ (pins:List (Addr × Obj)) (s:Shared) (σ:St) (H:Hp) (v:V) (u:Value) (Q:St→Hp→Prop),Inv X pins σ H s→RelV v u→t v σ H Q→
    wpAny (model X.prog X.w) X.A (assign target X.env u) (fun _ s'=>∃ σ' H',Inv X pins σ' H' s'∧Q σ' H') X.xe s
noncomputable def PGs (X:Cx) (ts:List Expr) (t:TGs):Prop:=
  ∀ (pins:List (Addr × Obj)) (s:Shared) (σ:St) (H:Hp) (vs:List V) (us:List Value) (Q:St→Hp→Prop),Inv X pins σ H s→Vals vs us→t vs σ H Q→
    wpAny (model X.prog X.w) X.A (assignInOrder ((assignEach ts X.env).map (·.2)) us) (fun _ s'=>∃ σ' H',Inv X pins σ' H' s'∧Q σ' H') X.xe s
noncomputable abbrev TSet:=V→V→V→Hp→(Hp→Prop)→Prop
noncomputable def PSet (X:Cx) (t:TSet):Prop:=
  ∀ (pins:List (Addr × Obj)) (s:Shared) (σ:St) (H:Hp) (o i v:V) (ov iv u:Value) (Q:Hp→Prop),Inv X pins σ H s→RelV o ov→RelV i iv→RelV v u→t o i v H Q→
    wpAny (model X.prog X.w) X.A (setItem ov iv u) (fun _ s'=>∃ H',Inv X pins σ H' s'∧Q H') X.xe s
noncomputable abbrev TIp:=V→V→Hp→VK→Prop
noncomputable def PIp (X:Cx) (op:Operator) (t:TIp):Prop:=
  ∀ (pins:List (Addr × Obj)) (s:Shared) (σ:St) (H:Hp) (x y:V) (v u:Value) (Q:VK),Inv X pins σ H s→RelV x v→RelV y u→t x y H Q→
    wpAny (model X.prog X.w) X.A (inplaceOp op v u) (EP X pins σ Q) X.xe s
section
variable {X:Cx} {pos:Pos}
noncomputable def gName (i:Nat):TG:=fun v σ H Q=>Q (σ.set i (some v)) H
theorem pg_name {i:Nat} {x:Str} (hN:X.N.Nodup) (hi:X.N[i]?=some x) (hx:Loc X.env.scope x) (hf:X.fn x=true∨X.env.scope.names.lookup x=some .local:=by first | exact .inl rfl | exact .inr rfl | assumption):PG X (.Name x pos) (gName i):=by
  intro pins s σ H v u Q I r h
  exact wpAny_assign_Name (store_ok I hN hi hx r (fun s' I'=>⟨_,H,I',h⟩) hf)
noncomputable def gNil:TGs:=fun vs σ H Q=>vs=[]∧Q σ H
noncomputable def gCons (t:TG) (u:TGs):TGs:=fun vs σ H Q=>∃ v r,vs=v::r∧t v σ H fun σ' H'=>u r σ' H' Q
theorem pgs_nil:PGs X [] gNil:=by
  intro pins s σ H vs us Q I r h
  obtain ⟨e,h⟩:=h
  subst e
  cases r
  exact assignInOrder_nil ⟨σ,H,I,h⟩
theorem pgs_cons {e:Expr} {es:List Expr} {t:TG} {u:TGs} (h1:PG X e t) (h2:PGs X es u)
    (hs:(assignEach (e::es) X.env).map (·.2)=assign e X.env::(assignEach es X.env).map (·.2):=by rfl):PGs X (e::es) (gCons t u):=by
  intro pins s σ H vs us Q I r h
  obtain ⟨v,vr,e1,h⟩:=h
  subst e1
  cases r with
  | cons r rr=>
    rw [hs]
    refine assignInOrder_cons (thn (h1 pins s σ H _ _ _ I r h) fun _ s1 ⟨σ1,H1,I1,q1⟩=> ?_)
    exact h2 pins s1 σ1 H1 _ _ Q I1 rr q1
noncomputable def gTup (K:PySem.W.Frag) (n:Nat) (t:TGs):TG:=fun v σ H Q=>∃ a xs,v= .ref a∧SqT K H a xs∧xs.length=n∧t xs σ H Q
theorem pg_tup {es:List Expr} {k:Nat} {t:TGs} {n:Nat} (hc:X.calm=true) (h:PGs X es t)
    (hn:(assignEach es X.env).length=n:=by rfl) (hst:(assignEach es X.env).findIdx? (·.1)=none:=by rfl):PG X (.Tuple es k pos) (gTup X.K n t):=by
  intro pins s σ H v u Q I r hw
  obtain ⟨a,xs,e1,hq,hl,hw⟩:=hw
  subst e1
  cases r
  obtain ⟨its,rv,ht,hz⟩:=I.tuple hq
  refine assign_Tuple_tuple (I.ok.hd hc) ht (by simp [hn, ← hl,rv.length]) hst fun h' hx=> ?_
  have I1:Inv X pins σ H { s with heap:=h' }:=I.kept (t':=s.toks) fun b o e=>hx b o (Nat.ne_of_lt (Heap.lt_size e)) e
  exact h pins _ σ H xs _ Q I1 (by simpa using rv) hw
noncomputable def gSub (to ti:TE) (t:TSet):TG:=fun v σ H Q=>to σ H fun o H1=>ti σ H1 fun i H2=>t o i v H2 fun H3=>Q σ H3
theorem pg_sub {o i:Expr} {to ti:TE} {t:TSet} (ho:PE X o to) (hi:PE X i ti) (hs:PSet X t)
    (ha:∀ v,assign (.Subscript o i pos) X.env v=(do
      let ov ← holding [v] (eval o X.env)
      let iv ← holding [v,ov] (eval i X.env)
      standAt pos
      holding [v,ov,iv] (setItem ov iv v)
      release [v,ov,iv] []):=by intro _;rfl):PG X (.Subscript o i pos) (gSub to ti t):=by
  intro pins s σ H v u Q I r h
  rw [ha]
  refine wpAny_bind (wpAny_holding (thn (ho pins s σ H _ I h) fun ov s1 ⟨x,H1,I1,r1,q1⟩=> ?_))
  refine wpAny_bind (wpAny_holding (thn (hi pins s1 σ H1 _ I1 q1) fun iv s2 ⟨y,H2,I2,r2,q2⟩=> ?_))
  refine wpAny_bind (wpAny_standAt (wpAny_bind (wpAny_holding (thn (hs pins s2 σ H2 x y v ov iv u _ I2 r1 r2 r q2) fun _ s3 ⟨H3,I3,q3⟩=> ?_))))
  exact wpAny_release ⟨σ,H3,I3,q3⟩
noncomputable def tAsg (te:TE) (g:TG):TS:=fun D σ H=>te σ H fun x H1=>g x σ H1 D.nx
theorem ps_asg {tg e:Expr} {te:TE} {g:TG} (he:PE X e te) (hg:PG X tg g) (hs:swapsWithSole [tg] e pos.line X.env=pure false:=by rfl) (hw:swappedStores [tg] e X.env=pure none:=by rfl)
    (h1:(assignEach [tg] X.env).map (·.2)=[assign tg X.env]:=by rfl):PS X (.Assign [tg] e pos) (tAsg te g):=by
  intro pins s σ H D I h
  refine wpAny_Assign_stores (thn (he pins s σ H _ I h) fun v s1 ⟨x,H1,I1,r1,q1⟩=> ?_) hs hw
  rw [h1]
  exact thn (hg pins s1 σ H1 x v _ I1 r1 q1) fun _ s2 q=>q
theorem ps_set {i:Nat} {x:Str} {e:Expr} {te:TE} {pos':Pos} (hN:X.N.Nodup) (hi:X.N[i]?=some x) (hx:Loc X.env.scope x) (he:PE X e te) (hs:swapsWith e (some (.Name x pos')) pos.line X.env=pure false:=by rfl) (hf:X.fn x=true∨X.env.scope.names.lookup x=some .local:=by first | exact .inl rfl | exact .inr rfl | assumption):
    PS X (.Assign [.Name x pos'] e pos) (tAsg te (gName i)):=by
  intro pins s σ H D I h
  refine wpAny_Assign_Name (thn (he pins s σ H _ I h) fun v s1 ⟨y,H1,I1,r1,q1⟩=> ?_) hs
  exact store_ok I1 hN hi hx r1 (fun s2 I2=>⟨_,H1,I2,q1⟩) hf
noncomputable def tAug (i:Nat) (te:TE) (ti:TIp):TS:=fun D σ H=>∃ x,σ[i]?=some (some x)∧te σ H fun y H1=>ti x y H1 fun z H2=>D.nx (σ.set i (some z)) H2
theorem ps_aug {i:Nat} {x:Str} {e:Expr} {te:TE} {op:Operator} {ti:TIp} {pos':Pos} (hN:X.N.Nodup) (hi:X.N[i]?=some x) (hx:Loc X.env.scope x) (he:PE X e te) (ho:PIp X op ti) (hf:X.fn x=true∨X.env.scope.names.lookup x=some .local:=by first | exact .inl rfl | exact .inr rfl | assumption):
    PS X (.AugAssign (.Name x pos') op e pos) (tAug i te ti):=by
  intro pins s σ H D I h
  obtain ⟨v,e1,h⟩:=h
  obtain ⟨m,hn,hl⟩:=I.loc
  have vis:Vis X.env.scope x:=by rcases hx with k | k;exact .inl k;exact .inr (.inl k)
  obtain ⟨u,r,l⟩:=hl i x v hi e1 vis
  refine wpAny_AugAssign_Name ?_
  have go:wpAny (model X.prog X.w) X.A (eval e X.env) (fun w s₂=>wpAny (model X.prog X.w) X.A (inplaceOp op u w) (fun r s₃=>wpAny (model X.prog X.w) X.A (storeName X.env x r) (fun _=>SP X pins D .next) X.xe s₃) X.xe s₂) X.xe s:=by
    refine thn (he pins s σ H _ I h) fun w s1 ⟨y,H1,I1,r1,q1⟩=> ?_
    refine thn (ho pins s1 σ H1 v y u w _ I1 r r1 q1) fun z s2 ⟨zv,H2,I2,r2,q2⟩=> ?_
    exact store_ok I2 hN hi hx r2 (fun s3 I3=>⟨_,H2,I3,q2⟩) hf
  rcases l with ⟨hk,hm⟩ | ⟨hk,c,hc,hcell⟩
  · exact wpAny_loadName_local I.ok.kind hk hn hm go
  · rcases hk with hk | hk
    · exact wpAny_loadName_cell I.ok.kind hk hc hcell go
    · rcases hx with k | k
      · have:X.env.scope.names.lookup x=some .free:=hk
        rw [k] at this;cases this
      · have:X.env.scope.names.lookup x=some .free:=hk
        rw [k] at this;cases this
end
section
variable {X:Cx} {pos:Pos}
end
structure It where
  go:Nat→Hp→Prop
  yld:Nat→Hp→V→Hp→Prop
  stop:Nat→Hp→Prop
noncomputable def FpOk (X:Cx) (pins:List (Addr × Obj)) (H:Hp) (b:Addr):Prop:=
  H b=none∧b≠X.env.locals∧b∉X.fs∧(b∈X.ex∨X.s₀.heap.objs.size≤b)∧(∀ x c,X.env.cells.lookup x=some c→c≠b)∧∀ p∈X.pn++pins,p.1≠b
theorem Inv.fpOk {X:Cx} {pins:List (Addr × Obj)} {σ:St} {H H':Hp} {s:Shared} {b:Addr} (I:Inv X pins σ H s) (hb:s.heap.objs.size≤b) (hn:H' b=none):FpOk X pins H' b:=by
  refine ⟨hn,Nat.ne_of_gt (Nat.lt_of_lt_of_le I.lt hb),I.nofs hb, .inr (Nat.le_trans I.sz hb),fun x c e z=> ?_,fun p hp z=> ?_⟩
  · obtain ⟨v,q⟩:=I.cell x c e
    exact absurd (Nat.lt_of_lt_of_le q.lt (by rw [z];exact hb)) (Nat.lt_irrefl _)
  · exact absurd (Nat.lt_of_lt_of_le (Heap.lt_size (I.pin p hp).1) (by rw [z];exact hb)) (Nat.lt_irrefl _)
structure Turn (P:Program) (w:World) (K:PySem.W.Frag) (tg:Expr) (J:It) (fp:List Addr) (it:Addr) (tn:Nat→Heap→Prop):Prop where
  mem:it∈fp
  obj:∀ i h,tn i h→∀ b∈fp,∃ o,h.get? b=some o∧∀ v,o.data≠ .cell v
  keep:∀ i h h',tn i h→(∀ b∈fp,∀ o,h.get? b=some o→h'.get? b=some o)→tn i h'
  item:∀ (X:Cx),X.prog=P→X.w=w→X.K=K→X.calm=true→∀ (i:Nat) (pins:List (Addr × Obj)) (s:Shared) (σ:St) (H:Hp) (E:Value→Shared→Prop),Inv X pins σ H s→(∀ b∈fp,FpOk X pins H b)→tn i s.heap→J.go i H→
    wpAny (model P w) X.A (pyNext (.ref it)) (fun r s1=>∃ u,r=some u∧
      wpAny (model P w) X.A (letOwnedTupleGo tg (.ref it) u) (fun _ s2=>∃ x H',Inv X pins σ H' s2∧RelV x u∧J.yld i H x H'∧tn (i+1) s2.heap∧∀ b∈fp,H' b=none) E s1) E s
  done:∀ (X:Cx),X.prog=P→X.w=w→X.K=K→X.calm=true→∀ (i:Nat) (pins:List (Addr × Obj)) (s:Shared) (σ:St) (H:Hp) (E:Value→Shared→Prop),Inv X pins σ H s→(∀ b∈fp,FpOk X pins H b)→tn i s.heap→J.stop i H→
    wpAny (model P w) X.A (pyNext (.ref it)) (fun r s1=>r=none∧Inv X pins σ H s1) E s
  self:∀ (A:Around) (i:Nat) (s:Shared) (Q:Value→Shared→Prop) (E:Value→Shared→Prop),tn i s.heap→Q (.ref it) s→wpAny (model P w) A (pyIter (.ref it)) Q E s
noncomputable abbrev TI:=St→Hp→(It→Hp→Prop)→Prop
noncomputable def PIE (X:Cx) (pins:List (Addr × Obj)) (σ:St) (tg:Expr) (R:It→Hp→Prop) (itv:Value) (s2:Shared):Prop:=
  ∃ (it:Addr) (fp:List Addr) (tn:Nat→Heap→Prop) (J:It) (H':Hp),itv= .ref it∧Inv X pins σ H' s2∧Turn X.prog X.w X.K tg J fp it tn∧tn 0 s2.heap∧(∀ b∈fp,FpOk X pins H' b)∧R J H'
noncomputable def PI (X:Cx) (tg iter:Expr) (wi:TI):Prop:=
  ∀ (pins:List (Addr × Obj)) (s:Shared) (σ:St) (H:Hp) (R:It→Hp→Prop),Inv X pins σ H s→wi σ H R→
    wpAny (model X.prog X.w) X.A (eval iter X.env) (fun v s1=>wpAny (model X.prog X.w) X.A (pyIter v) (PIE X pins σ tg R) X.xe s1) X.xe s
theorem go_of {M:Model} {A:Around} {E:Value→Shared→Prop} {s:Shared} {tg:Expr} {it:Addr} {u:Value} {o:Obj} {n:String} {vs:Array Value} {Q:Unit→Shared→Prop} (ho:s.heap.get? it=some o) (hc:o.cls= .type n) (hd:o.data= .fields vs)
    (hn:["enumerate","zip","dict_itemiterator","dict_reverseitemiterator","odict_iterator","itertools.zip_longest","itertools.pairwise"].contains n=false) (hQ:Q () s):wpAny M A (letOwnedTupleGo tg (.ref it) u) Q E s:=by
  unfold letOwnedTupleGo
  cases tg <;> first
    | exact wpAny_pure hQ
    | (cases u <;> first
        | exact wpAny_pure hQ
        | (refine wpAny_bind (wpAny_load ho ?_)
           rw [hc,hd]
           show wpAny M A (if (["enumerate","zip","dict_itemiterator","dict_reverseitemiterator","odict_iterator","itertools.zip_longest","itertools.pairwise"].contains n&&vs[0]? == some (rawInt _))=true then _ else _) Q E s
           rw [if_neg (by intro h;rw [hn,Bool.false_and] at h;cases h)]
           exact wpAny_pure hQ))
noncomputable def Itl (K:PySem.W.Frag) (a:Addr):It:=
  ⟨fun i H=>∃ xs x,SqL K H a xs∧xs[i]?=some x,fun i H x H'=>H'=H∧∀ xs,SqL K H a xs→xs[i]?=some x,fun i H=>∃ xs,SqL K H a xs∧xs.length≤i⟩
noncomputable def Itt (K:PySem.W.Frag) (a:Addr):It:=
  ⟨fun i H=>∃ xs x,SqT K H a xs∧xs[i]?=some x,fun i H x H'=>H'=H∧∀ xs,SqT K H a xs→xs[i]?=some x,fun i H=>∃ xs,SqT K H a xs∧xs.length≤i⟩
noncomputable def Itr (lo:Int) (n:Nat):It:=⟨fun i _=>i<n,fun i H x H'=>H'=H∧x= .int (lo+i),fun i _=>n≤i⟩
theorem turn_list {P:Program} {w:World} {K:PySem.W.Frag} {tg:Expr} (a it:Addr):Turn P w K tg (Itl K a) [it] it (fun i h=>h.IsListIter it a i) where
  mem:=by simp
  obj:=fun i h st b hb=>by
    have e:b=it:=by simpa using hb
    subst e
    obtain ⟨o,e,c,d⟩:=st
    exact ⟨o,e,fun v z=>by rw [d] at z;cases z⟩
  keep:=fun i h h' st k=>st.at fun o e=>k it (by simp) o e
  item:=by
    intro X hP hw hK hc i pins s σ H E I hf st hg
    subst hP hw hK
    obtain ⟨xs,x,hq,hx⟩:=hg
    obtain ⟨its,rv,p,hz⟩:=I.list hq
    obtain ⟨u,hu,ru⟩:=rv.get hx
    obtain ⟨f0,f1,f2,f3,f4,f5⟩:=hf it (by simp)
    refine wpAny_pyNext_list_item st p.isList (x:=u) (by simpa using hu) fun h' st' sb=> ?_
    have I1:Inv X pins σ H { s with heap:=h' }:=I.turned (t':=s.toks) (fun b o hb e=>(sb.2 b hb).trans e) f0 f1 f3 f4 f5
    obtain ⟨o,e,c,d⟩:=id st'
    exact ⟨u,rfl,go_of (s:={ s with heap:=h' }) e c d (by decide) ⟨x,H,I1,ru,⟨rfl,fun ys hy=>by rw [I.list_inj hy hq];exact hx⟩,st',fun b hb=>(hf b hb).1⟩⟩
  done:=by
    intro X hP hw hK hc i pins s σ H E I hf st hg
    subst hP hw hK
    obtain ⟨xs,hq,hx⟩:=hg
    obtain ⟨its,rv,p,hz⟩:=I.list hq
    obtain ⟨f0,f1,f2,f3,f4,f5⟩:=hf it (by simp)
    have hl:=rv.length
    exact wpAny_pyNext_list_end (I.ok.hd hc) st p.isList (by simp;omega) fun h' eb=>⟨rfl,I.turned (t':=s.toks) (fun b o hb e=>eb b o hb e) f0 f1 f3 f4 f5⟩
  self:=fun _ _ _ _ _ st h=>wpAny_pyIter_listiter st h
theorem turn_tuple {P:Program} {w:World} {K:PySem.W.Frag} {tg:Expr} (a it:Addr):Turn P w K tg (Itt K a) [it] it (fun i h=>h.IsTupleIter it a i) where
  mem:=by simp
  obj:=fun i h st b hb=>by
    have e:b=it:=by simpa using hb
    subst e
    obtain ⟨o,e,c,d⟩:=st
    exact ⟨o,e,fun v z=>by rw [d] at z;cases z⟩
  keep:=fun i h h' st k=>st.at fun o e=>k it (by simp) o e
  item:=by
    intro X hP hw hK hc i pins s σ H E I hf st hg
    subst hP hw hK
    obtain ⟨xs,x,hq,hx⟩:=hg
    obtain ⟨its,rv,p,hz⟩:=I.tuple hq
    obtain ⟨u,hu,ru⟩:=rv.get hx
    obtain ⟨f0,f1,f2,f3,f4,f5⟩:=hf it (by simp)
    refine wpAny_pyNext_tuple_item st (show s.heap.IsTuple a its.toArray from p) (x:=u) (by simpa using hu) fun h' st' sb=> ?_
    have I1:Inv X pins σ H { s with heap:=h' }:=I.turned (t':=s.toks) (fun b o hb e=>(sb.2 b hb).trans e) f0 f1 f3 f4 f5
    obtain ⟨o,e,c,d⟩:=id st'
    exact ⟨u,rfl,go_of (s:={ s with heap:=h' }) e c d (by decide) ⟨x,H,I1,ru,⟨rfl,fun ys hy=>by rw [I.tuple_inj hy hq];exact hx⟩,st',fun b hb=>(hf b hb).1⟩⟩
  done:=by
    intro X hP hw hK hc i pins s σ H E I hf st hg
    subst hP hw hK
    obtain ⟨xs,hq,hx⟩:=hg
    obtain ⟨its,rv,p,hz⟩:=I.tuple hq
    obtain ⟨f0,f1,f2,f3,f4,f5⟩:=hf it (by simp)
    have hl:=rv.length
    exact wpAny_pyNext_tuple_end (I.ok.hd hc) st (show s.heap.IsTuple a its.toArray from p) (by simp;omega) fun h' eb=>⟨rfl,I.turned (t':=s.toks) (fun b o hb e=>eb b o hb e) f0 f1 f3 f4 f5⟩
  self:=fun _ _ _ _ _ st h=>wpAny_pyIter_tupleiter st h
theorem turn_range {P:Program} {w:World} {K:PySem.W.Frag} {tg:Expr} (it:Addr) (lo:Int) (n:Nat):Turn P w K tg (Itr lo n) [it] it (fun i h=>IsRangeIter h it (lo+(i:Nat)*1) ((n:Int) - (i:Nat)) 1) where
  mem:=by simp
  obj:=fun i h st b hb=>by
    have e:b=it:=by simpa using hb
    subst e
    exact ⟨_,st,fun v z=>by
      have z':Data.fields _=Data.cell v:=z
      cases z'⟩
  keep:=fun i h h' st k=>k it (by simp) _ st
  item:=by
    intro X hP hw hK hc i pins s σ H E I hf st hg
    subst hP hw hK
    obtain ⟨f0,f1,f2,f3,f4,f5⟩:=hf it (by simp)
    have W:=Walks.range (prog:=X.prog) (w:=X.w) (I.ok.hd hc) it lo 1 n
    refine W.item i s _ _ hg st fun v h' tk hv st' kk=> ?_
    obtain ⟨t,rfl⟩:=hv
    have I1:Inv X pins σ H { s with heap:=h',toks:=tk }:=I.turned (fun b o hb e=>kk b o (by simpa using hb) e) f0 f1 f3 f4 f5
    refine ⟨_,rfl,go_of (s:={ s with heap:=h',toks:=tk }) (n:="range_iterator") st' rfl rfl (by decide) ⟨.int (lo+i),H,I1,⟨t,?_⟩,⟨rfl,rfl⟩,st',fun b hb=>(hf b hb).1⟩⟩
    rw [Int.mul_one]
  done:=by
    intro X hP hw hK hc i pins s σ H E I hf st hg
    subst hP hw hK
    obtain ⟨f0,f1,f2,f3,f4,f5⟩:=hf it (by simp)
    exact wpAny_pyNext_range_end (I.ok.hd hc) st (by have:n≤i:=hg;omega) fun h' eb=>⟨rfl,I.turned (t':=s.toks) (fun b o hb e=>eb b o hb e) f0 f1 f3 f4 f5⟩
  self:=fun _ _ _ _ _ st h=>wpAny_pyIter_rangeiter st h
end L2
namespace L2
open PySem PySem.Spec PyProof.Rows
section
variable {X:Cx} {tg:Expr}
noncomputable def iList (K:PySem.W.Frag) (tl:TE):TI:=fun σ H R=>tl σ H fun x H1=>∃ a,x= .ref a∧(∃ xs,SqL K H1 a xs)∧R (Itl K a) H1
noncomputable def iTup (K:PySem.W.Frag) (tl:TE):TI:=fun σ H R=>tl σ H fun x H1=>∃ a,x= .ref a∧(∃ xs,SqT K H1 a xs)∧R (Itt K a) H1
theorem pi_list {l:Expr} {tl:TE} (hl:PE X l tl):PI X tg l (iList X.K tl):=by
  intro pins s σ H R I h
  refine thn (hl pins s σ H _ I h) fun v s1 ⟨x,H1,I1,r1,q1⟩=> ?_
  obtain ⟨a,e,⟨xs,hq⟩,q⟩:=q1
  subst e
  cases r1
  obtain ⟨its,rv,p,hz⟩:=I1.list hq
  refine wpAny_pyIter_list p.isList ?_
  refine ⟨s1.heap.objs.size,[s1.heap.objs.size],_,_,H1,rfl,I1.kept (t':=s1.toks) fun b o e=>Heap.get?_push_of_some _ e,turn_list a _,⟨_,Heap.get?_push_size _ rfl,rfl,rfl⟩,fun b hb=> ?_,q⟩
  have e:b=s1.heap.objs.size:=by simpa using hb
  subst e
  exact I1.fpOk (Nat.le_refl _) (I1.hok.fresh (Nat.le_refl _))
theorem pi_tup {l:Expr} {tl:TE} (hl:PE X l tl):PI X tg l (iTup X.K tl):=by
  intro pins s σ H R I h
  refine thn (hl pins s σ H _ I h) fun v s1 ⟨x,H1,I1,r1,q1⟩=> ?_
  obtain ⟨a,e,⟨xs,hq⟩,q⟩:=q1
  subst e
  cases r1
  obtain ⟨its,rv,p,hz⟩:=I1.tuple hq
  refine wpAny_pyIter_tuple (show s1.heap.IsTuple a its.toArray from p) ?_
  refine ⟨s1.heap.objs.size,[s1.heap.objs.size],_,_,H1,rfl,I1.kept (t':=s1.toks) fun b o e=>Heap.get?_push_of_some _ e,turn_tuple a _,⟨_,Heap.get?_push_size _ rfl,rfl,rfl⟩,fun b hb=> ?_,q⟩
  have e:b=s1.heap.objs.size:=by simpa using hb
  subst e
  exact I1.fpOk (Nat.le_refl _) (I1.hok.fresh (Nat.le_refl _))
theorem range_it {pins:List (Addr × Obj)} {σ:St} {H:Hp} {s:Shared} {R:It→Hp→Prop} {E:Value→Shared→Prop} {lo hi:Int} {t u v:Tok} {tk:Nat} (I:Inv X pins σ H s) (h1: -(2 ^ 62)≤lo) (h2:lo<2 ^ 62) (h3: -(2 ^ 62)≤hi) (h4:hi<2 ^ 62)
    (q:R (Itr lo (hi - lo).toNat) H):wpAny (model X.prog X.w) X.A (pyIter (.ref s.heap.objs.size)) (PIE X pins σ tg R) E { s with heap:=s.heap.push { cls:= .type "range",data:= .fields #[.int lo t, .int hi u, .int 1 v] },toks:=tk }:=by
  refine wpAny_pyIter_range (IsRange.new ..) (small_one h1 h2 h3 h4) ?_
  have I1:Inv X pins σ H { s with heap:=s.heap.push { cls:= .type "range",data:= .fields #[.int lo t, .int hi u, .int 1 v] },toks:=tk }:=I.kept fun b o e=>Heap.get?_push_of_some _ e
  refine ⟨(s.heap.push { cls:= .type "range",data:= .fields #[.int lo t, .int hi u, .int 1 v] }).objs.size,[(s.heap.push { cls:= .type "range",data:= .fields #[.int lo t, .int hi u, .int 1 v] }).objs.size],_,_,H,rfl,
    I1.kept (t':=tk) fun b o e=>Heap.get?_push_of_some _ e,turn_range _ lo (hi - lo).toNat,?_,fun b hb=> ?_,q⟩
  · have e1:lo+((0:Nat):Int)*1=lo:=by simp
    have e2:(((hi - lo).toNat:Nat):Int) - ((0:Nat):Int)=Builtin.Range.rangeSize lo hi 1:=by rw [rangeSize_one];split <;> omega
    show IsRangeIter _ _ (lo+((0:Nat):Int)*1) ((((hi - lo).toNat:Nat):Int) - ((0:Nat):Int)) 1
    rw [e1,e2]
    exact Heap.get?_push_size _ rfl
  · have e:b=(s.heap.push { cls:= .type "range",data:= .fields #[.int lo t, .int hi u, .int 1 v] }).objs.size:=by simpa using hb
    subst e
    exact I1.fpOk (Nat.le_refl _) (I1.hok.fresh (Nat.le_refl _))
noncomputable def iRng1 (ta:TA):TI:=fun σ H R=>ta σ H fun vs H1=>∃ j:Int,vs=[.int j]∧ -(2 ^ 62)≤j∧j<2 ^ 62∧R (Itr 0 j.toNat) H1
noncomputable def iRng2 (ta:TA):TI:=fun σ H R=>ta σ H fun vs H1=>∃ i j:Int,vs=[.int i, .int j]∧(-(2 ^ 62)≤i∧i<2 ^ 62∧ -(2 ^ 62)≤j∧j<2 ^ 62)∧R (Itr i (j - i).toNat) H1
theorem pi_range1 {a:Expr} {ta:TA} {p pos:Pos} (hg:Gl X "range") (hm:X.mg "range"=none) (ha:PA X [a] ta) (hs:starEach [a] X.env=[(false,eval a X.env)]:=by rfl):PI X tg (.Call (.Name "range" p) [a] [] pos) (iRng1 ta):=by
  intro pins s σ H R I h
  refine Call_ (ld_blt I hg hm boot_range (PyProof.Rows.callWith_type1 (thn (ha pos pins s σ H _ I h) fun us s1 ⟨vs,H1,I1,r1,q1⟩=> ?_) hs rfl))
  obtain ⟨j,e,q1,q2,q⟩:=q1
  subst e
  cases r1 with
  | cons r rr=>
    cases rr
    obtain ⟨t,rfl⟩:=r
    exact call_range_1 (range_it I1 (by omega) (by omega) q1 q2 (by simpa using q))
theorem pi_range2 {a b:Expr} {ta:TA} {p pos:Pos} (hg:Gl X "range") (hm:X.mg "range"=none) (ha:PA X [a,b] ta) (hs:starEach [a,b] X.env=[(false,eval a X.env),(false,eval b X.env)]:=by rfl) (hs2:starEach [b] X.env=[(false,eval b X.env)]:=by rfl):
    PI X tg (.Call (.Name "range" p) [a,b] [] pos) (iRng2 ta):=by
  intro pins s σ H R I h
  refine Call_ (ld_blt I hg hm boot_range (PyProof.Rows.callWith_type1 (thn (ha pos pins s σ H _ I h) fun us s1 ⟨vs,H1,I1,r1,q1⟩=> ?_) (by rw [hs,hs2]) (by rw [hs2];rfl)))
  obtain ⟨i,j,e,⟨q1,q2,q3,q4⟩,q⟩:=q1
  subst e
  cases r1 with
  | cons r rr=>
    cases rr with
    | cons r' rr=>
      cases rr
      obtain ⟨t,rfl⟩:=r
      obtain ⟨t',rfl⟩:=r'
      exact call_range_2 (range_it I1 q1 q2 q3 q4 q)
noncomputable def tFor (wi:TI) (g:TG) (tb:TS):TS:=fun D σ H=>wi σ H fun J H1=>∃ W:Nat→Nat→St→Hp→Prop,(∃ m,W 0 m σ H1)∧∀ i m σ H,W i m σ H→
  (J.stop i H∧D.nx σ H)∨(J.go i H∧∃ N:St→Hp→Prop,(∀ σ' H',N σ' H'→∃ m',m'<m∧W (i+1) m' σ' H')∧∀ x H',J.yld i H x H'→g x σ H' fun σ2 H2=>tb { D with nx:=N,ct:=N,bk:=D.nx } σ2 H2)
noncomputable def pinsAt (fp:List Addr) (h:Heap):List (Addr × Obj):=fp.filterMap fun b=>(h.get? b).map fun o=>(b,o)
theorem mem_pinsAt {fp:List Addr} {h:Heap} {b:Addr} {o:Obj} (hb:b∈fp) (e:h.get? b=some o):(b,o)∈pinsAt fp h:=List.mem_filterMap.mpr ⟨b,hb,by rw [e];rfl⟩
theorem of_pinsAt {fp:List Addr} {h:Heap} {p:Addr × Obj} (hp:p∈pinsAt fp h):p.1∈fp∧h.get? p.1=some p.2:=by
  obtain ⟨b,hb,e⟩:=List.mem_filterMap.mp hp
  cases q:h.get? b with
  | none=>rw [q] at e;cases e
  | some o=>
    rw [q] at e
    have e':(b,o)=p:=Option.some.inj e
    subst e'
    exact ⟨hb,q⟩
theorem Inv.pinned {pins:List (Addr × Obj)} {σ:St} {H:Hp} {s:Shared} {fp:List Addr} (I:Inv X pins σ H s) (hf:∀ b∈fp,FpOk X pins H b) (ho:∀ b∈fp,∃ o,s.heap.get? b=some o∧∀ v,o.data≠ .cell v):Inv X (pins++pinsAt fp s.heap) σ H s:=
  I.pins_of fun p hp=>(List.mem_append.mp hp).elim (fun z=>I.pin p (List.mem_append_right _ z)) fun z=>by
    obtain ⟨hb,e⟩:=of_pinsAt z
    obtain ⟨f0,f1,f2,_⟩:=hf p.1 hb
    obtain ⟨o,e',d⟩:=ho p.1 hb
    rw [e] at e';cases e'
    exact ⟨e,f0,f1,f2,d⟩
theorem Inv.unpinned {pins pl:List (Addr × Obj)} {σ:St} {H:Hp} {s:Shared} (I:Inv X (pins++pl) σ H s):Inv X pins σ H s:=I.pins_of fun p hp=>I.pin p (List.mem_append_right _ (List.mem_append_left _ hp))
theorem ps_for {iter:Expr} {body:List Stmt} {wi:TI} {g:TG} {tb:TS} {pos:Pos} (hp:PassesOwn (model X.prog X.w) X.A X.env X.xe) (hc:X.calm=true) (hi:PI X tg iter wi) (hg:PG X tg g) (hb:PSs X body tb)
    (hs:∀ x,foldedSetIterable iter X.env x=pure x:=by intro _;rfl):PS X (.For tg iter body [] pos) (tFor wi g tb):=by
  intro pins s σ H D I h
  refine wpAny_For (thn (hi pins s σ H _ I h) fun v s1 h1=>thn h1 fun itv s2 h2=> ?_) hs
  obtain ⟨it,fp,tn,J,H2,e,I2,T,st2,f2,W,⟨m0,w0⟩,turn⟩:=h2
  subst e
  have stat:∀ {H':Hp},(∀ b∈fp,H' b=none)→∀ b∈fp,FpOk X pins H' b:=fun hn b hb=>⟨hn b hb,(f2 b hb).2⟩
  refine codeAny_forLoop_any (fun n s'=>∃ i σ' H',Inv X pins σ' H' s'∧tn i s'.heap∧(∀ b∈fp,H' b=none)∧W i n σ' H') ?_ m0 ⟨0,σ,H2,I2,st2,fun b hb=>(f2 b hb).1,w0⟩
  rintro n s3 ⟨i,σ3,H3,I3,st3,fr3,w3⟩
  rcases turn i n σ3 H3 w3 with ⟨stop,qn⟩ | ⟨go,N,hN,step⟩
  · refine wpAny_passesOwn hp (thn (T.done X rfl rfl rfl hc i pins s3 σ3 H3 X.xe I3 (stat fr3) st3 stop) fun r s4 ⟨hr,I4⟩=> ?_)
    subst hr
    exact wpAny_execs_nil ⟨σ3,H3,I4,qn⟩
  · refine wpAny_passesOwn hp (thn (T.item X rfl rfl rfl hc i pins s3 σ3 H3 X.xe I3 (stat fr3) st3 go) fun r s4 ⟨u,hr,h4⟩=> ?_)
    subst hr
    refine wpAny_passesOwn hp (thn h4 fun _ s5 ⟨x,H5,I5,r5,y5,st5,fr5⟩=> ?_)
    have I5':=I5.pinned (stat fr5) (T.obj _ _ st5)
    refine wpAny_passesOwn hp (thn (hg _ s5 σ3 H5 x u _ I5' r5 (step x H5 y5)) fun _ s6 ⟨σ6,H6,I6,q6⟩=> ?_)
    refine wpAny_passesOwn hp (thn (hb _ s6 σ6 H6 _ I6 q6) fun f s7 q7=> ?_)
    have again:∀ {σ7:St} {H7:Hp},Inv X (pins++pinsAt fp s5.heap) σ7 H7 s7→N σ7 H7→∃ m,m<n∧∃ i σ' H',Inv X pins σ' H' s7∧tn i s7.heap∧(∀ b∈fp,H' b=none)∧W i m σ' H':=fun {σ7 H7} I7 n7=>by
      obtain ⟨m',hm,w7⟩:=hN σ7 H7 n7
      refine ⟨m',hm,i+1,σ7,H7,I7.unpinned,T.keep _ _ _ st5 fun b hb o e=>(I7.pin (b,o) (List.mem_append_right _ (List.mem_append_right _ (mem_pinsAt hb e)))).1,fun b hb=> ?_,w7⟩
      obtain ⟨o,e,d⟩:=T.obj _ _ st5 b hb
      exact (I7.pin (b,o) (List.mem_append_right _ (List.mem_append_right _ (mem_pinsAt hb e)))).2.1
    cases f with
    | next=>obtain ⟨σ7,H7,I7,n7⟩:=q7;exact again I7 n7
    | cont=>obtain ⟨σ7,H7,I7,n7⟩:=q7;exact again I7 n7
    | brk=>obtain ⟨σ7,H7,I7,q7⟩:=q7;exact ⟨σ7,H7,I7.unpinned,q7⟩
    | ret v=>obtain ⟨x7,σ7,H7,I7,r7,q7⟩:=q7;exact ⟨x7,σ7,H7,I7.unpinned,r7,q7⟩
end
end L2
namespace L2
open PySem PySem.Spec PyProof.Rows
noncomputable abbrev R2:=V→V→Hp→VK→Prop
noncomputable def OpR (X:Cx) (f:Value→Value→Sem Value) (r:R2):Prop:=
  ∀ (pins:List (Addr × Obj)) (s:Shared) (σ:St) (H:Hp) (x y:V) (v u:Value) (Q:VK),Inv X pins σ H s→RelV x v→RelV y u→r x y H Q→
    wpAny (model X.prog X.w) X.A (f v u) (EP X pins σ Q) X.xe s
noncomputable def UnR (X:Cx) (f:Value→Sem Value) (r:V→Hp→VK→Prop):Prop:=
  ∀ (pins:List (Addr × Obj)) (s:Shared) (σ:St) (H:Hp) (x:V) (v:Value) (Q:VK),Inv X pins σ H s→RelV x v→r x H Q→
    wpAny (model X.prog X.w) X.A (f v) (EP X pins σ Q) X.xe s
noncomputable def CallR (X:Cx) (f:Value) (r:List V→Hp→VK→Prop):Prop:=
  ∀ (pins:List (Addr × Obj)) (s:Shared) (σ:St) (H:Hp) (xs:List V) (us:List Value) (Q:VK),Inv X pins σ H s→Vals xs us→r xs H Q→
    wpAny (model X.prog X.w) X.A (call f us) (EP X pins σ Q) X.xe s
noncomputable def TruR (X:Cx) (r:V→Hp→(Bool→Hp→Prop)→Prop):Prop:=
  ∀ (pins:List (Addr × Obj)) (s:Shared) (σ:St) (H:Hp) (x:V) (v:Value) (Q:Bool→Hp→Prop),Inv X pins σ H s→RelV x v→r x H Q→
    wpAny (model X.prog X.w) X.A (truthy v) (TP X pins σ Q) X.xe s
noncomputable def tOp (r:R2) (ta tb:TE):TE:=fun σ H Q=>ta σ H fun x H1=>tb σ H1 fun y H2=>r x y H2 Q
noncomputable def tUn (r:V→Hp→VK→Prop) (ta:TE):TE:=fun σ H Q=>ta σ H fun x H1=>r x H1 Q
noncomputable def rI (C:Int→Int→Prop) (g:Int→Int→V):R2:=fun x y H Q=>∃ i j,x= .int i∧y= .int j∧C i j∧Q (g i j) H
noncomputable def rI0 (g:Int→Int→V):R2:=fun x y H Q=>∃ i j,x= .int i∧y= .int j∧Q (g i j) H
noncomputable def rU (g:Int→V):V→Hp→VK→Prop:=fun x H Q=>∃ i,x= .int i∧Q (g i) H
section
variable {X:Cx} {a b c:Expr} {ta tb tc:TE} {pos:Pos}
theorem binT (ha:PE X a ta) (hb:PE X b tb) {pins:List (Addr × Obj)} {s:Shared} {σ:St} {H:Hp} {R:V→V→Hp→Prop} (I:Inv X pins σ H s)
    (h:ta σ H fun x H1=>tb σ H1 fun y H2=>R x y H2) {Q:Value→Shared→Prop} {f:Value→Value→Sem Value}
    (hf:∀ v u s2 x y H2,Inv X pins σ H2 s2→RelV x v→RelV y u→R x y H2→wpAny (model X.prog X.w) X.A (f v u) Q X.xe s2):
    wpAny (model X.prog X.w) X.A (eval a X.env) (fun v s₁=>wpAny (model X.prog X.w) X.A (eval b X.env) (fun u s₂=>wpAny (model X.prog X.w) X.A (f v u) Q X.xe s₂) X.xe s₁) X.xe s:=by
  refine thn (ha pins s σ H _ I h) fun v s1 ⟨x,H1,I1,r1,q1⟩=> ?_
  refine thn (hb pins s1 σ H1 _ I1 q1) fun u s2 ⟨y,H2,I2,r2,q2⟩=> ?_
  exact hf v u s2 x y H2 I2 r1 r2 q2
theorem pe_op {op:Operator} {r:R2} (ho:OpR X (binaryOp op) r) (ha:PE X a ta) (hb:PE X b tb):PE X (.BinOp a op b pos) (tOp r ta tb):=by
  intro pins s σ H Q I h
  exact wpAny_BinOp (binT ha hb I h fun v u s2 x y H2 I2 rx ry q=>ho pins s2 σ H2 x y v u Q I2 rx ry q)
theorem pe_un {op:UnaryOp} {r:V→Hp→VK→Prop} (ho:UnR X (unaryOp op) r) (ha:PE X a ta):PE X (.UnaryOp op a pos) (tUn r ta):=by
  intro pins s σ H Q I h
  exact UnaryOp_ (thn (ha pins s σ H _ I h) fun v s1 ⟨x,H1,I1,r1,q1⟩=>ho pins s1 σ H1 x v Q I1 r1 q1)
theorem opI {f:Value→Value→Sem Value} {C:Int→Int→Prop} {g:Int→Int→Int}
    (rule:∀ (i j:Int) (t u:Tok) (s:Shared) (Q:Value→Shared→Prop) (E:Value→Shared→Prop),C i j→Q (.int (g i j) s.toks) { s with toks:=s.toks+1 }→wpAny (model X.prog X.w) X.A (f (.int i t) (.int j u)) Q E s):
    OpR X f (rI C fun i j=> .int (g i j)):=by
  intro pins s σ H x y v u Q I rx ry h
  obtain ⟨i,j,rfl,rfl,hc,q⟩:=h
  obtain ⟨t,rfl⟩:=rx
  obtain ⟨t',rfl⟩:=ry
  exact rule i j t t' s _ _ hc ⟨.int (g i j),H,I.tok _,⟨_,rfl⟩,q⟩
theorem opI0 {f:Value→Value→Sem Value} {g:Int→Int→Int}
    (rule:∀ (i j:Int) (t u:Tok) (s:Shared) (Q:Value→Shared→Prop) (E:Value→Shared→Prop),Q (.int (g i j) s.toks) { s with toks:=s.toks+1 }→wpAny (model X.prog X.w) X.A (f (.int i t) (.int j u)) Q E s):
    OpR X f (rI0 fun i j=> .int (g i j)):=by
  intro pins s σ H x y v u Q I rx ry h
  obtain ⟨i,j,rfl,rfl,q⟩:=h
  obtain ⟨t,rfl⟩:=rx
  obtain ⟨t',rfl⟩:=ry
  exact rule i j t t' s _ _ ⟨.int (g i j),H,I.tok _,⟨_,rfl⟩,q⟩
theorem opB0 {f:Value→Value→Sem Value} {g:Int→Int→Bool}
    (rule:∀ (i j:Int) (t u:Tok) (s:Shared) (Q:Value→Shared→Prop) (E:Value→Shared→Prop),Q (.bool (g i j)) s→wpAny (model X.prog X.w) X.A (f (.int i t) (.int j u)) Q E s):
    OpR X f (rI0 fun i j=> .bl (g i j)):=by
  intro pins s σ H x y v u Q I rx ry h
  obtain ⟨i,j,rfl,rfl,q⟩:=h
  obtain ⟨t,rfl⟩:=rx
  obtain ⟨t',rfl⟩:=ry
  exact rule i j t t' s _ _ ⟨.bl (g i j),H,I,rfl,q⟩
noncomputable def CPow (i j:Int):Prop:=0≤j∧j≤1000000∧i.natAbs<2 ^ 64
noncomputable def CMul (i j:Int):Prop:=(-(2 ^ 64)<i∧i<2 ^ 64)∨(-(2 ^ 64)<j∧j<2 ^ 64)
theorem CMul.ok {i j:Int} (h:CMul i j):IntMulOk i j:=by
  rcases h with ⟨h1,h2⟩ | ⟨h1,h2⟩
  · exact .of_left (intBits_le_64 h1 h2)
  · exact .of_right (intBits_le_64 h1 h2)
theorem two_pow_nn (k:Nat):(0:Int)≤2 ^ k:=by
  rw [two_pow_cast]
  exact Int.natCast_nonneg _
theorem op_add:OpR X (binaryOp .Add) (rI0 fun i j=> .int (i+j)):=opI0 fun _ _ _ _ _ _ _ q=>add_int q
theorem op_sub:OpR X (binaryOp .Sub) (rI0 fun i j=> .int (i - j)):=opI0 fun _ _ _ _ _ _ _ q=>sub_int q
theorem op_mul:OpR X (binaryOp .Mult) (rI CMul fun i j=> .int (i*j)):=opI fun _ _ _ _ _ _ _ hc q=>mul_int q hc.ok
theorem op_mod:OpR X (binaryOp .Mod) (rI (fun _ j=>0<j) fun i j=> .int (i%j)):=opI fun i j _ _ _ _ _ hc q=>by
  have h1:(0:Int)<j:=hc
  exact mod_int' (by omega) (by rw [Int.fmod_eq_emod_of_nonneg i (by omega)];exact q)
theorem op_shl:OpR X (binaryOp .LShift) (rI CPow fun i j=> .int (i*2 ^ j.toNat)):=opI fun _ _ _ _ _ _ _ hc q=>lshift_int_small hc.1 hc.2.1 hc.2.2 q
theorem op_shr:OpR X (binaryOp .RShift) (rI (fun _ j=>0≤j) fun i j=> .int (i / 2 ^ j.toNat)):=opI fun i j _ _ _ _ _ hc q=>
  rshift_int hc (by rw [Int.fdiv_eq_ediv_of_nonneg i (two_pow_nn _)];exact q)
theorem op_and:OpR X (binaryOp .BitAnd) (rI0 fun i j=> .int (Builtin.bitAnd i j)):=opI0 fun _ _ _ _ _ _ _ q=>and_int q
theorem op_xor:OpR X (binaryOp .BitXor) (rI0 fun i j=> .int (Builtin.bitXor i j)):=opI0 fun _ _ _ _ _ _ _ q=>xor_int q
theorem iop_or:OpR X (inplaceOp .BitOr) (rI0 fun i j=> .int (Builtin.bitOr i j)):=opI0 fun _ _ _ _ _ _ _ q=>ior_int q
theorem unI {f:Value→Sem Value} {g:Int→Int}
    (rule:∀ (i:Int) (t:Tok) (s:Shared) (Q:Value→Shared→Prop) (E:Value→Shared→Prop),Q (.int (g i) s.toks) { s with toks:=s.toks+1 }→wpAny (model X.prog X.w) X.A (f (.int i t)) Q E s):
    UnR X f (rU fun i=> .int (g i)):=by
  intro pins s σ H x v Q I rx h
  obtain ⟨i,rfl,q⟩:=h
  obtain ⟨t,rfl⟩:=rx
  exact rule i t s _ _ ⟨.int (g i),H,I.tok _,⟨_,rfl⟩,q⟩
theorem un_neg:UnR X (unaryOp .USub) (rU fun i=> .int (-i)):=unI fun _ _ _ _ _ q=>neg_int q
end
noncomputable def scal:V→V→Bool
  | .non, .non=>true | .non, .int _=>true | .int _, .non=>true | .non, .bl _=>true | .bl _, .non=>true | .non, .str _=>true | .str _, .non=>true
  | .int _, .int _=>true | .bl _, .bl _=>true | .str _, .str _=>true | .byt _, .byt _=>true
  | .int _, .str _=>true | .str _, .int _=>true | .bl _, .str _=>true | .str _, .bl _=>true
  | _,_=>false
noncomputable def rEq:R2:=fun x y H Q=>scal x y=true∧Q (.bl (decide (x=y))) H
noncomputable def rNe:R2:=fun x y H Q=>scal x y=true∧Q (.bl (!decide (x=y))) H
theorem dec_int {i j:Int}:decide (V.int i=V.int j)=(i == j):=by
  rw [Bool.eq_iff_iff]
  simp
theorem dec_bl {i j:Bool}:decide (V.bl i=V.bl j)=(i == j):=by
  rw [Bool.eq_iff_iff]
  simp
theorem dec_str {i j:Str}:decide (V.str i=V.str j)=(i == j):=by
  rw [Bool.eq_iff_iff]
  simp
theorem dec_byt {i j:Array UInt8}:decide (V.byt i=V.byt j)=(i.toList == j.toList):=by
  rw [Bool.eq_iff_iff]
  cases i
  cases j
  simp
section
variable {X:Cx} {a b c:Expr} {ta tb tc:TE} {pos:Pos}
theorem fin_bl {pins:List (Addr × Obj)} {σ:St} {H:Hp} {s:Shared} {Q:VK} {k k':Bool} (I:Inv X pins σ H s) (q:Q (.bl k) H) (e:k=k'):EP X pins σ Q (.bool k') s:=by
  subst e
  exact ⟨.bl k,H,I,rfl,q⟩
theorem op_eq:OpR X (compareOp .Eq) rEq:=by
  intro pins s σ H x y v u Q I rx ry h
  obtain ⟨hs,q⟩:=h
  cases x with
  | non=>
    cases rx
    cases y with
    | non=>cases ry;exact PySem.EqNone.eq_none_none (fin_bl I q (by simp))
    | bl j=>cases ry;exact PySem.EqNone.eq_none_bool (fin_bl I q (by simp))
    | int j=>obtain ⟨t',rfl⟩:=ry;exact PySem.EqNone.eq_none_int (fin_bl I q (by simp))
    | str j=>obtain ⟨t',rfl⟩:=ry;exact PySem.EqNone.eq_none_str (fin_bl I q (by simp))
    | _=>exact absurd (show false=true from hs) Bool.false_ne_true
  | bl i=>
    cases rx
    cases y with
    | non=>cases ry;exact PySem.EqNone.eq_bool_none (fin_bl I q (by simp))
    | bl j=>cases ry;exact eq_bool (fin_bl I q dec_bl)
    | str j=>obtain ⟨t',rfl⟩:=ry;exact PySem.EqMixed.eq_bool_str (fin_bl I q (by simp))
    | _=>exact absurd (show false=true from hs) Bool.false_ne_true
  | int i=>
    obtain ⟨t,rfl⟩:=rx
    cases y with
    | non=>cases ry;exact PySem.EqNone.eq_int_none (fin_bl I q (by simp))
    | int j=>obtain ⟨t',rfl⟩:=ry;exact eq_int (fin_bl I q dec_int)
    | str j=>obtain ⟨t',rfl⟩:=ry;exact PySem.EqMixed.eq_int_str (fin_bl I q (by simp))
    | _=>exact absurd (show false=true from hs) Bool.false_ne_true
  | str i=>
    obtain ⟨t,rfl⟩:=rx
    cases y with
    | non=>cases ry;exact PySem.EqNone.eq_str_none (fin_bl I q (by simp))
    | bl j=>cases ry;exact PySem.EqMixed.eq_str_bool (fin_bl I q (by simp))
    | int j=>obtain ⟨t',rfl⟩:=ry;exact PySem.EqMixed.eq_str_int (fin_bl I q (by simp))
    | str j=>obtain ⟨t',rfl⟩:=ry;exact eq_str (fin_bl I q dec_str)
    | _=>exact absurd (show false=true from hs) Bool.false_ne_true
  | byt i=>
    obtain ⟨t,rfl⟩:=rx
    cases y with
    | byt j=>obtain ⟨t',rfl⟩:=ry;exact PySem.W.eq_bytes (fin_bl I q dec_byt)
    | _=>exact absurd (show false=true from hs) Bool.false_ne_true
  | _=>cases y <;> exact absurd (show false=true from hs) Bool.false_ne_true
theorem op_ne:OpR X (compareOp .NotEq) rNe:=by
  intro pins s σ H x y v u Q I rx ry h
  obtain ⟨hs,q⟩:=h
  cases x with
  | non=>
    cases rx
    cases y with
    | non=>cases ry;exact PySem.EqNone.ne_none_none (fin_bl I q (by simp))
    | bl j=>cases ry;exact PySem.EqNone.ne_none_bool (fin_bl I q (by simp))
    | int j=>obtain ⟨t',rfl⟩:=ry;exact PySem.EqNone.ne_none_int (fin_bl I q (by simp))
    | str j=>obtain ⟨t',rfl⟩:=ry;exact PySem.EqNone.ne_none_str (fin_bl I q (by simp))
    | _=>exact absurd (show false=true from hs) Bool.false_ne_true
  | bl i=>
    cases rx
    cases y with
    | non=>cases ry;exact PySem.EqNone.ne_bool_none (fin_bl I q (by simp))
    | bl j=>cases ry;exact ne_bool (fin_bl I q (congrArg not dec_bl))
    | str j=>obtain ⟨t',rfl⟩:=ry;exact PySem.EqMixed.ne_bool_str (fin_bl I q (by simp))
    | _=>exact absurd (show false=true from hs) Bool.false_ne_true
  | int i=>
    obtain ⟨t,rfl⟩:=rx
    cases y with
    | non=>cases ry;exact PySem.EqNone.ne_int_none (fin_bl I q (by simp))
    | int j=>obtain ⟨t',rfl⟩:=ry;exact ne_int (fin_bl I q (congrArg not dec_int))
    | str j=>obtain ⟨t',rfl⟩:=ry;exact PySem.EqMixed.ne_int_str (fin_bl I q (by simp))
    | _=>exact absurd (show false=true from hs) Bool.false_ne_true
  | str i=>
    obtain ⟨t,rfl⟩:=rx
    cases y with
    | non=>cases ry;exact PySem.EqNone.ne_str_none (fin_bl I q (by simp))
    | bl j=>cases ry;exact PySem.EqMixed.ne_str_bool (fin_bl I q (by simp))
    | int j=>obtain ⟨t',rfl⟩:=ry;exact PySem.EqMixed.ne_str_int (fin_bl I q (by simp))
    | str j=>obtain ⟨t',rfl⟩:=ry;exact ne_str (fin_bl I q (congrArg not dec_str))
    | _=>exact absurd (show false=true from hs) Bool.false_ne_true
  | byt i=>
    obtain ⟨t,rfl⟩:=rx
    cases y with
    | byt j=>obtain ⟨t',rfl⟩:=ry;exact PySem.W.ne_bytes (fin_bl I q (congrArg not dec_byt))
    | _=>exact absurd (show false=true from hs) Bool.false_ne_true
  | _=>cases y <;> exact absurd (show false=true from hs) Bool.false_ne_true
theorem op_lt:OpR X (compareOp .Lt) (rI0 fun i j=> .bl (decide (i<j))):=opB0 fun _ _ _ _ _ _ _ q=>lt_int q
theorem op_le:OpR X (compareOp .LtE) (rI0 fun i j=> .bl (decide (i≤j))):=opB0 fun _ _ _ _ _ _ _ q=>le_int q
theorem op_gt:OpR X (compareOp .Gt) (rI0 fun i j=> .bl (decide (j<i))):=opB0 fun _ _ _ _ _ _ _ q=>gt_int q
theorem op_isN:OpR X (compareOp .Is) (fun x y H Q=>y= .non∧Q (.bl (decide (x= .non))) H):=by
  intro pins s σ H x y v u Q I rx ry h
  obtain ⟨rfl,q⟩:=h
  cases ry
  refine is_none_gen (fin_bl I q ?_)
  cases x <;> first
    | (cases rx;rfl)
    | (obtain ⟨t,rfl⟩:=rx;rfl)
theorem nomark (b:Expr) {op:CmpOp} (h:op≠ .In:=by decide) (h2:op≠ .NotIn:=by decide):behindInMarks op b=false:=by
  have e1:(op == CmpOp.In)=false:=by cases op <;> first | rfl | exact absurd rfl h
  have e2:(op == CmpOp.NotIn)=false:=by cases op <;> first | rfl | exact absurd rfl h2
  cases b <;> simp [behindInMarks,e1,e2]
theorem pe_cmpR {op:CmpOp} {r:R2} (ho:OpR X (compareOp op) r) (ha:PE X a ta) (hb:PE X b tb) (hm:behindInMarks op b=false):PE X (.Compare a [op] [b] pos) (tOp r ta tb):=by
  intro pins s σ H Q I h
  exact wpAny_Compare1 (binT ha hb I h fun v u s2 x y H2 I2 rx ry q=>ho pins s2 σ H2 x y v u Q I2 rx ry q) hm
noncomputable def tTest (t:TE):TT:=fun σ H Q=>t σ H fun x H'=>∃ k,x= .bl k∧Q k H'
theorem pt_cmpR {op:CmpOp} {r:R2} (ho:OpR X (compareOp op) r) (ha:PE X a ta) (hb:PE X b tb) (hm:behindInMarks op b=false):PT X (.Compare a [op] [b] pos) (tTest (tOp r ta tb)):=by
  intro pins s σ H Q I h
  refine wpAny_isTrue_Compare1 (thn (ha pins s σ H _ I h) fun v s1 ⟨x,H1,I1,r1,q1⟩=>thn (hb pins s1 σ H1 _ I1 q1) fun u s2 ⟨y,H2,I2,r2,q2⟩=>
    thn (ho pins s2 σ H2 x y v u _ I2 r1 r2 q2) fun c s3 ⟨z,H3,I3,r3,k,e,q3⟩=> ?_) hm
  subst e
  cases r3
  exact wpAny_truthy_bool ⟨H3,I3,q3⟩
noncomputable def tChain (r r':R2) (ta tb tc:TE):TE:=fun σ H Q=>ta σ H fun x H1=>tb σ H1 fun y H2=>r x y H2 fun z H3=>∃ k,z= .bl k∧
  (if k=true then tc σ H3 fun w' H4=>r' y w' H4 Q else Q (.bl false) H3)
theorem pe_chain {op op':CmpOp} {r r':R2} (ho:OpR X (compareOp op) r) (ho':OpR X (compareOp op') r') (ha:PE X a ta) (hb:PE X b tb) (hc:PE X c tc)
    (hm:lastMarks [op,op'] [b,c]=false:=by with_unfolding_all rfl):PE X (.Compare a [op,op'] [b,c] pos) (tChain r r' ta tb tc):=by
  intro pins s σ H Q I h
  refine Compare_chain (thn (ha pins s σ H _ I h) fun v s1 ⟨x,H1,I1,r1,q1⟩=>chain_link (thn (hb pins s1 σ H1 _ I1 q1) fun u s2 ⟨y,H2,I2,r2,q2⟩=>
    thn (ho pins s2 σ H2 x y v u _ I2 r1 r2 q2) fun d s3 ⟨z,H3,I3,r3,k,e,q3⟩=> ?_)) hm
  subst e
  cases r3
  refine wpAny_truthy_bool ?_
  cases k with
  | false=>exact ite_ff ⟨.bl false,H3,I3,rfl,q3⟩
  | true=>exact ite_tt (chain_last (thn (hc pins s3 σ H3 _ I3 q3) fun w' s4 ⟨z',H4,I4,r4,q4⟩=>ho' pins s4 σ H4 y z' u w' Q I4 r2 r4 q4))
noncomputable def TruV (K:PySem.W.Frag) (x:V) (H:Hp) (k:Bool):Prop:=
  match x with
  | .non=>k=false
  | .bl b=>k=b
  | .int i=>k=(i != 0)
  | .str y=>y.length≤sizeLine∧k=((y.length:Int) != 0)
  | .byt y=>y.size≤sizeLine∧k=((y.size:Int) != 0)
  | .ref p=>(∃ xs,SqL K H p xs∧k= !xs.isEmpty)∨(∃ xs,SqT K H p xs∧k= !xs.isEmpty)∨∃ kvs,H p=some (.dK kvs)∧k= !kvs.isEmpty
  | _=>False
theorem isEmpty_kv {κ:Type} {kvs:List (κ × V)} {vs:List (κ × Value)} (r:KV kvs vs):(!vs.isEmpty)= !kvs.isEmpty:=by
  cases r <;> rfl
theorem isEmpty_of {xs:List V} {its:List Value} (r:Vals xs its):(!its.toArray.isEmpty)= !xs.isEmpty:=by
  cases r <;> simp
theorem line63:(sizeLine:Nat)<2 ^ 63:=by rw [sizeLine_eq];decide
theorem tru_ok:TruR X (fun x H Q=>∃ k,TruV X.K x H k∧Q k H):=by
  intro pins s σ H x v Q I rx h
  obtain ⟨k,e,q⟩:=h
  have hl:=line63
  have hs:sizeLine=16777216:=sizeLine_eq
  cases x with
  | non=>
    cases rx
    have e':k=false:=e
    subst e'
    exact truthy_none ⟨H,I,q⟩
  | bl b=>
    cases rx
    have e':k=b:=e
    subst e'
    exact wpAny_truthy_bool ⟨H,I,q⟩
  | int i=>
    obtain ⟨t,rfl⟩:=rx
    have e':k=(i != 0):=e
    subst e'
    exact PySem.P.truthy_int ⟨H,I,q⟩
  | str y=>
    obtain ⟨t,rfl⟩:=rx
    obtain ⟨hy,e'⟩:y.length≤sizeLine∧k=((y.length:Int) != 0):=e
    subst e'
    exact PySem.P.truthy_str (by omega) ⟨H,I.tok _,q⟩
  | byt y=>
    obtain ⟨t,rfl⟩:=rx
    obtain ⟨hy,e'⟩:y.size≤sizeLine∧k=((y.size:Int) != 0):=e
    subst e'
    exact PySem.W.truthy_bytes (by omega) ⟨H,I.tok _,q⟩
  | ref p=>
    cases rx
    have e':(∃ xs,SqL X.K H p xs∧k= !xs.isEmpty)∨(∃ xs,SqT X.K H p xs∧k= !xs.isEmpty)∨∃ kvs,H p=some (.dK kvs)∧k= !kvs.isEmpty:=e
    rcases e' with ⟨xs,hx,e'⟩ | ⟨xs,hx,e'⟩ | ⟨kvs,hx,e'⟩
    · subst e'
      obtain ⟨its,r,pl,hz⟩:=I.list hx
      have hlen:=r.length
      exact wpAny_truthy_list pl.isList (by simp only [List.size_toArray];omega) ⟨H,I.tok _,by rw [isEmpty_of r];exact q⟩
    · subst e'
      obtain ⟨its,r,pl,hz⟩:=I.tuple hx
      have hlen:=r.length
      exact truthy_tuple pl (by simp only [List.size_toArray];omega) ⟨H,I.tok _,by rw [isEmpty_of r];exact q⟩
    · subst e'
      obtain ⟨hz,hS,vs,r,m⟩:kvs.length≤sizeLine∧(p == sysModules)=false∧∃ vs,KV kvs vs∧s.heap.DictOf (mixKind X.prog X.w) p vs:=I.hok p _ hx
      have hlen:kvs.length=vs.length:=Paired.length r
      exact wpAny_truthy_dict hS m (by omega) ⟨H,I.tok _,by rw [isEmpty_kv r];exact q⟩
  | _=>exact (show False from e).elim
theorem vals1 {x:V} {us:List Value} (r:Vals [x] us):∃ u,us=[u]∧RelV x u:=by
  cases r with
  | cons r1 r2=>cases r2;exact ⟨_,rfl,r1⟩
theorem vals2 {x y:V} {us:List Value} (r:Vals [x,y] us):∃ u w',us=[u,w']∧RelV x u∧RelV y w':=by
  cases r with
  | cons r1 r2=>
    cases r2 with
    | cons r3 r4=>cases r4;exact ⟨_,_,rfl,r1,r3⟩
theorem call_int1:CallR X (.type "int") (fun xs H Q=>(∃ i,xs=[.int i]∧Q (.int i) H)∨∃ k,xs=[.bl k]∧Q (.int (if k then 1 else 0)) H):=by
  intro pins s σ H xs us Q I r h
  rcases h with ⟨i,rfl,q⟩ | ⟨k,rfl,q⟩
  · obtain ⟨u,rfl,t,rfl⟩:=vals1 r
    exact call_int_int ⟨.int i,H,I,⟨_,rfl⟩,q⟩
  · obtain ⟨u,rfl,r1⟩:=vals1 r
    cases r1
    exact call_int_bool ⟨.int (if k then 1 else 0),H,I.tok _,⟨_,rfl⟩,q⟩
noncomputable def LenV (K:PySem.W.Frag) (x:V) (H:Hp) (n:Nat):Prop:=
  match x with
  | .str y=>y.length≤sizeLine∧n=y.length
  | .byt y=>y.size≤sizeLine∧n=y.size
  | .ref p=>(∃ xs,SqL K H p xs∧n=xs.length)∨∃ xs,SqT K H p xs∧n=xs.length
  | _=>False
theorem call_len:CallR X (.builtin "len") (fun xs H Q=>∃ x n,xs=[x]∧LenV X.K x H n∧Q (.int n) H):=by
  intro pins s σ H xs us Q I r h
  obtain ⟨x,n,rfl,e,q⟩:=h
  obtain ⟨u,rfl,rx⟩:=vals1 r
  have hl:=line63
  have hs:sizeLine=16777216:=sizeLine_eq
  cases x with
  | str y=>
    obtain ⟨t,rfl⟩:=rx
    obtain ⟨hy,e'⟩:y.length≤sizeLine∧n=y.length:=e
    subst e'
    exact len_str (by omega) ⟨.int _,H,I.tok _,⟨_,rfl⟩,q⟩
  | byt y=>
    obtain ⟨t,rfl⟩:=rx
    obtain ⟨hy,e'⟩:y.size≤sizeLine∧n=y.size:=e
    subst e'
    exact PySem.W.len_bytes (by omega) ⟨.int _,H,I.tok _,⟨_,rfl⟩,q⟩
  | ref p=>
    cases rx
    have e':(∃ xs,SqL X.K H p xs∧n=xs.length)∨∃ xs,SqT X.K H p xs∧n=xs.length:=e
    rcases e' with ⟨xs,hx,e'⟩ | ⟨xs,hx,e'⟩
    · subst e'
      obtain ⟨its,r',pl,hz⟩:=I.list hx
      have hlen:=r'.length
      exact Calls.call_len_list pl.isList (by simp only [List.size_toArray];omega) ⟨.int xs.length,H,I.tok _,⟨_,by simp only [List.size_toArray];rw [hlen]⟩,q⟩
    · subst e'
      obtain ⟨its,r',pl,hz⟩:=I.tuple hx
      have hlen:=r'.length
      exact len_tuple pl (by simp only [List.size_toArray];omega) ⟨.int xs.length,H,I.tok _,⟨_,by simp only [List.size_toArray];rw [hlen]⟩,q⟩
  | _=>exact (show False from e).elim
end
end L2
namespace L2
open PySem PySem.Spec PyProof.Rows
structure ObjM (h:Heap) (x dx C:Addr) (mA:Str→Option Value):Prop where
  obj:h.get? x=some (PySem.W.instObj C dx)
  ns:h.Ns1 dx mA
  ne:dx≠x
theorem lookIn_ns {h:Heap} {dx:Addr} {mA:Str→Option Value} (n:h.Ns1 dx mA):∃ od,h.get? dx=some od∧∀ name,PySem.W.lookIn name od=some (mA name):=by
  obtain ⟨o,es,ep,ho,hd,hk,_,hm⟩:=n
  refine ⟨o,ho,fun name=> ?_⟩
  have e:=hm name
  unfold nsFind findBy at e
  rw [← Array.find?_toList] at e
  unfold PySem.W.lookIn
  rw [hd]
  dsimp only
  split
  · rename_i y q
    rw [q] at e
    exact congrArg some e
  · rename_i q
    rw [q] at e
    have a:es.toList.any (·.refKey)=false:=by
      rw [List.any_eq_false]
      intro y hy
      obtain ⟨z,t,hkey⟩:=hk y (Array.mem_toList_iff.mp hy)
      simp [DictEntry.refKey,hkey]
    have a':¬ es.toList.any (·.refKey)=true:=by rw [a];exact Bool.false_ne_true
    rw [if_neg a']
    exact congrArg some e
theorem ObjM.look {h:Heap} {x dx C:Addr} {mA:Str→Option Value} (I:ObjM h x dx C mA):∃ od,PySem.W.InstAt h x (PySem.W.instObj C dx) C (some od)∧∀ name,PySem.W.lookIn name od=some (mA name):=
  let ⟨od,ho,hl⟩:=lookIn_ns I.ns
  ⟨od,⟨I.obj,rfl,rfl,ho⟩,hl⟩
section
variable {prog:Program} {w:World} {A:Around} {E:Value→Shared→Prop} {s:Shared} {K:PySem.W.Frag} {x dx C f:Addr} {mA:Str→Option Value} {name:Str} {v:Value}
theorem get_map {expr:Bool} {Q:Value→Shared→Prop} (X:K.In s.heap) (I:ObjM s.heap x dx C mA) (hg:PySem.W.plainGet K C name=true) (hh:PySem.W.hasDictIn K C=true)
    (ha:PySem.W.findIn K (.ref C) name=some none) (hv:mA name=some v) (hv':PySem.W.handedIn v=true) (h:Q v { s with toks:=s.toks+1 }):
    wpAny (model prog w) A (getAttr (.ref x) name expr) Q E s:=by
  obtain ⟨od,J,hl⟩:=I.look
  exact PySem.W.get_value X J (PySem.W.plainGet_of hg).1 (PySem.W.findObj_own hh ha rfl (by rw [hl,hv])) hv' h
theorem get_meth {pl:Sem Bool} {Q:Value × List Value→Shared→Prop} (X:K.In s.heap) (I:ObjM s.heap x dx C mA) (hg:PySem.W.plainGet K C name=true)
    (hf:PySem.W.findIn K (.ref C) name=some (some (.ref f))) (ht:PySem.W.isFn K (.ref f)=true) (hv:mA name=none) (h:Q (.ref f,[.ref x]) s):
    wpAny (model prog w) A (getMethod (.ref x) name pl) Q E s:=by
  obtain ⟨od,J,hl⟩:=I.look
  exact PySem.W.method_fn X J (PySem.W.plainGet_of hg).1 (PySem.W.plainGet_of hg).2 hf (beq_iff_eq.mp ht) (by show (PySem.W.lookIn name od).map (·.isSome)=some false;rw [hl,hv];rfl) h
theorem set_map {ns:List Str} {Q:Unit→Shared→Prop} (X:K.In s.heap) (I:ObjM s.heap x dx C mA)
    (hs:PySem.W.findIn K (.ref C) "__setattr__"=some (some (.builtin "object.__setattr__"))) (hp:PySem.W.plainOver K C=true) (ht:PySem.W.takerIn K C name=some none) (hh:PySem.W.hasDictIn K C=true)
    (hw:PySem.Within mA ns) (hsz:ns.length≤sizeLine)
    (h:∀ h',ObjM h' x dx C (fun y=>if y=name then some v else mA y)→Heap.SameBut dx s.heap h'→Q () { s with heap:=h',toks:=s.toks+2 }):
    wpAny (model prog w) A (setAttr (.ref x) name v) Q E s:=by
  obtain ⟨od,J,hl⟩:=I.look
  refine PySem.W.set_plain X J hs (PySem.W.osa_open (s:={ s with toks:=s.toks+1 }) (r:=none) X J hp ht fun b=> ?_)
  obtain ⟨cd,hc,hd'⟩:=PySem.W.any_some hh
  have hx:s.heap.get? x=some ⟨.ref C,some dx, .plain, #[]⟩:=I.obj
  refine wpAny_bind (wpAny_pure (wpAny_bind (wpAny_bind (wpAny_loadPart hx (wpAny_bind (PySem.W.Looks.here (s:={ s with toks:=s.toks+1 }) (PySem.W.looks_clsIn X hc) ?_))))))
  rw [hd']
  refine wpAny_pure (a:=some dx) (wpAny_bind (wpAny_pure (wpAny_bind ?_)))
  refine wpAny_nsSet1 (s:={ s with toks:=s.toks+1 }) I.ns fun h' hn2 hs2=> ?_
  obtain ⟨oD,esD,epD,hoD,hdD,hcD⟩:=hn2.count (PySem.Within.cons name v hw)
  refine wpAny_bind (wpAny_lookBehind hoD (by rw [hdD];exact pastItsLine_dict (Nat.le_trans hcD (by rw [List.length_cons];omega))) ?_)
  exact wpAny_pure (h _ ⟨(hs2.2 _ (Ne.symm I.ne)).trans I.obj,hn2,I.ne⟩ hs2)
theorem make_map {R:Result→Shared→Prop} {vs:List Value} {kw:List (Str × Value)} (X:K.In s.heap) (hm:PySem.W.makesIn K C=true)
    (hi:PySem.W.findIn K (.ref C) "__init__"=some (some (.ref f))) (hf:PySem.W.typeIn K (.ref f)=some (.type "function"))
    (h:codeAny (model prog w) (A.under (.builtin "type.__call__" ⟨.ref C::vs,kw⟩)) (.call (.ref f) ⟨.ref (s.heap.objs.size+1)::vs,kw⟩) (PySem.W.InitBack (s.heap.objs.size+1) R)
      { s with heap:=(s.heap.push PySem.W.emptyDict).push (PySem.W.instObj C s.heap.objs.size) }):
    codeAny (model prog w) A (.call (.ref C) ⟨vs,kw⟩) R s:=by
  obtain ⟨hh,g,d,t,os⟩:=s
  exact PySem.W.make_core (PySem.W.makes_of X hm) (PySem.W.looks_findIn X hi) (fun self=>PySem.W.bind_fn X self hf) (.inl rfl) h
end
noncomputable def putF (f:Str) (v:V):List (Str × V)→List (Str × V)
  | []=>[(f,v)]
  | (g,x)::r=>if g=f then (g,v)::r else (g,x)::putF f v r
theorem lookup_putF (f g:Str) (v:V):∀ fs:List (Str × V),(putF f v fs).lookup g=if g=f then some v else fs.lookup g
  | []=>by
    show List.lookup g [(f,v)]=_
    by_cases h:g=f
    · have hb:(g == f)=true:=beq_iff_eq.mpr h
      simp only [List.lookup,hb,if_pos h]
    · have hb:(g == f)=false:=beq_eq_false_iff_ne.mpr h
      simp only [List.lookup,hb,if_neg h]
  | (k,x)::r=>by
    have ih:=lookup_putF f g v r
    rw [show putF f v ((k,x)::r)=(if k=f then (k,v)::r else (k,x)::putF f v r) from rfl]
    by_cases hk:k=f
    · rw [if_pos hk]
      by_cases h:g=k
      · have hb:(g == k)=true:=beq_iff_eq.mpr h
        simp only [List.lookup,hb,if_pos (h.trans hk)]
      · have hb:(g == k)=false:=beq_eq_false_iff_ne.mpr h
        simp only [List.lookup,hb,if_neg (fun e:g=f=>h (e.trans hk.symm))]
    · rw [if_neg hk]
      by_cases h:g=k
      · have hb:(g == k)=true:=beq_iff_eq.mpr h
        simp only [List.lookup,hb,if_neg (fun e:g=f=>hk (h.symm.trans e))]
      · have hb:(g == k)=false:=beq_eq_false_iff_ne.mpr h
        simp only [List.lookup,hb]
        exact ih
theorem keys_putF (f:Str) (v:V):∀ fs:List (Str × V),f∈(putF f v fs).map (·.1)∧∀ g,g∈fs.map (·.1)→g∈(putF f v fs).map (·.1)
  | []=>⟨by simp [putF],fun g h=>by simp at h⟩
  | (k,x)::r=>by
    obtain ⟨i1,i2⟩:=keys_putF f v r
    rw [show putF f v ((k,x)::r)=(if k=f then (k,v)::r else (k,x)::putF f v r) from rfl]
    by_cases hk:k=f
    · rw [if_pos hk]
      subst hk
      exact ⟨by simp,fun g h=>by simpa using h⟩
    · rw [if_neg hk]
      refine ⟨?_,fun g h=> ?_⟩
      · rw [List.map_cons]
        exact List.mem_cons_of_mem _ i1
      · rw [List.map_cons] at h ⊢
        rcases List.mem_cons.mp h with e | e
        · exact List.mem_cons.mpr (.inl e)
        · exact List.mem_cons_of_mem _ (i2 g e)
theorem length_putF (f:Str) (v:V):∀ fs:List (Str × V),(putF f v fs).length≤fs.length+1
  | []=>by simp [putF]
  | (k,x)::r=>by
    have ih:=length_putF f v r
    rw [show putF f v ((k,x)::r)=(if k=f then (k,v)::r else (k,x)::putF f v r) from rfl]
    by_cases hk:k=f
    · rw [if_pos hk,List.length_cons,List.length_cons];omega
    · rw [if_neg hk,List.length_cons,List.length_cons];omega
theorem RelO.some_of {v:V} {o:Option Value} (r:RelO (some v) o):∃ u,o=some u∧RelV v u:=by
  cases o with
  | none=>exact (show False from r).elim
  | some u=>exact ⟨u,rfl,r⟩
theorem RelO.none_of {o:Option Value} (r:RelO none o):o=none:=by
  cases o with
  | none=>rfl
  | some u=>exact (show False from r).elim
theorem handed_of {v:V} {u:Value} (r:RelV v u):PySem.W.handedIn u=true:=by
  cases v with
  | non=>cases (show u=Value.none from r);rfl
  | bl b=>cases (show u=Value.bool b from r);rfl
  | int i=>obtain ⟨t,e⟩:=(show ∃ t,u=Value.int i t from r);cases e;rfl
  | str x=>obtain ⟨t,e⟩:=(show ∃ t,u=Value.str x t from r);cases e;rfl
  | byt b=>obtain ⟨t,e⟩:=(show ∃ t,u=Value.bytes b t from r);cases e;rfl
  | flt b=>obtain ⟨t,e⟩:=(show ∃ t,u=Value.float b t from r);cases e;rfl
  | ref a=>cases (show u=Value.ref a from r);rfl
  | ty n=>cases (show u=Value.type n from r);rfl
section
variable {P:Program} {w:World} {H H':Hp} {h h':Heap} {a C dx:Addr} {fs fs':List (Str × V)}
theorem ins_get (hok:HOk P w H h) (e:H a=some (.ins C dx fs)):∃ mA,ObjM h a dx C mA∧(∀ f,RelO (fs.lookup f) (mA f))∧PySem.Within mA (fs.map (·.1))∧fs.length≤1000∧H dx=some (.own a):=by
  obtain ⟨d,z,ne,ob,mA,n,r,q⟩:=(show ObjOk P w H h a (.ins C dx fs) from hok a _ e)
  exact ⟨mA,⟨ob,n,ne⟩,r,q,z,d⟩
end
structure Cls (K:PySem.W.Frag) (C:Addr):Prop where
  pg:PySem.W.plainGet K C Str.empty=true
  hd:PySem.W.hasDictIn K C=true
  po:PySem.W.plainOver K C=true
  sa:PySem.W.findIn K (.ref C) "__setattr__"=some (some (.builtin "object.__setattr__"))
theorem Cls.get {K:PySem.W.Frag} {C:Addr} (c:Cls K C) (f:Str):PySem.W.plainGet K C f=true:=c.pg
noncomputable def NoAttr (K:PySem.W.Frag) (C:Addr) (f:Str):Prop:=PySem.W.findIn K (.ref C) f=some none
theorem NoAttr.taker {K:PySem.W.Frag} {C:Addr} {f:Str} (n:NoAttr K C f):PySem.W.takerIn K C f=some none:=by
  unfold PySem.W.takerIn
  rw [show PySem.W.findIn K (.ref C) f=some none from n]
  rfl
structure Con (K:PySem.W.Frag) (C:Addr) (f:Str) (v:V) (u:Value):Prop where
  at_:PySem.W.findIn K (.ref C) f=some (some u)
  rel:RelV v u
  get:PySem.W.specialIn K u "__get__"=some none
  cp:PySem.W.copiedNames.contains f=false
structure Meth (K:PySem.W.Frag) (C:Addr) (m:Str) (f:Addr):Prop where
  at_:PySem.W.findIn K (.ref C) m=some (some (.ref f))
  fn:PySem.W.isFn K (.ref f)=true
  kp:PySem.W.keepIn K (.ref f)=true
section
variable {X:Cx} {pins:List (Addr × Obj)} {σ:St} {H:Hp} {s:Shared} {a C dx:Addr} {fs:List (Str × V)} {f:Str} {v:V} {A:Around} {E:Value→Shared→Prop}
theorem getattr_ok {b:Bool} {Q:Value→Shared→Prop} (I:Inv X pins σ H s) (e:H a=some (.ins C dx fs)) (c:Cls X.K C) (n:NoAttr X.K C f) (l:fs.lookup f=some v)
    (h:∀ u s',Inv X pins σ H s'→RelV v u→Q u s'):wpAny (model X.prog X.w) A (getAttr (.ref a) f b) Q E s:=by
  obtain ⟨mA,O,r,_,_,_⟩:=ins_get I.hok e
  obtain ⟨u,hu,ru⟩:=RelO.some_of (v:=v) (o:=mA f) (by rw [← l];exact r f)
  exact get_map I.kIn O (c.get f) c.hd n hu (handed_of ru) (h u _ (I.tok _) ru)
theorem getmeth_ok {m:Str} {g:Addr} {pl:Sem Bool} {Q:Value × List Value→Shared→Prop} (I:Inv X pins σ H s) (e:H a=some (.ins C dx fs)) (c:Cls X.K C) (k:Meth X.K C m g) (l:fs.lookup m=none)
    (h:Q (.ref g,[.ref a]) s):wpAny (model X.prog X.w) A (getMethod (.ref a) m pl) Q E s:=by
  obtain ⟨mA,O,r,_,_,_⟩:=ins_get I.hok e
  have hn:mA m=none:=RelO.none_of (by rw [← l];exact r m)
  exact get_meth I.kIn O (c.get m) k.at_ k.fn hn h
theorem setattr_ok {y:V} {u:Value} {Q:Unit→Shared→Prop} (I:Inv X pins σ H s) (e:H a=some (.ins C dx fs)) (c:Cls X.K C) (n:NoAttr X.K C f) (hl:fs.length<1000) (ry:RelV y u)
    (h:∀ s',Inv X pins σ (upd H a (.ins C dx (putF f y fs))) s'→Q () s'):wpAny (model X.prog X.w) A (setAttr (.ref a) f u) Q E s:=by
  obtain ⟨mA,O,r,wi,_,ho⟩:=ins_get I.hok e
  have hz:(fs.map (·.1)).length≤sizeLine:=by rw [List.length_map,sizeLine_eq];omega
  refine set_map I.kIn O c.sa c.po n.taker c.hd wi hz fun h' O' sb=>h _ ?_
  have hd:∃ o,h'.get? dx=some o:=let ⟨o,_,_,e',_⟩:=O'.ns;⟨o,e'⟩
  refine I.write (x:=a) (e:=dx) (by rw [e];exact True.intro) (.inr ho) (fun b q hb z=>(sb.2 b hb).trans z) hd ?_
  refine ⟨by rw [upd_ne O.ne];exact ho,?_,O.ne,O'.obj,_,O'.ns,fun g=> ?_,fun g hg=> ?_⟩
  · have:=length_putF f y fs;omega
  · show RelO ((putF f y fs).lookup g) (if g=f then some u else mA g)
    rw [lookup_putF]
    by_cases q:g=f
    · rw [if_pos q,if_pos q];exact ry
    · rw [if_neg q,if_neg q];exact r g
  · by_cases q:g=f
    · rw [q];exact (keys_putF f y fs).1
    · refine (keys_putF f y fs).2 g (wi g fun z=>hg ?_)
      show (if g=f then some u else mA g)=none
      rw [if_neg q];exact z
theorem Inv.made (I:Inv X pins σ H s):Inv X pins σ (upd (upd H s.heap.objs.size (.own (s.heap.objs.size+1))) (s.heap.objs.size+1) (.ins C s.heap.objs.size []))
    { s with heap:=(s.heap.push PySem.W.emptyDict).push (PySem.W.instObj C s.heap.objs.size) }:=by
  have e1:(s.heap.push PySem.W.emptyDict).get? s.heap.objs.size=some PySem.W.emptyDict:=Heap.get?_push_size s.heap rfl
  have e2:((s.heap.push PySem.W.emptyDict).push (PySem.W.instObj C s.heap.objs.size)).get? (s.heap.objs.size+1)=some (PySem.W.instObj C s.heap.objs.size):=by
    have:=Heap.get?_push_size (s.heap.push PySem.W.emptyDict) (o:=PySem.W.instObj C s.heap.objs.size) rfl
    rwa [Heap.size_push] at this
  have e3:(s.heap.push PySem.W.emptyDict).Ns s.heap.objs.size (fun _=>none):=⟨PySem.W.emptyDict, #[],_,e1,rfl,(fun e he=>absurd he (by simp)),fun _=>rfl⟩
  have I1:=I.laid (a:=s.heap.objs.size) (o:= .own (s.heap.objs.size+1)) (h':=s.heap.push PySem.W.emptyDict) (t':=s.toks) (fun b u q=>Heap.get?_push_of_some _ q) (Nat.le_refl _) ⟨_,e1⟩
  refine I1.laid (a:=s.heap.objs.size+1) (o:= .ins C s.heap.objs.size []) (t':=s.toks) (fun b u q=>Heap.get?_push_of_some _ q) (Nat.le_of_eq (Heap.size_push _ _)) ?_
  have ne:s.heap.objs.size≠s.heap.objs.size+1:=Nat.ne_of_lt (Nat.lt_succ_self _)
  refine ⟨by rw [upd_ne ne,upd_same],Nat.zero_le _,ne,e2,fun _=>none,(Heap.Ns1.of_empty e3).at fun o q=>Heap.get?_push_of_some _ q,fun _=>True.intro,fun y hy=>absurd rfl hy⟩
theorem attr_of {prog:Program} {w:World} {env:Env} {e:Expr} {f:Str} {pos:Pos} {s:Shared} {Q:Value→Shared→Prop} (hb:attributeBase e f env (eval e env)=eval e env)
    (h:wpAny (model prog w) A (eval e env) (fun o s₁=>wpAny (model prog w) A (getAttr o f true) Q E s₁) E s):wpAny (model prog w) A (eval (.Attribute e f pos) env) Q E s:=
  Attribute_any_ h (by rw [arm_eval_Attribute,hb])
end
noncomputable def tFld (K:PySem.W.Frag) (ta:TE) (f:Str):TE:=fun σ H Q=>ta σ H fun x H1=>∃ a C dx fs v,x= .ref a∧H1 a=some (.ins C dx fs)∧Cls K C∧NoAttr K C f∧fs.lookup f=some v∧Q v H1
noncomputable def sFld (K:PySem.W.Frag) (ta tv:TE) (f:Str):TS:=fun D σ H=>tv σ H fun y H1=>ta σ H1 fun x H2=>∃ a C dx fs,x= .ref a∧H2 a=some (.ins C dx fs)∧Cls K C∧NoAttr K C f∧fs.length<1000∧
  D.nx σ (upd H2 a (.ins C dx (putF f y fs)))
section
variable {X:Cx} {o e value:Expr} {f:Str} {pos pos' tpos:Pos} {ta tv:TE}
theorem pe_fld (he:PE X e ta) (hb:attributeBase e f X.env (eval e X.env)=eval e X.env):PE X (.Attribute e f pos) (tFld X.K ta f):=by
  intro pins s σ H Q I h
  refine attr_of hb (thn (he pins s σ H _ I h) fun u s1 ⟨x,H1,I1,rx,a,C,dx,fs,v,ex,ea,c,n,l,q⟩=> ?_)
  subst ex
  obtain rfl:u=Value.ref a:=rx
  exact getattr_ok I1 ea c n l fun u' s2 I2 ru=>⟨v,H1,I2,ru,q⟩
theorem ps_fld (ha:PE X o ta) (hv:PE X value tv) (hs:swapsWith value (some (.Attribute o f pos')) pos.line X.env=pure false):PS X (.Assign [.Attribute o f pos'] value pos) (sFld X.K ta tv f):=by
  intro pins s σ H D I h
  refine plainObj_wpAny_Assign_Attribute (thn (hv pins s σ H _ I h) fun u s1 ⟨y,H1,I1,ry,q⟩=>thn (ha pins s1 σ H1 _ I1 q) fun ov s2 ⟨x,H2,I2,rx,a,C,dx,fs,ex,ea,c,n,l,q2⟩=> ?_) hs
  subst ex
  obtain rfl:ov=Value.ref a:=rx
  exact setattr_ok I2 ea c n l ry fun s3 I3=>⟨σ,_,I3,q2⟩
theorem methcall_of {pl:Sem Bool} {m:Str} {apos:Pos} {args:List Expr} {pins:List (Addr × Obj)} {s:Shared} {σ:St} {H:Hp} {Q:Value→Shared→Prop} {te:TE} (he:PE X e te) (I:Inv X pins σ H s)
    (h:te σ H fun x H1=>∃ a C dx fs g,x= .ref a∧H1 a=some (.ins C dx fs)∧Cls X.K C∧Meth X.K C m g∧fs.lookup m=none∧
      ∀ s1,Inv X pins σ H1 s1→wpAny (model X.prog X.w) X.A (callWith pos (.ref g) [.ref a] (backTo pos (starEach args X.env)) (backToKw pos (keywordEach [] X.env))) Q X.xe s1)
    (ht:eval (.Call (.Attribute e m apos) args [] pos) X.env=(do
      let ov ← eval e X.env
      standAt apos.atName
      let (f,first) ← holding [ov] (getMethod ov m pl)
      callWith pos f first (backTo pos (starEach args X.env)) (backToKw pos (keywordEach [] X.env)))):
    wpAny (model X.prog X.w) X.A (eval (.Call (.Attribute e m apos) args [] pos) X.env) Q X.xe s:=by
  refine PySem.W.methodCall_KW (pl:=pl) (thn (he pins s σ H _ I h) fun u s1 ⟨x,H1,I1,rx,a,C,dx,fs,g,ex,ea,c,k,l,q⟩=> ?_) ht
  subst ex
  obtain rfl:u=Value.ref a:=rx
  exact getmeth_ok I1 ea c k l (q s1 I1)
end
section
variable {X:Cx} {pins:List (Addr × Obj)} {σ:St} {H:Hp} {s:Shared} {A:Around} {E:Value→Shared→Prop} {Q:Value→Shared→Prop} {c:Value} {b:Bool}
inductive TyOf (K:PySem.W.Frag) (H:Hp):V→Value→Prop where
  | non:TyOf K H .non (.type "NoneType")
  | bl (x:Bool):TyOf K H (.bl x) (.type "bool")
  | int (i:Int):TyOf K H (.int i) (.type "int")
  | str (x:Str):TyOf K H (.str x) (.type "str")
  | flt (x:UInt64):TyOf K H (.flt x) (.type "float")
  | lst {a:Addr} {xs:List V} (e:H a=some (.lst xs)):TyOf K H (.ref a) (.type "list")
  | frz {a:Addr} {o:Obj} {xs:List V} (e:H a=some (.frz o (.lst xs))):TyOf K H (.ref a) (.type "list")
  | tup {a:Addr} {xs:List V} (e:H a=some (.tup xs)):TyOf K H (.ref a) (.type "tuple")
  | dK {a:Addr} {kvs:List (Key × V)} (e:H a=some (.dK kvs)):TyOf K H (.ref a) (.type "dict")
  | dT {a:Addr} {kvs:List (List Key × V)} (e:H a=some (.dT kvs)):TyOf K H (.ref a) (.type "dict")
  | ins {a C dx:Addr} {fs:List (Str × V)} (e:H a=some (.ins C dx fs)) (cl:Cls K C) (ha:PySem.W.findIn K (.ref C) "__class__"=some (some (.builtin "object.__class__")))
      (hn:PySem.W.specialIn K (.builtin "object.__class__") "__get__"=some (some (.builtin "getset_descriptor.__get__"))) (htk:PySem.W.takesIn K (.builtin "object.__class__")=some true)
      (hm:PySem.W.mroIn K C (.type "object")=some true):TyOf K H (.ref a) (.ref C)
theorem isinst_ok {x:V} {u t:Value} (I:Inv X pins σ H s) (rx:RelV x u) (ty:TyOf X.K H x t) (e:PySem.W.kitOne X.K t c=some b) (h:∀ tk,Q (.bool b) { s with toks:=tk }):
    wpAny (model X.prog X.w) A (call (.builtin "isinstance") [u,c]) Q E s:=by
  cases ty with
  | non=>cases (show u=Value.none from rx);exact PySem.W.kia_one PySem.W.kitx_none I.kIn True.intro e (fun z=>nomatch z) h
  | bl y=>cases (show u=Value.bool y from rx);exact PySem.W.kia_one PySem.W.kitx_bool I.kIn True.intro e (fun z=>nomatch z) h
  | int i=>obtain ⟨t,q⟩:=(show ∃ t,u=Value.int i t from rx);cases q;exact PySem.W.kia_one PySem.W.kitx_int I.kIn True.intro e (fun z=>nomatch z) h
  | str y=>obtain ⟨t,q⟩:=(show ∃ t,u=Value.str y t from rx);cases q;exact PySem.W.kia_one PySem.W.kitx_str I.kIn True.intro e (fun z=>nomatch z) h
  | flt y=>obtain ⟨t,q⟩:=(show ∃ t,u=Value.float y t from rx);cases q;exact PySem.W.kia_one PySem.W.kitx_float I.kIn True.intro e (fun z=>nomatch z) h
  | @lst a xs ea=>
    cases (show u=Value.ref a from rx)
    obtain ⟨_,_,n,_,h1⟩:=(show ObjOk X.prog X.w H s.heap a (.lst xs) from I.hok a _ ea)
    exact PySem.W.kia_one PySem.W.kitx_list I.kIn ⟨_,h1,rfl⟩ e (fun z=>nomatch z) h
  | @frz a ob xs ea=>
    cases (show u=Value.ref a from rx)
    obtain ⟨_,_,_,n,_,h1⟩:=(show ObjOk X.prog X.w H s.heap a (.frz ob (.lst xs)) from I.hok a _ ea)
    exact PySem.W.kia_one PySem.W.kitx_list I.kIn ⟨_,h1,rfl⟩ e (fun z=>nomatch z) h
  | @tup a xs ea=>
    cases (show u=Value.ref a from rx)
    obtain ⟨_,_,_,p⟩:=(show ObjOk X.prog X.w H s.heap a (.tup xs) from I.hok a _ ea)
    obtain ⟨o,h1,h2,_⟩:=p
    exact PySem.W.kia_one PySem.W.kitx_tuple I.kIn ⟨o,h1,h2⟩ e (fun z=>nomatch z) h
  | @dK a kvs ea=>
    cases (show u=Value.ref a from rx)
    obtain ⟨_,_,vs,_,p⟩:=(show ObjOk X.prog X.w H s.heap a (.dK kvs) from I.hok a _ ea)
    obtain ⟨o,es,ep,h1,h2,_⟩:=p
    exact PySem.W.kia_one PySem.W.kitx_dict I.kIn ⟨o,h1,h2.1⟩ e (fun z=>nomatch z) h
  | @dT a kvs ea=>
    cases (show u=Value.ref a from rx)
    obtain ⟨_,_,xs,_,o,es,ep,h1,h2,_⟩:=(show ObjOk X.prog X.w H s.heap a (.dT kvs) from I.hok a _ ea)
    exact PySem.W.kia_one PySem.W.kitx_dict I.kIn ⟨o,h1,h2.1⟩ e (fun z=>nomatch z) h
  | @ins a C dx fs ea cl ha hn htk hm=>
    cases (show u=Value.ref a from rx)
    obtain ⟨mA,O,_⟩:=ins_get I.hok ea
    obtain ⟨od,J,_⟩:=O.look
    exact PySem.W.kia_one (PySem.W.kitx_own (cl.get _) cl.hd ha hn htk hm) I.kIn J e (fun z=>nomatch z) h
end
end L2
namespace L2
open PySem PySem.Spec PyProof.Rows
structure Room (k:Nat) (A:Around):Prop where
  hd:A.handled=none
  dp:A.depth+3*k+5<recursionLimit
  un:A.units+16*k+200<cLine
theorem Room.mono {j k:Nat} {A:Around} (r:Room k A) (h:j≤k):Room j A:=⟨r.hd,by have:=r.dp;omega,by have:=r.un;omega⟩
theorem Room.deeper {k:Nat} {A:Around} (r:Room (k+1) A) (env:Env):Room k (A.deeper env):=
  ⟨r.hd,by have:=r.dp;show A.depth+1+3*k+5<_;omega,by have:=r.un;show A.units+3+16*k+200<_;omega⟩
theorem make_depth {A:Around} {C:Addr} {us:List Value} {kw:List (Str × Value)}:(A.under (.builtin "type.__call__" ⟨.ref C::us,kw⟩)).depth=A.depth+1:=by
  first | rfl | simp [Around.under,Code.weight,Code.isCreation,Code.isGuard,Code.isCaller,Code.frames,Code.isFrame,guardIds]
theorem make_units {A:Around} {C:Addr} {us:List Value} {kw:List (Str × Value)}:(A.under (.builtin "type.__call__" ⟨.ref C::us,kw⟩)).units=A.units+1:=by
  first | rfl | simp [Around.under,Code.cUnits,Code.frames,Code.isFrame]
theorem Room.make {k:Nat} {A:Around} (r:Room (k+1) A) (C:Addr) (us:List Value) (kw:List (Str × Value)):Room k (A.under (.builtin "type.__call__" ⟨.ref C::us,kw⟩)):=
  ⟨r.hd,by have:=r.dp;rw [make_depth];omega,by have:=r.un;rw [make_units];omega⟩
theorem Room.depth {k:Nat} {A:Around} (r:Room k A):A.depth<recursionLimit:=by have:=r.dp;omega
theorem Room.units {k:Nat} {A:Around} (r:Room k A):A.units+64<cLine:=by have:=r.un;omega
theorem Room.units0 {k:Nat} {A:Around} (r:Room k A):A.units<cLine:=by have:=r.un;omega
noncomputable def tNil:TA:=fun _ H Q=>Q [] H
noncomputable def tCons (ta:TE) (tr:TA):TA:=fun σ H Q=>ta σ H fun x H1=>tr σ H1 fun xs H2=>Q (x::xs) H2
section
variable {X:Cx} {e:Expr} {es:List Expr} {te:TE} {t:TA} {pos:Pos}
theorem pa_nil:PA X [] tNil:=fun _ _ _ _ H Q I h=>Calls.spliced_nil ⟨[],H,I, .nil,h⟩
theorem pa_cons (ha:PE X e te) (hr:PA X es t) (hs:starEach (e::es) X.env=(false,eval e X.env)::starEach es X.env:=by rfl):PA X (e::es) (tCons te t):=by
  intro pos pins s σ H Q I h
  rw [hs]
  show wpAny _ _ (spliced ((false,eval e X.env)::backTo pos (starEach es X.env))) _ _ s
  refine Calls.spliced_cons (thn (ha pins s σ H _ I h) fun u s1 ⟨x,H1,I1,r1,q1⟩=> ?_)
  exact thn (hr pos pins s1 σ H1 _ I1 q1) fun us s2 ⟨xs,H2,I2,r2,q2⟩=>⟨x::xs,H2,I2, .cons r1 r2,q2⟩
noncomputable def tTup (t:TA):TE:=fun σ H Q=>t σ H fun xs H1=>xs.length≤sizeLine∧∀ p,H1 p=none→Q (.ref p) (upd H1 p (.tup xs))
noncomputable def tLst (t:TA):TE:=fun σ H Q=>t σ H fun xs H1=>xs.length≤sizeLine∧∀ p,H1 p=none→Q (.ref p) (upd H1 p (.lst xs))
theorem pe_tup {x1} (h:PA X es t):PE X (.Tuple es x1 pos) (tTup t):=by
  intro pins s σ H Q I hq
  refine wpAny_Tuple_spliced (thn (h pos pins s σ H _ I hq) fun us s1 ⟨xs,H1,I1,r,z,q⟩=>⟨by rw [← r.length];exact z,?_⟩)
  have hf:H1 s1.heap.objs.size=none:=I1.hok.fresh (Nat.le_refl _)
  refine ⟨.ref s1.heap.objs.size,upd H1 s1.heap.objs.size (.tup xs),I1.laid (t':=s1.toks) (fun b u e=>Heap.get?_push_of_some _ e) (Nat.le_refl _) ?_,rfl,q _ hf⟩
  exact ⟨z,us,r,⟨_,Heap.get?_push_size _ rfl,rfl,_,rfl⟩⟩
theorem pe_lst (h:PA X es t):PE X (.List es pos) (tLst t):=by
  intro pins s σ H Q I hq
  refine wpAny_List_spliced (thn (h pos pins s σ H _ I hq) fun us s1 ⟨xs,H1,I1,r,z,q⟩=>⟨by rw [← r.length];exact z,?_⟩)
  have hf:H1 s1.heap.objs.size=none:=I1.hok.fresh (Nat.le_refl _)
  refine ⟨.ref s1.heap.objs.size,upd H1 s1.heap.objs.size (.lst xs),I1.laid (t':=s1.toks) (fun b u e=>Heap.get?_push_of_some _ e) (Nat.le_refl _) ?_,rfl,q _ hf⟩
  exact ⟨z,us,0,r,Heap.get?_push_size _ rfl⟩
end
noncomputable abbrev Sp:=List V→Hp→VK→XK→Prop
noncomputable abbrev CXT:=List Env→Hp→Shared→XK→Value→Shared→Prop
structure Env0 (P:Program) (w:World) (K:PySem.W.Frag) (mg:Str→Option Value) (base:Heap) (A:Around) (outer:List Env) (s:Shared) (H:Hp):Prop where
  frames:A.frames=some outer
  mod:Mod K mg base
  bs:∀ b o,base.get? b=some o→s.heap.get? b=some o∧H b=none
  bsz:base.objs.size≤s.heap.objs.size
  funs:s.heap.FunFrames base outer
  frf:∀ b∈frs outer,H b=none
  hok:HOk P w H s.heap
  bare:AllBare s.gens
noncomputable def CE (outer:List Env) (P:Program) (w:World) (H:Hp) (s:Shared) (Q:VK) (u:Value) (s':Shared):Prop:=
  ∃ v H',s'.os=s.os∧AllBare s'.gens∧Un (frs outer) [] H H' s.heap s'.heap∧HOk P w H' s'.heap∧RelV v u∧Q v H'
noncomputable def CR (CX:CXT) (outer:List Env) (P:Program) (w:World) (H:Hp) (s:Shared) (Q:VK) (E:XK) (r:Result) (s':Shared):Prop:=
  match r with
  | .ok (.ret u)=>CE outer P w H s Q u s'
  | .ok _=>False
  | .error e=>CX outer H s E e s'
structure FnOk (P:Program) (w:World) (K:PySem.W.Frag) (mg:Str→Option Value) (base:Heap) (CX:CXT) (k:Nat) (f:Addr) (fd:FuncData) (ps:List Str) (sp:Sp):Prop where
  len:∀ vs H Q E,sp vs H Q E→vs.length=ps.length
  run:∀ (A:Around) (outer:List Env) (s:Shared) (H:Hp) (args:Args) (us:List Value) (vs:List V) (Q:VK) (E:XK),Room k A→Env0 P w K mg base A outer s H→BindsTo s fd args (ps.zip us)→Vals vs us→sp vs H Q E→
    codeAny (model P w) A (.call (.ref f) args) (CR CX outer P w H s Q E) s
theorem FnOk.imp {P:Program} {w:World} {K:PySem.W.Frag} {mg:Str→Option Value} {base:Heap} {CX:CXT} {k:Nat} {f:Addr} {fd:FuncData} {ps:List Str} {sp sp':Sp} (F:FnOk P w K mg base CX k f fd ps sp)
    (h:∀ vs H Q E,sp' vs H Q E→sp vs H Q E):FnOk P w K mg base CX k f fd ps sp':=
  ⟨fun vs H Q E q=>F.len vs H Q E (h _ _ _ _ q),fun A outer s H args us vs Q E hr he hb hv hs=>F.run A outer s H args us vs Q E hr he hb hv (h _ _ _ _ hs)⟩
theorem Env0.make {P:Program} {w:World} {K:PySem.W.Frag} {mg:Str→Option Value} {base:Heap} {A:Around} {outer:List Env} {s:Shared} {H:Hp} (e:Env0 P w K mg base A outer s H) (C:Addr) (us:List Value) (kw:List (Str × Value)):
    Env0 P w K mg base (A.under (.builtin "type.__call__" ⟨.ref C::us,kw⟩)) outer s H:=⟨by first | exact e.frames | (simpa [Around.under,Code.envs,Code.isFrame,pushEnvs] using e.frames),e.mod,e.bs,e.bsz,e.funs,e.frf,e.hok,e.bare⟩
section
variable {X:Cx} {pins:List (Addr × Obj)} {σ:St} {H:Hp} {s s':Shared}
theorem Inv.env0 (I:Inv X pins σ H s):Env0 X.prog X.w X.K X.mg X.base X.A X.stack s H:=
  ⟨I.ok.frames,I.ok.mod,I.bs,Nat.le_trans I.ok.bsz I.sz,I.stack,I.stkFree,I.hok,I.bare⟩
theorem Inv.after {Q:VK} {u:Value} (I:Inv X pins σ H s) (h:CE X.stack X.prog X.w H s Q u s'):EP X pins σ Q u s':=by
  obtain ⟨v,H',os,bare,un,hok,r,q⟩:=h
  obtain ⟨hh,g,d,t,os'⟩:=s'
  obtain rfl:os'=s.os:=os
  exact ⟨v,H',I.call (h':=hh) (g':=g) (d':=d) (t':=t) (ch:=[]) un hok bare (fun b z=>absurd z (by simp)),r,q⟩
end
noncomputable def tCall (sp:Sp) (dvs:List V) (E:XK) (t:TA):TE:=fun σ H Q=>t σ H fun vs H1=>sp (vs++dvs) H1 Q E
noncomputable def tMeth (C:Addr) (m:Str) (sp:Sp) (dvs:List V) (E:XK) (ta:TE) (t:TA):TE:=fun σ H Q=>ta σ H fun x H1=>∃ a dx fs,x= .ref a∧H1 a=some (.ins C dx fs)∧fs.lookup m=none∧
  t σ H1 fun vs H2=>sp (x::(vs++dvs)) H2 Q E
noncomputable def tMake (C:Addr) (sp:Sp) (dvs:List V) (E:XK) (t:TA):TE:=fun σ H Q=>t σ H fun vs H1=>∀ x dx,H1 x=none→H1 dx=none→dx≠x→
  sp (.ref x::(vs++dvs)) (upd (upd H1 dx (.own x)) x (.ins C dx [])) (fun v H2=>v= .non∧Q (.ref x) H2) E
noncomputable def Binds (K:PySem.W.Frag) (fd:FuncData) (ps:List Str) (ds:List Value):Prop:=
  ∀ (s:Shared) (us:List Value),K.In s.heap→(us++ds).length=ps.length→BindsTo s fd ⟨us,[]⟩ (ps.zip (us++ds))
theorem Binds.all {K:PySem.W.Frag} {fd:FuncData} {ps:List Str} (h:∀ us:List Value,us.length=ps.length→bindArgs fd ⟨us,[]⟩=pure (ps.zip us)):Binds K fd ps []:=fun s us _ hl=>by
  rw [List.append_nil] at hl ⊢
  exact .of_eq (h us hl)
noncomputable def Passes (CX:CXT) (X:Cx) (E:XK):Prop:=∀ (pins:List (Addr × Obj)) (σ:St) (H:Hp) (s:Shared) (e:Value) (s':Shared),Inv X pins σ H s→CX X.stack H s E e s'→X.xe e s'
section
variable {X:Cx} {CX:CXT} {k:Nat} {f C:Addr} {fd:FuncData} {ps:List Str} {sp:Sp} {dvs:List V} {ds:List Value} {E:XK} {x m:Str} {p pos apos:Pos} {e o:Expr} {es:List Expr} {ta:TE} {t:TA}
theorem run_fn {pins:List (Addr × Obj)} {σ:St} {H:Hp} {s:Shared} {Q:VK} {us:List Value} {vs:List V} (F:FnOk X.prog X.w X.K X.mg X.base CX k f fd ps sp) (hr:Room k X.A) (hb:Binds X.K fd ps ds) (hd:Vals dvs ds) (hx:Passes CX X E)
    (I:Inv X pins σ H s) (r:Vals vs us) (h:sp (vs++dvs) H Q E):wpAny (model X.prog X.w) X.A (call (.ref f) us) (EP X pins σ Q) X.xe s:=by
  have r2:Vals (vs++dvs) (us++ds):=r.append hd
  have hl:(us++ds).length=ps.length:=by rw [← r2.length];exact F.len _ _ _ _ h
  refine wpAny_call (codeAny_mono (F.run X.A X.stack s H ⟨us,[]⟩ (us++ds) (vs++dvs) Q E hr I.env0 (hb s us I.kIn hl) r2 h) fun r s' hq=> ?_)
  cases r with
  | error e=>exact hx pins σ H s e s' I hq
  | ok fl=>
    cases fl with
    | ret u=>exact I.after hq
    | next=>exact False.elim hq
    | brk=>exact False.elim hq
    | cont=>exact False.elim hq
theorem pe_call (F:FnOk X.prog X.w X.K X.mg X.base CX k f fd ps sp) (hr:Room k X.A) (hg:Gl X x) (hm:X.mg x=some (.ref f)) (hk:PySem.W.keepIn X.K (.ref f)=true) (hb:Binds X.K fd ps ds) (hd:Vals dvs ds) (hx:Passes CX X E)
    (ha:PA X (e::es) t) (hdb:(x == ("__debug__":Str))=false:=by decide) (he:starEach (e::es) X.env=(false,eval e X.env)::starEach es X.env:=by rfl) (hpl:(backTo pos (starEach es X.env)).any (·.1)=false:=by rfl):
    PE X (.Call (.Name x p) (e::es) [] pos) (tCall sp dvs E t):=by
  intro pins s σ H Q I h
  refine wpAny_Call_Name_kw (ld_glob I hg hm ?_ hdb)
  refine PySem.W.callWith_K (h₀:=X.base) I.ok.mod.kin hk (thn (ha pos pins s σ H _ I h) fun us s1 ⟨vs,H1,I1,r,q⟩=>⟨I1.kIn,?_⟩) he hpl
  exact run_fn F hr hb hd hx I1 r q
theorem pe_meth {pl:Sem Bool} (he:PE X o ta) (c:Cls X.K C) (hm:Meth X.K C m f) (F:FnOk X.prog X.w X.K X.mg X.base CX k f fd ps sp) (hr:Room k X.A) (hb:Binds X.K fd ps ds) (hd:Vals dvs ds) (hx:Passes CX X E) (ha:PA X (e::es) t)
    (hst:starEach (e::es) X.env=(false,eval e X.env)::starEach es X.env:=by rfl) (hpl:(backTo pos (starEach es X.env)).any (·.1)=false:=by rfl)
    (ht:eval (.Call (.Attribute o m apos) (e::es) [] pos) X.env=(do
      let ov ← eval o X.env
      standAt apos.atName
      let (f,first) ← holding [ov] (getMethod ov m pl)
      callWith pos f first (backTo pos (starEach (e::es) X.env)) (backToKw pos (keywordEach [] X.env))):=by rfl):
    PE X (.Call (.Attribute o m apos) (e::es) [] pos) (tMeth C m sp dvs E ta t):=by
  intro pins s σ H Q I h
  refine PySem.W.methodCall_KW (pl:=pl) (thn (he pins s σ H _ I h) fun u s1 ⟨x,H1,I1,rx,a,dx,fs,ex,ea,l,q⟩=> ?_) ht
  subst ex
  obtain rfl:u=Value.ref a:=rx
  refine getmeth_ok I1 ea c hm l ?_
  refine PySem.W.callWith_K (first:=[.ref a]) (h₀:=X.base) I.ok.mod.kin hm.kp (thn (ha pos pins s1 σ H1 _ I1 q) fun us s2 ⟨vs,H2,I2,r,q2⟩=>⟨I2.kIn,?_⟩) hst hpl
  exact run_fn (us:= .ref a::us) (vs:= .ref a::vs) F hr hb hd hx I2 (.cons rfl r) q2
theorem pe_meth0 {pl:Sem Bool} (he:PE X o ta) (c:Cls X.K C) (hm:Meth X.K C m f) (F:FnOk X.prog X.w X.K X.mg X.base CX k f fd ps sp) (hr:Room k X.A) (hb:Binds X.K fd ps ds) (hd:Vals dvs ds) (hx:Passes CX X E)
    (ht:eval (.Call (.Attribute o m apos) [] [] pos) X.env=(do
      let ov ← eval o X.env
      standAt apos.atName
      let (f,first) ← holding [ov] (getMethod ov m pl)
      callWith pos f first (backTo pos (starEach [] X.env)) (backToKw pos (keywordEach [] X.env))):=by rfl):
    PE X (.Call (.Attribute o m apos) [] [] pos) (tMeth C m sp dvs E ta tNil):=by
  intro pins s σ H Q I h
  refine PySem.W.methodCall_KW (pl:=pl) (thn (he pins s σ H _ I h) fun u s1 ⟨x,H1,I1,rx,a,dx,fs,ex,ea,l,q⟩=> ?_) ht
  subst ex
  obtain rfl:u=Value.ref a:=rx
  refine getmeth_ok I1 ea c hm l ?_
  exact PySem.W.callWith_K0 (first:=[.ref a]) I1.kIn hm.kp (run_fn (us:=[.ref a]) (vs:=[.ref a]) F hr hb hd hx I1 (.cons rfl .nil) q)
structure Mk (K:PySem.W.Frag) (C f:Addr):Prop where
  makes:PySem.W.makesIn K C=true
  init:PySem.W.findIn K (.ref C) "__init__"=some (some (.ref f))
  fn:PySem.W.isFn K (.ref f)=true
  kp:PySem.W.keepIn K (.ref C)=true
theorem run_make {pins:List (Addr × Obj)} {σ:St} {H:Hp} {s:Shared} {Q:VK} {us:List Value} {vs:List V} (M:Mk X.K C f) (F:FnOk X.prog X.w X.K X.mg X.base CX k f fd ps sp) (hr:Room (k+1) X.A) (hb:Binds X.K fd ps ds) (hd:Vals dvs ds)
    (hx:Passes CX X E) (I:Inv X pins σ H s) (r:Vals vs us)
    (h:∀ x dx,H x=none→H dx=none→dx≠x→sp (.ref x::(vs++dvs)) (upd (upd H dx (.own x)) x (.ins C dx [])) (fun v H2=>v= .non∧Q (.ref x) H2) E):
    wpAny (model X.prog X.w) X.A (call (.ref C) us) (EP X pins σ Q) X.xe s:=by
  have hq:=h (s.heap.objs.size+1) s.heap.objs.size (I.hok.fresh (Nat.le_succ _)) (I.hok.fresh (Nat.le_refl _)) (Nat.ne_of_lt (Nat.lt_succ_self _))
  have I2:=Inv.made (C:=C) I
  have r2:Vals (V.ref (s.heap.objs.size+1)::(vs++dvs)) (Value.ref (s.heap.objs.size+1)::(us++ds)):= .cons rfl (r.append hd)
  have hl:(Value.ref (s.heap.objs.size+1)::us++ds).length=ps.length:=by
    have e:=r2.length
    rw [F.len _ _ _ _ hq] at e
    exact e.symm
  refine wpAny_call (make_map (f:=f) I.kIn M.makes M.init (beq_iff_eq.mp M.fn) (codeAny_mono (F.run _ X.stack _ _ ⟨Value.ref (s.heap.objs.size+1)::us,[]⟩ (Value.ref (s.heap.objs.size+1)::(us++ds)) _ _ E (hr.make C us [])
    (I2.env0.make C us []) (hb _ (Value.ref (s.heap.objs.size+1)::us) I2.kIn hl) r2 hq) fun r s' hq'=> ?_))
  cases r with
  | error e=>exact hx pins σ _ _ e s' I2 hq'
  | ok fl=>
    cases fl with
    | ret u=>
      obtain ⟨v,H',I3,rv,ev,q3⟩:=I2.after hq'
      subst ev
      exact ⟨rv,⟨V.ref (s.heap.objs.size+1),H',I3,rfl,q3⟩⟩
    | next=>exact False.elim hq'
    | brk=>exact False.elim hq'
    | cont=>exact False.elim hq'
theorem pe_make (M:Mk X.K C f) (F:FnOk X.prog X.w X.K X.mg X.base CX k f fd ps sp) (hr:Room (k+1) X.A) (hg:Gl X x) (hm:X.mg x=some (.ref C)) (hb:Binds X.K fd ps ds) (hd:Vals dvs ds) (hx:Passes CX X E)
    (ha:PA X (e::es) t) (hdb:(x == ("__debug__":Str))=false:=by decide) (he:starEach (e::es) X.env=(false,eval e X.env)::starEach es X.env:=by rfl) (hpl:(backTo pos (starEach es X.env)).any (·.1)=false:=by rfl):
    PE X (.Call (.Name x p) (e::es) [] pos) (tMake C sp dvs E t):=by
  intro pins s σ H Q I h
  refine wpAny_Call_Name_kw (ld_glob I hg hm ?_ hdb)
  refine PySem.W.callWith_K (h₀:=X.base) I.ok.mod.kin M.kp (thn (ha pos pins s σ H _ I h) fun us s1 ⟨vs,H1,I1,r,q⟩=>⟨I1.kIn,?_⟩) he hpl
  exact run_make M F hr hb hd hx I1 r q
end
section
variable {X:Cx} {CX:CXT} {k:Nat} {f C:Addr} {fd:FuncData} {ps ks:List Str} {sp:Sp} {E:XK} {x m:Str} {p pos apos kpos:Pos} {e o:Expr} {es:List Expr} {kws:List Keyword} {te ta:TE} {t tk:TA} {nm:Option Str}
structure KBinds (K:PySem.W.Frag) (fd:FuncData) (ps ks:List Str) (g:List Value→List Value→List Value) (gV:List V→List V→List V):Prop where
  to:∀ (s:Shared) (us ws:List Value),K.In s.heap→(g us ws).length=ps.length→BindsTo s fd ⟨us,ks.zip ws⟩ (ps.zip (g us ws))
  rel:∀ {vs:List V} {us:List Value} {zs:List V} {ws:List Value},Vals vs us→Vals zs ws→Vals (gV vs zs) (g us ws)
variable {g:List Value→List Value→List Value} {gV:List V→List V→List V}
end
structure FnScope (N P:List Str) (sc:Scope):Prop where
  kind:sc.kind= .function
  co:sc.isCoroutine=false
  gen:sc.isGenerator=false
  nd:N.Nodup
  pre:N.take P.length=P
  par:∀ x∈P,sc.names.lookup x=some .local∨sc.names.lookup x=some .cell
  nofree:∀ y∈sc.names,y.2≠ .free
theorem bindL_out {kindOf:Str→Option NameKind} {x:Str}:∀ {binds:List (Str × Value)} {m:Str→Option Value},(∀ v,(x,v)∉binds)→bindL kindOf binds m x=m x
  | [],_,_=>rfl
  | (n,v)::r,m,h=>by
    unfold bindL
    rw [bindL_out fun w hw=>h w (List.mem_cons_of_mem _ hw)]
    split
    · have:x≠n:=by rintro rfl;exact h v List.mem_cons_self
      simp [this]
    · rfl
theorem bindC_out {kindOf:Str→Option NameKind} {x:Str}:∀ {binds:List (Str × Value)} {m:Str→Option Value},(∀ v,(x,v)∉binds)→bindC kindOf binds m x=m x
  | [],_,_=>rfl
  | (n,v)::r,m,h=>by
    unfold bindC
    rw [bindC_out fun w hw=>h w (List.mem_cons_of_mem _ hw)]
    split
    · rfl
    · have:x≠n:=by rintro rfl;exact h v List.mem_cons_self
      simp [this]
theorem bindL_get {kindOf:Str→Option NameKind} {x:Str} {v:Value}:∀ {P:List Str} {vs:List Value} {i:Nat} {m:Str→Option Value},P.Nodup→P[i]?=some x→vs[i]?=some v→kindOf x=some .local→
    bindL kindOf (P.zip vs) m x=some v
  | [],_,_,_,_,h,_,_=>by simp at h
  | _::_,[],_,_,_,_,h,_=>by simp at h
  | p::P,w::vs,0,m,nd,h1,h2,hk=>by
    simp at h1 h2;subst h1;subst h2
    show bindL kindOf ((p,w)::P.zip vs) m p=_
    unfold bindL
    rw [bindL_out fun v hv=>(List.nodup_cons.mp nd).1 (List.of_mem_zip hv).1,if_pos hk]
    simp
  | p::P,w::vs,i+1,m,nd,h1,h2,hk=>by
    show bindL kindOf ((p,w)::P.zip vs) m x=_
    unfold bindL
    exact bindL_get (i:=i) (List.nodup_cons.mp nd).2 (by simpa using h1) (by simpa using h2) hk
theorem bindC_get {kindOf:Str→Option NameKind} {x:Str} {v:Value}:∀ {P:List Str} {vs:List Value} {i:Nat} {m:Str→Option Value},P.Nodup→P[i]?=some x→vs[i]?=some v→kindOf x≠some .local→
    bindC kindOf (P.zip vs) m x=some v
  | [],_,_,_,_,h,_,_=>by simp at h
  | _::_,[],_,_,_,_,h,_=>by simp at h
  | p::P,w::vs,0,m,nd,h1,h2,hk=>by
    simp at h1 h2;subst h1;subst h2
    show bindC kindOf ((p,w)::P.zip vs) m p=_
    unfold bindC
    rw [bindC_out fun v hv=>(List.nodup_cons.mp nd).1 (List.of_mem_zip hv).1,if_neg hk]
    simp
  | p::P,w::vs,i+1,m,nd,h1,h2,hk=>by
    show bindC kindOf ((p,w)::P.zip vs) m x=_
    unfold bindC
    exact bindC_get (i:=i) (List.nodup_cons.mp nd).2 (by simpa using h1) (by simpa using h2) hk
noncomputable def start (N:List Str) (vs:List V):St:=vs.map some++List.replicate (N.length - vs.length) none
noncomputable def cxOf (CX:CXT) (P:Program) (w:World) (K:PySem.W.Frag) (mg:Str→Option Value) (base:Heap) (N:List Str) (qual:Str) (scope:Scope) (f:Addr) (cd:Value) (A:Around) (outer:List Env) (s:Shared) (H:Hp) (E:XK):Cx where
  prog:=P
  w:=w
  K:=K
  mg:=mg
  base:=base
  A:=A.deeper (envOfC qual scope s.heap.objs.size f cd)
  N:=N
  s₀:=s
  H₀:=H
  env:=envOfC qual scope s.heap.objs.size f cd
  outer:=outer
  stack:=envOfC qual scope s.heap.objs.size f cd::outer
  ex:=[]
  calm:=true
  fn:=fun _=>true
  pn:=[]
  xe:=fun e s'=>wpAny (model P w) (A.deeper (envOfC qual scope s.heap.objs.size f cd)) (leaving (envOfC qual scope s.heap.objs.size f cd) e) (fun _ s''=>CX outer H s E e s'') (fun e' s''=>CX outer H s E e' s'') s'
theorem cell_has {sc:Scope} {n:Nat} {x:Str} (h:sc.names.lookup x=some .cell):∃ c,(cellsFrom n sc.names []).lookup x=some c:=by
  have q:=PySem.W.cellsFrom_some sc.names n [] (.inl h)
  exact Option.isSome_iff_exists.mp q
theorem inv_start {CX:CXT} {P:Program} {w:World} {K:PySem.W.Frag} {mg:Str→Option Value} {base:Heap} {N ps:List Str} {qual:Str} {scope:Scope} {f:Addr} {cd:Value} {A:Around} {outer:List Env} {s s1:Shared} {H:Hp} {E:XK} {us:List Value} {vs:List V}
    (S:FnScope N ps scope) (hd:A.handled=none) (e0:Env0 P w K mg base A outer s H) (hl:vs.length=ps.length) (r:Vals vs us)
    (x:InCallC s s.heap.objs.size (bindL (envOfC qual scope s.heap.objs.size f cd).kindOf (ps.zip us) fun _=>none) (cellsFrom (s.heap.objs.size+1) scope.names []) (bindC (envOfC qual scope s.heap.objs.size f cd).kindOf (ps.zip us) fun _=>none) s1):
    Inv (cxOf CX P w K mg base N qual scope f cd A outer s H E) [] (start N vs) H s1:=by
  have hpl:ps.length≤N.length:=by have:=congrArg List.length S.pre;rw [List.length_take] at this;omega
  obtain ⟨h1,tk,rfl,hk⟩:=x.done
  have noA:∀ b:Addr,b∉(cxOf CX P w K mg base N qual scope f cd A outer s H E).ex:=fun b z=>absurd (show b∈([]:List Addr) from z) (by simp)
  refine ⟨⟨e0.mod,S.kind,rfl,rfl,Nat.le_refl _,fun y z c h1 h2=> ?_,fun y hy=> ?_,fun y c _ h=> ?_,fun _=>hd,Around.frames_deeper e0.frames, .inr ⟨rfl,rfl⟩,fun b z=>absurd z (noA b),e0.bs,e0.bsz,fun b _ _=>noA b,fun b z=>absurd z (noA b),e0.funs,e0.frf⟩,
    rfl,e0.bare,Un.kept hk,⟨_,x.toInCall.ns,fun i y v h1 h2 h3=> ?_⟩,fun y c h=>⟨_,x.cell y c h⟩,e0.hok.fresh (Nat.le_refl _),fun y c h=> ?_,fun p hp=>absurd (show p∈([]:List (Addr × Obj)) from hp) (by simp),e0.hok.kept hk,?_⟩
  · exact name_of_addr x.apart (PySem.mem_of_lookup h1) (PySem.mem_of_lookup h2)
  · have hy:scope.names.lookup y=some .cell∨scope.names.lookup y=some .free:=hy
    rcases hy with hy | hy
    · exact cell_has hy
    · exact absurd rfl (S.nofree _ (PySem.mem_of_lookup hy))
  · exact Nat.le_of_lt (x.above y c (PySem.mem_of_lookup h))
  · have hi:i<vs.length:=by
      unfold start at h2
      by_cases hi:i<vs.length
      · exact hi
      · rw [List.getElem?_append_right (by simpa using hi)] at h2
        rw [List.getElem?_replicate] at h2
        split at h2 <;> cases h2
    have ha:vs[i]?=some v:=by
      unfold start at h2
      rw [List.getElem?_append_left (by simpa using hi),List.getElem?_map] at h2
      cases e:vs[i]? with
      | none=>rw [e] at h2;cases h2
      | some a=>rw [e] at h2;cases h2;rfl
    obtain ⟨u,hu,rv⟩:=r.get ha
    have hp:ps[i]?=some y:=by
      rw [← S.pre,List.getElem?_take_of_lt (by omega)];exact h1
    have ndP:ps.Nodup:=by rw [← S.pre];exact S.nd.sublist (List.take_sublist _ _)
    refine ⟨u,rv,?_⟩
    rcases S.par y (List.mem_of_getElem? hp) with k | k
    · exact .inl ⟨k,bindL_get ndP hp hu k⟩
    · obtain ⟨c,e⟩:=cell_has (n:=s.heap.objs.size+1) k
      refine .inr ⟨.inl k,c,e,?_⟩
      have q:=x.cell y c e
      rw [bindC_get ndP hp hu (by show scope.names.lookup y≠_;rw [k];decide)] at q
      exact q
  · exact e0.hok.fresh (Nat.le_of_lt (x.above y c (PySem.mem_of_lookup h)))
  · unfold start
    show _=N.length
    rw [List.length_append,List.length_map,List.length_replicate]
    omega
theorem fn_of {CX:CXT} {P:Program} {w:World} {K:PySem.W.Frag} {mg:Str→Option Value} {base:Heap} {k:Nat} {f:Addr} {name qual:Str} {params:Arguments} {body:List Stmt} {scope:Scope} {dV kV doc pm cdv ct oc:Value} {an od:Option Addr}
    {osl:Array (Option Value)} {N ps:List Str} {sp:Sp} (lk:K.lookup f=some ⟨oc,od, .func (PySem.W.fnOf name qual params body scope dV kV doc pm an cdv ct),osl⟩) (hcd:PySem.W.codeIn K cdv qual=true) (S:FnScope N ps scope)
    (len:∀ vs H Q E,sp vs H Q E→vs.length=ps.length)
    (hbody:∀ (A:Around) (outer:List Env) (s:Shared) (H:Hp) (vs:List V) (Q:VK) (E:XK),Room k (A.deeper (envOfC qual scope s.heap.objs.size f cdv))→sp vs H Q E→
      ∃ t,PSs (cxOf CX P w K mg base N qual scope f cdv A outer s H E) body t∧t { nx:=fun _ H'=>Q .non H',rt:=Q } (start N vs) H):
    FnOk P w K mg base CX (k+1) f (PySem.W.fnOf name qual params body scope dV kV doc pm an cdv ct) ps sp:=by
  refine ⟨len,fun A outer s H args us vs Q E hr e0 hb r hsp=> ?_⟩
  have hl:=len _ _ _ _ hsp
  have KX:K.In s.heap:=e0.mod.kin.keeps fun b o e=>(e0.bs b o e).1
  have lim:s.heap.NoLimit:=e0.mod.nolimit.keeps fun b o e=>(e0.bs b o e).1
  have hkind:∀ y∈ps.zip us,scope.names.lookup y.1=some .local∨(scope.names.lookup y.1=some .cell∧((cellsFrom (s.heap.objs.size+1) scope.names []).lookup y.1).isSome=true):=fun ⟨n,v⟩ hy=>by
    rcases S.par n (List.of_mem_zip hy).1 with q | q
    · exact .inl q
    · exact .inr ⟨q,PySem.W.cellsFrom_some _ _ _ (.inl q)⟩
  refine codeAny_call_function hr.depth (KX _ _ lk) rfl S.co S.gen rfl (PySem.W.codeRec_of KX hcd) (hb _ _ _ _ ?_)
  refine wpAny_newFunctionEnv_cells S.kind hkind fun env he s1 x=> ?_
  subst he
  refine ⟨lim.keeps x.toInCall.keep,codeAny_func ?_⟩
  obtain ⟨t,ht,hq⟩:=hbody A outer s H vs Q E (hr.deeper _) hsp
  have I:Inv (cxOf CX P w K mg base N qual scope f cdv A outer s H E) [] (start N vs) H s1:=inv_start S hr.hd e0 hl r x
  refine wpAny_mono (ht [] s1 (start N vs) H _ I hq) (fun fl s' hs=> ?_) fun e s' hs=>hs
  have fin:∀ {σ':St} {H':Hp} {v:V} {u:Value},Inv (cxOf CX P w K mg base N qual scope f cdv A outer s H E) [] σ' H' s'→RelV v u→Q v H'→CE outer P w H s Q u s':=
    fun {σ' H' v u} J rv q=>⟨v,H',J.os,J.bare,J.base,J.hok,rv,q⟩
  cases fl with
  | ret u=>
    obtain ⟨v,σ',H',J,rv,q⟩:=hs
    exact fin J rv q
  | next=>
    obtain ⟨σ',H',J,q⟩:=hs
    exact fin (v:=V.non) (u:=Value.none) J rfl q
  | brk=>
    obtain ⟨_,_,_,q⟩:=hs
    exact False.elim q
  | cont=>
    obtain ⟨_,_,_,q⟩:=hs
    exact False.elim q
end L2
namespace L2
open PySem PySem.Spec PyProof.Rows
section
variable {X:Cx} {x:Str} {p pos:Pos} {e:Expr} {es:List Expr} {t:TA} {id T:String} {r:List V→Hp→VK→Prop}
noncomputable def tCB (r:List V→Hp→VK→Prop) (t:TA):TE:=fun σ H Q=>t σ H fun vs H1=>r vs H1 Q
theorem pe_callB (hc:CallR X (.builtin id) r) (hg:Gl X x) (hm:X.mg x=none) (hv:bootBuiltins x=some (.builtin id)) (ha:PA X (e::es) t) (hn:x≠"__name__":=by decide) (hdb:(x == ("__debug__":Str))=false:=by decide)
    (he:starEach (e::es) X.env=(false,eval e X.env)::starEach es X.env:=by rfl) (hpl:(backTo pos (starEach es X.env)).any (·.1)=false:=by rfl):PE X (.Call (.Name x p) (e::es) [] pos) (tCB r t):=by
  intro pins s σ H Q I h
  refine wpAny_Call_Name_kw (ld_blt I hg hm hv ?_ hn hdb)
  exact PyProof.Rows.callWith_builtin1 (thn (ha pos pins s σ H _ I h) fun us s1 ⟨vs,H1,I1,r1,q1⟩=>hc pins s1 σ H1 vs us Q I1 r1 q1) he hpl
theorem pe_callTy (hc:CallR X (.type T) r) (hg:Gl X x) (hm:X.mg x=none) (hv:bootBuiltins x=some (.type T)) (ha:PA X (e::es) t) (hn:x≠"__name__":=by decide) (hdb:(x == ("__debug__":Str))=false:=by decide)
    (he:starEach (e::es) X.env=(false,eval e X.env)::starEach es X.env:=by rfl) (hpl:(backTo pos (starEach es X.env)).any (·.1)=false:=by rfl):PE X (.Call (.Name x p) (e::es) [] pos) (tCB r t):=by
  intro pins s σ H Q I h
  refine wpAny_Call_Name_kw (ld_blt I hg hm hv ?_ hn hdb)
  exact PyProof.Rows.callWith_type1 (thn (ha pos pins s σ H _ I h) fun us s1 ⟨vs,H1,I1,r1,q1⟩=>hc pins s1 σ H1 vs us Q I1 r1 q1) he hpl
end
end L2
namespace HT
open PySem PyProof.Rows
section
open PySem.SeqAt
open PySem.AutoSeq1 (wpAny_loadPart')
open PySem.MeetsSeq PySem.MeetsSeq2 PySem.MeetsSeq3
end
section
variable {prog:Program} {w:World} {A:Around} {E:Value→Shared→Prop} {s:Shared}
noncomputable def sIx (n d:Nat):Option Int→Nat
  | none=>d
  | some v=>if v<0 then (v+(n:Int)).toNat else min v.toNat n
theorem sIx_le (n d:Nat) (hd:d≤n) (o:Option Int):sIx n d o≤n:=by
  cases o with
  | none=>exact hd
  | some v=>
    show (if v<0 then (v+(n:Int)).toNat else min v.toNat n)≤n
    by_cases hv:v<0
    · rw [if_pos hv];omega
    · rw [if_neg hv];exact Nat.min_le_right _ _
theorem clip_eq (v:Int) (n d:Nat):(if v<0 then max (v+(n:Int)) 0 else min v (n:Int))=((sIx n d (some v):Nat):Int):=by
  show (if v<0 then max (v+(n:Int)) 0 else min v (n:Int))=(((if v<0 then (v+(n:Int)).toNat else min v.toNat n):Nat):Int)
  by_cases hv:v<0
  · simp only [if_pos hv];omega
  · simp only [if_neg hv];omega
theorem adjust_gen (lo hi:Option Int) (n:Nat):Builtin.Slice.sliceAdjust lo hi 1 (n:Int)=(((sIx n 0 lo:Nat):Int),((sIx n n hi:Nat):Int)):=by
  have h1:¬ ((1:Int)<0):=by omega
  unfold Builtin.Slice.sliceAdjust
  simp only [h1,if_false]
  refine Prod.ext ?_ ?_
  · cases lo with
    | none=>rfl
    | some v=>exact clip_eq v n 0
  · cases hi with
    | none=>rfl
    | some v=>exact clip_eq v n n
theorem places_gen (i j:Nat):Builtin.Slice.slicePlaces (i:Int) (j:Int) 1=j - i:=by
  unfold Builtin.Slice.slicePlaces
  have h1:(1:Int)>0:=by omega
  simp only [h1,if_true,Int.ediv_one]
  split <;> omega
theorem slicePart_ {v:Value} {o:Option Int} {Q:Option Int→Shared→Prop} (p:IsPart v o) (h:Q o s):wpAny (model prog w) A (Builtin.Slice.slicePartIndex v) Q E s:=by
  cases p with
  | none=>exact slicePart_none h
  | int i t=>exact slicePart_int h
theorem sliceApplied_gen {sl:Addr} {vl vu:Value} {lo hi:Option Int} {n:Nat} {Q:Int × Int × Nat→Shared→Prop} (hs:s.heap.IsSliceOf sl vl vu .none) (pl:IsPart vl lo) (pu:IsPart vu hi)
    (h:Q (((sIx n 0 lo:Nat):Int),1,sIx n n hi - sIx n 0 lo) s):wpAny (model prog w) A (Builtin.Slice.sliceApplied (.ref sl) (pure (n:Int))) Q E s:=by
  obtain ⟨os,hos,hcs,hds⟩:=id hs
  unfold Builtin.Slice.sliceApplied Builtin.Slice.sliceFields
  refine wpAny_bind (wpAny_bind (wpAny_field hos hds (x:=vl) rfl (wpAny_bind (wpAny_field hos hds (x:=vu) rfl (wpAny_bind (wpAny_field hos hds (x:= .none) rfl (wpAny_pure ?_)))))))
  refine wpAny_bind (slicePart_none ?_)
  show wpAny _ _ (if ((1:Int) == 0)=true then _ else _) _ _ s
  rw [if_neg (by decide)]
  refine wpAny_bind (slicePart_ pl (wpAny_bind (slicePart_ pu (wpAny_bind (wpAny_pure ?_)))))
  show wpAny _ _ (match Builtin.Slice.sliceAdjust lo hi 1 (n:Int) with | (lo,hi)=>pure (lo,(1:Int),Builtin.Slice.slicePlaces lo hi 1)) _ _ s
  rw [adjust_gen lo hi n]
  show wpAny _ _ (pure (((sIx n 0 lo:Nat):Int),(1:Int),Builtin.Slice.slicePlaces ((sIx n 0 lo:Nat):Int) ((sIx n n hi:Nat):Int) 1)) _ _ s
  rw [places_gen]
  exact wpAny_pure h
theorem pick_gen (xs:Array Value) (i k:Nat):((List.range k).filterMap fun (m:Nat)=>xs[((i:Int)+(m:Int)*1).toNat]?).toArray=((xs.toList.drop i).take k).toArray:=by
  have e:(fun (m:Nat)=>xs[((i:Int)+(m:Int)*1).toNat]?)=fun m=>xs[i+m]?:=by
    funext m
    have:((i:Int)+(m:Int)*1).toNat=i+m:=by omega
    rw [this]
  rw [e]
  have:=pick_run xs i k
  rw [List.filterMap_map] at this
  have e2:((fun x=>xs[x]?)∘fun x=>i+x)=fun m=>xs[i+m]?:=rfl
  rw [e2] at this
  rw [this]
theorem getItem_tuple_cut {t sl:Addr} {items:Array Value} {vl vu:Value} {lo hi:Option Int} {Q:Value→Shared→Prop} (ht:IsTup s.heap t items) (hs:s.heap.IsSliceOf sl vl vu .none) (pl:IsPart vl lo) (pu:IsPart vu hi)
    (hw:¬ (sIx items.size 0 lo=0∧sIx items.size items.size hi=items.size))
    (h:Q (.ref s.heap.objs.size) { s with heap:=s.heap.push { cls:= .type "tuple",data:= .seq ((items.toList.drop (sIx items.size 0 lo)).take (sIx items.size items.size hi - sIx items.size 0 lo)).toArray } })
    (hsz:items.size≤sizeLine):wpAny (model prog w) A (getItem (.ref t) (.ref sl)) Q E s:=by
  have htake:sizeOk (.seq ((items.toList.drop (sIx items.size 0 lo)).take (sIx items.size items.size hi - sIx items.size 0 lo)).toArray):=by
    show ((items.toList.drop (sIx items.size 0 lo)).take (sIx items.size items.size hi - sIx items.size 0 lo)).toArray.size≤sizeLine
    rw [List.size_toArray,List.length_take,List.length_drop,Array.length_toList]
    omega
  have hj:sIx items.size items.size hi≤items.size:=sIx_le _ _ (Nat.le_refl _) hi
  obtain ⟨os,hos,hcs,hds⟩:=id hs
  have hTs:s.TypeIs (.ref sl) "slice":=⟨os,hos,hcs⟩
  unfold getItem
  try with_reducible refine wpAny_holding ?_
  first | refine wpAny_bind (wpAny_pure ?_) | skip
  refine wpAny_bind (wpAny_sequenceKey ht.typeIs (by decide) ?_)
  refine wpAny_bind (wpAny_callSpecial?_slot (name:=Str.ofString "__getitem__") ht.typeIs PyProof.Rows.slot_tuple_getitem
    (wpAny_call_entry PyProof.Rows.slot_tuple_getitem ht.typeIs entry_tuple_getitem ?_ (args_tuple_getitem _ _)))
  show wpAny _ _ (Builtin.Tuple.tupleItemsOf (.ref t) >>= _) _ _ s
  refine wpAny_bind (tupleItemsOf_ ht ?_)
  refine wpAny_bind (wpAny_typeOf hTs ?_)
  rw [if_pos (by decide)]
  refine wpAny_bind (sliceApplied_gen hs pl pu ?_)
  have hno:¬ ((((sIx items.size 0 lo:Nat):Int) == 0&&(1:Int) == 1&&(sIx items.size items.size hi - sIx items.size 0 lo) == items.size)=true):=by
    intro q
    rw [Bool.and_eq_true,Bool.and_eq_true] at q
    have q1:((sIx items.size 0 lo:Nat):Int)=0:=eq_of_beq q.1.1
    have q2:sIx items.size items.size hi - sIx items.size 0 lo=items.size:=eq_of_beq q.2
    exact hw ⟨by omega,by omega⟩
  show wpAny _ _ (if (((sIx items.size 0 lo:Nat):Int) == 0&&(1:Int) == 1&&(sIx items.size items.size hi - sIx items.size 0 lo) == items.size)=true then _ else _) _ _ s
  rw [if_neg hno,pick_gen]
  first
    | exact wpAny_bind (m:=Builtin.Tuple.tupleExact _) (wpAny_newObj_type (wpAny_pure ⟨_,rfl,wpAny_pure h⟩) htake)
    | exact wpAny_bind (m:=Builtin.Tuple.tupleExact _) (wpAny_newObj_type (wpAny_bind (wpAny_pure (wpAny_pure ⟨_,rfl,wpAny_pure h⟩))) htake)
    | exact wpAny_bind (wpAny_bind (m:=Builtin.Tuple.tupleExact _) (wpAny_newObj_type (wpAny_pure (wpAny_pure ⟨_,rfl,wpAny_pure h⟩)) htake))
    | exact wpAny_bind (wpAny_bind (m:=Builtin.Tuple.tupleExact _) (wpAny_newObj_type (wpAny_pure ⟨_,rfl,wpAny_pure h⟩) htake))
end
end HT
namespace L2
open PySem PySem.Spec PyProof.Rows
noncomputable abbrev TO:=St→Hp→(Option Int→Hp→Prop)→Prop
noncomputable def PO (X:Cx) (e:Option Expr) (t:TO):Prop:=
  ∀ (pins:List (Addr × Obj)) (s:Shared) (σ:St) (H:Hp) (Q:Option Int→Hp→Prop),Inv X pins σ H s→t σ H Q→
    wpAny (model X.prog X.w) X.A (evalPart e X.env) (fun u s'=>∃ o H',Inv X pins σ H' s'∧IsPart u o∧Q o H') X.xe s
noncomputable def tNoPart:TO:=fun _ H Q=>Q none H
noncomputable def tPart (t:TE):TO:=fun σ H Q=>t σ H fun x H1=>∃ i,x= .int i∧Q (some i) H1
theorem intsAre_of {ns:List Int}:∀ {us:List Value},Vals (ns.map V.int) us→IntsAre us ns:=by
  induction ns with
  | nil=>intro us r;rw [List.map_nil] at r;cases r;exact .nil
  | cons n ns ih=>
    intro us r
    rw [List.map_cons] at r
    cases r with
    | cons r1 r2=>
      obtain ⟨t,e⟩:=r1
      subst e
      exact .cons n t (ih r2)
section
variable {X:Cx} {e:Expr} {te:TE} {lo hi:Option Expr} {tl th:TO} {pos p2:Pos}
theorem po_none:PO X none tNoPart:=by
  intro pins s σ H Q I h
  rw [evalPart_none]
  exact wpAny_pure ⟨none,H,I, .none,h⟩
theorem po_some (h:PE X e te):PO X (some e) (tPart te):=by
  intro pins s σ H Q I hw
  rw [evalPart_some]
  refine thn (h pins s σ H _ I hw) fun u s1 ⟨x,H1,I1,r1,q1⟩=> ?_
  obtain ⟨i,rfl,q⟩:=q1
  obtain ⟨t,rfl⟩:=r1
  exact ⟨some i,H1,I1, .int i t,q⟩
noncomputable def SlR (X:Cx) (r:V→Option Int→Option Int→Hp→VK→Prop):Prop:=
  ∀ (pins:List (Addr × Obj)) (s:Shared) (σ:St) (H:Hp) (x:V) (v vl vu:Value) (lo hi:Option Int) (sl:Addr) (Q:VK),Inv X pins σ H s→RelV x v→s.heap.IsSliceOf sl vl vu .none→IsPart vl lo→IsPart vu hi→r x lo hi H Q→
    ∃ T id,typeLookup (.type T) "__getitem__"=pure (some (.builtin id))∧s.TypeIs v T∧wpAny (model X.prog X.w) X.A (getItem v (.ref sl)) (EP X pins σ Q) X.xe s
noncomputable def tSl (r:V→Option Int→Option Int→Hp→VK→Prop) (te:TE) (tl th:TO):TE:=fun σ H Q=>te σ H fun x H1=>tl σ H1 fun l H2=>th σ H2 fun u H3=>r x l u H3 Q
theorem pe_slice {r:V→Option Int→Option Int→Hp→VK→Prop} (hr:SlR X r) (he:PE X e te) (hl:PO X lo tl) (hu:PO X hi th):PE X (.Subscript e (.Slice lo hi none p2) pos) (tSl r te tl th):=by
  intro pins s σ H Q I h
  refine Subscript_ (thn (he pins s σ H _ I h) fun v s1 ⟨x,H1,I1,r1,q1⟩=> ?_)
  refine wpAny_Slice (thn (hl pins s1 σ H1 _ I1 q1) fun vl s2 ⟨l,H2,I2,pl,q2⟩=>thn (hu pins s2 σ H2 _ I2 q2) fun vu s3 ⟨u,H3,I3,pu,q3⟩=> ?_)
  rw [evalPart_none]
  refine wpAny_pure ?_
  have I4:Inv X pins σ H3 { s3 with heap:=s3.heap.push { cls:= .type "slice",data:= .fields #[vl,vu, .none] } }:=I3.kept (t':=s3.toks) fun b ob q=>Heap.get?_push_of_some _ q
  obtain ⟨T,id,hT,ht,hg⟩:=hr pins { s3 with heap:=s3.heap.push { cls:= .type "slice",data:= .fields #[vl,vu, .none] } } σ H3 x v vl vu l u s3.heap.objs.size Q I4 r1 (Heap.IsSliceOf.new ..) pl pu q3
  show wpAny (model X.prog X.w) X.A (subscriptTail e (.Slice lo hi none p2) v (.ref s3.heap.objs.size)) (EP X pins σ Q) X.xe { s3 with heap:=s3.heap.push { cls:= .type "slice",data:= .fields #[vl,vu, .none] } }
  exact tail_any (ops:=[.ref s3.heap.objs.size,v]) ht hT hg (by with_unfolding_all rfl)
noncomputable def cutV (xs:List V) (lo hi:Option Int):List V:=(xs.drop (HT.sIx xs.length 0 lo)).take (HT.sIx xs.length xs.length hi - HT.sIx xs.length 0 lo)
theorem cutV_length (xs:List V) (lo hi:Option Int):(cutV xs lo hi).length≤xs.length:=by
  unfold cutV
  rw [List.length_take,List.length_drop]
  omega
noncomputable def rSlT (K:PySem.W.Frag):V→Option Int→Option Int→Hp→VK→Prop:=fun x lo hi H Q=>∃ a xs,x= .ref a∧SqT K H a xs∧
  ¬ (HT.sIx xs.length 0 lo=0∧HT.sIx xs.length xs.length hi=xs.length)∧∀ p,H p=none→Q (.ref p) (upd H p (.tup (cutV xs lo hi)))
theorem sl_tup:SlR X (rSlT X.K):=by
  intro pins s σ H x v vl vu lo hi sl Q I rx hs pl pu h
  obtain ⟨a,xs,rfl,hx,hw,q⟩:=h
  cases rx
  obtain ⟨its,r,ht,hz⟩:=I.tuple hx
  have hlen:its.toArray.size=xs.length:=by rw [List.size_toArray];exact r.length.symm
  refine ⟨"tuple",_,PyProof.Rows.slot_tuple_getitem.lookup,ht.typeIs,?_⟩
  refine HT.getItem_tuple_cut ht hs pl pu (by rw [hlen];exact hw) ?_ (by rw [hlen];exact hz)
  rw [hlen]
  refine ⟨.ref s.heap.objs.size,_,I.laid (t':=s.toks) (o:= .tup (cutV xs lo hi)) (fun b ob q=>Heap.get?_push_of_some _ q) (Nat.le_refl _) ?_,rfl,q _ (I.hok.fresh (Nat.le_refl _))⟩
  exact ⟨Nat.le_trans (cutV_length xs lo hi) hz,_,(r.drop (HT.sIx xs.length 0 lo)).take (HT.sIx xs.length xs.length hi - HT.sIx xs.length 0 lo),IsTup.new _ _⟩
end
end L2
namespace L2
open PySem PySem.Spec PyProof.Rows
noncomputable def ixN (n:Nat) (i:Int):Option Nat:=if 0≤i then (if i<n then some i.toNat else none) else if -(n:Int)≤i then some (i+n).toNat else none
noncomputable def atI {α:Type} (xs:List α) (i:Int):Option α:=(ixN xs.length i).bind fun j=>xs[j]?
theorem ixN_seq {n:Nat} {i:Int} {j:Nat} (h:ixN n i=some j):seqIndex? i n=some j∧j<n∧ -(n:Int)≤i∧i<n:=by
  unfold ixN at h
  by_cases h0:0≤i
  · rw [if_pos h0] at h
    by_cases h1:i<n
    · rw [if_pos h1] at h
      have e:i.toNat=j:=Option.some.inj h
      exact ⟨by rw [seqIndex_of h0 h1,e],by omega,by omega,h1⟩
    · rw [if_neg h1] at h;cases h
  · rw [if_neg h0] at h
    by_cases h1: -(n:Int)≤i
    · rw [if_pos h1] at h
      have e:(i+n).toNat=j:=Option.some.inj h
      exact ⟨by rw [seqIndex_neg (by omega) h1,e],by omega,h1,by omega⟩
    · rw [if_neg h1] at h;cases h
theorem atI_get {α:Type} {xs:List α} {i:Int} {v:α} (h:atI xs i=some v):∃ j,seqIndex? i xs.length=some j∧xs[j]?=some v∧j<xs.length∧ -(xs.length:Int)≤i∧i<xs.length:=by
  unfold atI at h
  cases e:ixN xs.length i with
  | none=>rw [e] at h;cases h
  | some j=>
    rw [e] at h
    obtain ⟨h1,h2,h3,h4⟩:=ixN_seq e
    exact ⟨j,h1,h,h2,h3,h4⟩
theorem atI_nat {α:Type} {xs:List α} {j:Nat} {v:α} (h:xs[j]?=some v):atI xs (j:Int)=some v:=by
  have hj:j<xs.length:=(List.getElem?_eq_some_iff.mp h).1
  have e:ixN xs.length (j:Int)=some j:=by
    unfold ixN
    rw [if_pos (by omega),if_pos (by omega)];simp
  unfold atI;rw [e];exact h
noncomputable def PlainIx (b:Expr):Prop:=∀ o i,subscripted b false o i=operate [o,i] (getItem o i)
noncomputable def IxR (X:Cx) (r:R2):Prop:=
  ∀ (value slice:Expr) (pins:List (Addr × Obj)) (s:Shared) (σ:St) (H:Hp) (x y:V) (v u:Value) (Q:VK),Inv X pins σ H s→RelV x v→RelV y u→r x y H Q→
    subscripted slice false v u=operate [v,u] (getItem v u)→wpAny (model X.prog X.w) X.A (subscriptTail value slice v u) (EP X pins σ Q) X.xe s
noncomputable def MtR (X:Cx) (id:String) (r:V→List V→Hp→VK→Prop):Prop:=
  ∀ (pins:List (Addr × Obj)) (s:Shared) (σ:St) (H:Hp) (x:V) (xs:List V) (v:Value) (us:List Value) (Q:VK),Inv X pins σ H s→RelV x v→Vals xs us→r x xs H Q→
    wpAny (model X.prog X.w) X.A (call (.builtin id) (v::us)) (EP X pins σ Q) X.xe s
section
variable {X:Cx} {a b:Expr} {ta tb:TE} {pos:Pos}
theorem pe_ix {r:R2} (hr:IxR X r) (ha:PE X a ta) (hb:PE X b tb) (hs:PlainIx b):PE X (.Subscript a b pos) (tOp r ta tb):=by
  intro pins s σ H Q I h
  exact Subscript_ (binT ha hb I h fun v u s2 x y H2 I2 rx ry q=>hr a b pins s2 σ H2 x y v u Q I2 rx ry q (hs _ _))
noncomputable def rIxL (K:PySem.W.Frag):R2:=fun x y H Q=>∃ p xs i v,x= .ref p∧y= .int i∧SqL K H p xs∧atI xs i=some v∧Q v H
noncomputable def rIxT (K:PySem.W.Frag):R2:=fun x y H Q=>∃ p xs i v,x= .ref p∧y= .int i∧SqT K H p xs∧atI xs i=some v∧Q v H
theorem ix_list:IxR X (rIxL X.K):=by
  intro value slice pins s σ H x y v u Q I rx ry h hs
  obtain ⟨p,xs,i,z,rfl,rfl,hq,he,q⟩:=h
  cases rx
  obtain ⟨t,rfl⟩:=ry
  obtain ⟨its,r,pl,hz⟩:=I.list hq
  obtain ⟨j,h1,h2,h3,h4,h5⟩:=atI_get he
  obtain ⟨w,ew,rw'⟩:=r.get h2
  have hl:=r.length
  have hn:=line63
  have fin:EP X pins σ Q w s:=⟨z,H,I,rw',q⟩
  by_cases h0:0≤i
  · have hj:i.toNat=j:=by
      rw [seqIndex_of h0 h5] at h1
      exact Option.some.inj h1
    exact item_listR pl.isList h0 (by omega) (by rw [hj];simpa using ew) fin hs
  · have hj:(i+(its.toArray.size:Int)).toNat=j:=by
      rw [seqIndex_neg (by omega) h4] at h1
      rw [List.size_toArray, ← hl]
      exact Option.some.inj h1
    exact subscriptTail_builtinR (x:=w) pl.isList.typeIs slot_list_getitem.lookup
      (wpAny_getItem_list_neg (Q:=fun r s'=>r=w∧EP X pins σ Q r s') pl.isList (by omega) (by rw [List.size_toArray] <;> omega) (by omega) (by rw [hj];simpa using ew) ⟨rfl,fin⟩) hs
theorem ix_tup:IxR X (rIxT X.K):=by
  intro value slice pins s σ H x y v u Q I rx ry h hs
  obtain ⟨p,xs,i,z,rfl,rfl,hq,he,q⟩:=h
  cases rx
  obtain ⟨t,rfl⟩:=ry
  obtain ⟨its,r,pl,hz⟩:=I.tuple hq
  obtain ⟨j,h1,h2,h3,h4,h5⟩:=atI_get he
  obtain ⟨w,ew,rw'⟩:=r.get h2
  have hl:=r.length
  have hn:=line63
  have fin:EP X pins σ Q w s:=⟨z,H,I,rw',q⟩
  exact subscriptTail_builtinR (x:=w) pl.typeIs slot_tuple_getitem.lookup
    (getItem_tuple (j:=j) (Q:=fun r s'=>r=w∧EP X pins σ Q r s') pl (by omega) (by omega) (by rw [List.size_toArray, ← hl];exact h1) (by simpa using ew) ⟨rfl,fin⟩) hs
theorem mapSeq_set (its:List Value) (n j:Nat) (u:Value):Obj.mapSeq (·.setIfInBounds j u) { cls:= .type "list",data:= .seq its.toArray n }={ cls:= .type "list",data:= .seq (its.set j u).toArray n }:=by
  simp [Obj.mapSeq]
theorem Inv.lst {pins:List (Addr × Obj)} {σ:St} {H:Hp} {s:Shared} {p:Addr} {xs:List V} (I:Inv X pins σ H s) (h:H p=some (.lst xs)):
    ∃ (its:List Value) (n:Nat),Vals xs its∧s.heap.get? p=some { cls:= .type "list",data:= .seq its.toArray n }∧xs.length≤sizeLine:=by
  obtain ⟨z,its,n,r,e⟩:=I.hok p _ h
  exact ⟨its,n,r,e,z⟩
theorem Inv.lstUpd {pins:List (Addr × Obj)} {σ:St} {H:Hp} {s:Shared} {p:Addr} {xs ys:List V} {its its':List Value} {n n':Nat} {f:Obj→Obj} (I:Inv X pins σ H s) (h:H p=some (.lst xs))
    (ho:s.heap.get? p=some { cls:= .type "list",data:= .seq its.toArray n }) (hf:f { cls:= .type "list",data:= .seq its.toArray n }={ cls:= .type "list",data:= .seq its'.toArray n' }) (r:Vals ys its') (hz:ys.length≤sizeLine) (t:Nat):
    Inv X pins σ (upd H p (.lst ys)) { s with heap:=s.heap.update p f,toks:=t }:=by
  have e:(s.heap.update p f).get? p=some { cls:= .type "list",data:= .seq its'.toArray n' }:=by
    rw [Heap.get?_update_self f ho (by rw [hf] <;> rfl),hf]
  refine I.write (x:=p) (e:=p) (by rw [h];trivial) (.inl rfl) (fun b u hb q=>(Heap.get?_update_other _ _ (Ne.symm hb)).trans q) ⟨_,e⟩ ?_
  exact ⟨hz,its',n',r,e⟩
noncomputable def rSetL:V→V→V→Hp→(Hp→Prop)→Prop:=fun o i v H Q=>∃ p xs k j,o= .ref p∧i= .int k∧H p=some (.lst xs)∧ixN xs.length k=some j∧Q (upd H p (.lst (xs.set j v)))
theorem set_list:PSet X rSetL:=by
  intro pins s σ H o i v ov iv u Q I ro ri rv h
  obtain ⟨p,xs,k,j,rfl,rfl,hp,hj,q⟩:=h
  cases ro
  obtain ⟨t,rfl⟩:=ri
  obtain ⟨its,n,r,ho,hz⟩:=I.lst hp
  obtain ⟨h1,h2,h3,h4⟩:=ixN_seq hj
  have hl:=r.length
  have hn:=line63
  have I':Inv X pins σ (upd H p (.lst (xs.set j v))) { s with heap:=s.heap.update p (Obj.mapSeq (·.setIfInBounds j u)) }:=
    I.lstUpd hp ho (mapSeq_set its n j u) (r.set rv j) (by rw [List.length_set];exact hz) s.toks
  by_cases h0:0≤k
  · have hk:k.toNat=j:=by
      rw [seqIndex_of h0 h4] at h1
      exact Option.some.inj h1
    exact PySem.W.ki_setAt ho h0 (by omega) (by rw [List.size_toArray, ← hl];exact h4) (by rw [hk];exact ⟨_,I',q⟩)
  · have hk:(k+(its.toArray.size:Int)).toNat=j:=by
      rw [seqIndex_neg (by omega) h3] at h1
      rw [List.size_toArray, ← hl]
      exact Option.some.inj h1
    exact PySem.W.ki_setBack ho (by omega) (by rw [List.size_toArray, ← hl];exact h3) (by omega) (by rw [hk];exact ⟨_,I',q⟩)
theorem slice_bounds (lo hi:Option Int) (n:Nat):(sliceBounds lo hi none n).1=((HT.sIx n 0 lo:Nat):Int)∧(sliceBounds lo hi none n).2.1=((HT.sIx n n hi:Nat):Int)∧(sliceBounds lo hi none n).2.2=1:=by
  refine ⟨?_,?_,rfl⟩
  · cases lo with
    | none=>simp [sliceBounds,HT.sIx]
    | some i=>
      simp only [sliceBounds,HT.sIx,Option.getD_none,show (1:Int)>0 by decide,if_true]
      by_cases h:i<0
      · simp only [h,if_true] <;> omega
      · simp only [h,if_false] <;> omega
  · cases hi with
    | none=>simp [sliceBounds,HT.sIx]
    | some i=>
      simp only [sliceBounds,HT.sIx,Option.getD_none,show (1:Int)>0 by decide,if_true]
      by_cases h:i<0
      · simp only [h,if_true] <;> omega
      · simp only [h,if_false] <;> omega
theorem slicePick_cut (its:List Value) (lo hi:Option Int):slicePick its.toArray lo hi none=((its.drop (HT.sIx its.length 0 lo)).take (HT.sIx its.length its.length hi - HT.sIx its.length 0 lo)).toArray:=by
  obtain ⟨h1,h2,h3⟩:=slice_bounds lo hi its.toArray.size
  unfold slicePick
  rw [h1,h2,h3]
  simp only [sliceRange_one,pick_run,List.size_toArray] <;> rfl
noncomputable def rSlL (K:PySem.W.Frag):V→Option Int→Option Int→Hp→VK→Prop:=fun x lo hi H Q=>∃ a xs,x= .ref a∧SqL K H a xs∧∀ p,H p=none→Q (.ref p) (upd H p (.lst (cutV xs lo hi)))
theorem sl_list:SlR X (rSlL X.K):=by
  intro pins s σ H x v vl vu lo hi sl Q I rx hs pl pu h
  obtain ⟨a,xs,rfl,hx,q⟩:=h
  cases rx
  obtain ⟨its,r,ht,hz⟩:=I.list hx
  have hlen:=r.length
  refine ⟨"list",_,slot_list_getitem.lookup,ht.isList.typeIs,?_⟩
  refine wpAny_getItem_list_slice ht.isList hs pl pu .none (by simp) ?_ (by rw [List.size_toArray] <;> omega)
  rw [slicePick_cut, ← hlen]
  refine ⟨.ref s.heap.objs.size,_,I.laid (t':=s.toks) (o:= .lst (cutV xs lo hi)) (fun b ob q=>Heap.get?_push_of_some _ q) (Nat.le_refl _) ?_,rfl,q _ (I.hok.fresh (Nat.le_refl _))⟩
  exact ⟨Nat.le_trans (cutV_length xs lo hi) hz,_,0,(r.drop (HT.sIx xs.length 0 lo)).take (HT.sIx xs.length xs.length hi - HT.sIx xs.length 0 lo),Heap.get?_push_size _ rfl⟩
noncomputable def flatV:V→Bool
  | .non=>true
  | .bl _=>true
  | .int _=>true
  | .str _=>true
  | _=>false
noncomputable def eqV:V→V→Bool
  | .non, .non=>true
  | .bl a, .bl b=>a == b
  | .bl a, .int b=>(if a then 1 else 0) == b
  | .int a, .bl b=>a == (if b then 1 else 0)
  | .int a, .int b=>a == b
  | .str a, .str b=>a == b
  | _,_=>false
theorem eqAt_V {A:Around} {s:Shared} {y x:V} {u v:Value} (ry:RelV y u) (rx:RelV x v) (fy:flatV y=true) (fx:flatV x=true):SeqAt.EqAt A s u v (eqV y x):=by
  cases y with
  | non=>
    cases ry
    cases x with
    | non=>cases rx;exact SeqAt.EqAt.same _
    | bl b=>cases rx;exact SeqAt.EqAt.none_bool b
    | int b=>obtain ⟨t,rfl⟩:=rx;exact SeqAt.EqAt.none_int b t
    | str b=>obtain ⟨t,rfl⟩:=rx;exact SeqAt.EqAt.none_str b t
    | _=>exact absurd (show false=true from fx) Bool.false_ne_true
  | bl a=>
    cases ry
    cases x with
    | non=>cases rx;exact SeqAt.EqAt.bool_none a
    | bl b=>cases rx;exact SeqAt.EqAt.bool_bool a b
    | int b=>obtain ⟨t,rfl⟩:=rx;exact SeqAt.EqAt.bool_int a b t
    | str b=>obtain ⟨t,rfl⟩:=rx;exact SeqAt.EqAt.bool_str a b t
    | _=>exact absurd (show false=true from fx) Bool.false_ne_true
  | int a=>
    obtain ⟨t',rfl⟩:=ry
    cases x with
    | non=>cases rx;exact SeqAt.EqAt.int_none a t'
    | bl b=>cases rx;exact SeqAt.EqAt.int_bool a t' b
    | int b=>obtain ⟨t,rfl⟩:=rx;exact SeqAt.EqAt.int_int a t' b t
    | str b=>obtain ⟨t,rfl⟩:=rx;exact SeqAt.EqAt.int_str a t' b t
    | _=>exact absurd (show false=true from fx) Bool.false_ne_true
  | str a=>
    obtain ⟨t',rfl⟩:=ry
    cases x with
    | non=>cases rx;exact SeqAt.EqAt.str_none a t'
    | bl b=>cases rx;exact SeqAt.EqAt.str_bool a t' b
    | int b=>obtain ⟨t,rfl⟩:=rx;exact SeqAt.EqAt.str_int a t' b t
    | str b=>obtain ⟨t,rfl⟩:=rx;exact SeqAt.EqAt.str_str a t' b t
    | _=>exact absurd (show false=true from fx) Bool.false_ne_true
  | _=>exact absurd (show false=true from fy) Bool.false_ne_true
theorem call_list_of:CallR X (.type "list") (fun xs H Q=>∃ p ys,xs=[.ref p]∧(SqL X.K H p ys∨SqT X.K H p ys)∧∀ l,H l=none→Q (.ref l) (upd H l (.lst ys))):=by
  intro pins s σ H xs us Q I r h
  obtain ⟨p,ys,rfl,hq,q⟩:=h
  obtain ⟨u,rfl,rx⟩:=vals1 r
  cases rx
  have fin:∀ (its:List Value),Vals ys its→ys.length≤sizeLine→∀ (h':Heap) (c':Nat),(∀ b o',s.heap.get? b=some o'→h'.get? b=some o')→
      h'.get? s.heap.objs.size=some { cls:= .type "list",dict:=none,data:= .seq its.toArray c',slots:= #[] }→EP X pins σ Q (.ref s.heap.objs.size) { s with heap:=h' }:=fun its r' hz h' c' kp e=>
    ⟨.ref s.heap.objs.size,_,I.laid (t':=s.toks) kp (Nat.le_refl _) (show ObjOk X.prog X.w _ h' _ (.lst ys) from ⟨hz,its,c',r',e⟩),rfl,q _ (I.hok.fresh (Nat.le_refl _))⟩
  rcases hq with hq | hq
  · obtain ⟨its,r',pl,hz⟩:=I.list hq
    have hlen:=r'.length
    obtain ⟨o,ho,hc,n,hd⟩:=pl.isList
    exact call_list_seq p (.inl rfl) ho hc hd (fun h' c' kp e=>fin its r' hz h' c' kp e) (by simp only [List.size_toArray] <;> omega)
  · obtain ⟨its,r',pl,hz⟩:=I.tuple hq
    have hlen:=r'.length
    obtain ⟨o,ho,hc,n,hd⟩:=pl
    exact call_list_seq p (.inr rfl) ho hc hd (fun h' c' kp e=>fin its r' hz h' c' kp e) (by simp only [List.size_toArray] <;> omega)
theorem call_tuple_of:CallR X (.type "tuple") (fun xs H Q=>∃ p ys,xs=[.ref p]∧((SqL X.K H p ys∧∀ l,H l=none→Q (.ref l) (upd H l (.tup ys)))∨(SqT X.K H p ys∧Q (.ref p) H))):=by
  intro pins s σ H xs us Q I r h
  obtain ⟨p,ys,rfl,h⟩:=h
  obtain ⟨u,rfl,rx⟩:=vals1 r
  cases rx
  rcases h with ⟨hq,q⟩ | ⟨hq,q⟩
  · obtain ⟨its,r',pl,hz⟩:=I.list hq
    have hlen:=r'.length
    refine call_tuple_list pl.isList (fun h' kp=> ?_) (by simp only [List.size_toArray] <;> omega)
    have I1:Inv X pins σ H { s with heap:=h' }:=I.kept (t':=s.toks) kp
    have I2:Inv X pins σ (upd H h'.objs.size (.tup ys)) { s with heap:=h'.push { cls:= .type "tuple",data:= .seq its.toArray } }:=
      I1.laid (t':=s.toks) (fun b o e=>Heap.get?_push_of_some _ e) (Nat.le_refl _) (show ObjOk X.prog X.w _ _ _ (.tup ys) from ⟨hz,its,r',IsTup.new _ _⟩)
    exact ⟨.ref h'.objs.size,_,I2,rfl,q _ (I1.hok.fresh (Nat.le_refl _))⟩
  · obtain ⟨its,r',pl,hz⟩:=I.tuple hq
    exact call_tuple_same pl ⟨.ref p,H,I,rfl,q⟩
noncomputable def tyV (K:PySem.W.Frag) (T:String) (x:V) (H:Hp):Prop:=match x with
  | .str _=>T="str"
  | .int _=>T="int"
  | .ref p=>(T="list"∧∃ xs,SqL K H p xs)∨(T="tuple"∧∃ o,K.lookup p=some o∧o.cls= .type "tuple"∧o.dict=none)∨
      (T="dict"∧((∃ kvs,H p=some (.dK kvs))∨∃ kvs,H p=some (.dT kvs)))∨(T="set"∧∃ S n,H p=some (.set S n))
  | _=>False
theorem tyV_is {pins:List (Addr × Obj)} {σ:St} {H:Hp} {s:Shared} {T:String} {x:V} {v:Value} (I:Inv X pins σ H s) (r:RelV x v) (ty:tyV X.K T x H):
    s.TypeIs v T∧∀ a,v= .ref a→∃ ob,s.heap.get? a=some ob∧ob.dict=none:=by
  cases x with
  | str z=>
    obtain ⟨t,rfl⟩:=r
    cases (show T="str" from ty)
    exact ⟨typeIs_str s z t,fun _ e=>nomatch e⟩
  | int i=>
    obtain ⟨t,rfl⟩:=r
    cases (show T="int" from ty)
    exact ⟨typeIs_int s i t,fun _ e=>nomatch e⟩
  | ref p=>
    cases r
    rcases ty with ⟨rfl,xs,hq⟩ | ⟨rfl,o,hk,hc,hd⟩ | ⟨rfl,hk⟩ | ⟨rfl,S,n,hk⟩
    · obtain ⟨its,_,pl,_⟩:=I.list hq
      refine ⟨pl.isList.typeIs,fun a e=> ?_⟩
      cases e
      obtain ⟨o,n,e,c,hd,_⟩:=pl
      exact ⟨o,e,hd⟩
    · refine ⟨⟨o,I.kIn p o hk,hc⟩,fun a e=> ?_⟩
      cases e
      exact ⟨o,I.kIn _ o hk,hd⟩
    · have z:∃ o,s.heap.get? p=some o∧o.ExactDict:=by
        rcases hk with ⟨kvs,hk⟩ | ⟨kvs,hk⟩
        · obtain ⟨_,_,_,_,o,_,_,e,ex,_⟩:=I.hok p _ hk
          exact ⟨o,e,ex⟩
        · obtain ⟨_,_,_,_,o,_,_,e,ex,_⟩:=I.hok p _ hk
          exact ⟨o,e,ex⟩
      obtain ⟨o,e,ex⟩:=z
      refine ⟨⟨o,e,ex.1⟩,fun a e2=> ?_⟩
      cases e2
      exact ⟨o,e,ex.2.1⟩
    · obtain ⟨o,_,_,_,e,ex,_⟩:=I.hok p _ hk
      refine ⟨⟨o,e,ex.1⟩,fun a e2=> ?_⟩
      cases e2
      exact ⟨o,e,ex.2.1⟩
  | _=>exact False.elim ty
noncomputable def tBM (K:PySem.W.Frag) (T:String) (r:V→List V→Hp→VK→Prop) (to:TE) (t:TA):TE:=fun σ H Q=>to σ H fun x H1=>tyV K T x H1∧t σ H1 fun xs H2=>r x xs H2 Q
variable {o e:Expr} {es:List Expr} {to:TE} {t:TA} {name:Str} {apos cpos:Pos} {T id:String} {r:V→List V→Hp→VK→Prop}
theorem pe_bm (pa:PlainAttrs T) (slot:Slot T name id) (hty:typeOf (.builtin id)=pure (.type "method_descriptor")) (hm:MtR X id r) (ho:PE X o to) (ha:PA X (e::es) t)
    (hbase:attributeBase o name X.env (eval o X.env)=eval o X.env:=by rfl)
    (hfew:((backTo cpos (starEach (e::es) X.env)).all (fun x=> !x.1)&&(backToKw cpos (keywordEach [] X.env)).all (fun x=>x.1.isSome)
      && decide ((e::es).length+([]:List Keyword).length+(if ([]:List Keyword).isEmpty then 0 else 1)<30))=true:=by rfl)
    (hline:(apos.endLine == cpos.line)=true:=by rfl) (hs:starEach (e::es) X.env=(false,eval e X.env)::starEach es X.env:=by rfl) (hplain:(backTo cpos (starEach es X.env)).any (·.1)=false:=by rfl):
    PE X (.Call (.Attribute o name apos) (e::es) [] cpos) (tBM X.K T r to t):=by
  intro pins s σ H Q I h
  refine wpAny_Call_method_late hbase hfew hline rfl (thn (ho pins s σ H _ I h) fun v s1 ⟨x,H1,I1,r1,ty,q1⟩=> ?_)
  obtain ⟨h1,h2⟩:=tyV_is I1 r1 ty
  refine ⟨T,id,pa,slot,hty,h1,h2,?_⟩
  have hA:=ha cpos pins s1 σ H1 _ I1 q1
  rw [hs] at hA ⊢
  refine Calls.callWith_builtin (by show (false||(backTo cpos (starEach es X.env)).any (·.1))=false;rw [hplain] <;> rfl) (Calls.evalArgs_plain ?_)
  exact thn hA fun us s2 ⟨vs,H2,I2,r2,q2⟩=>hm pins s2 σ H2 x vs v us Q I2 r1 r2 q2
end
end L2
namespace L2
open PySem PySem.Spec PyProof.Rows
noncomputable def MtM (X:Cx) (id:String) (r:V→List V→Hp→VK→Prop):Prop:=
  ∀ (pins:List (Addr × Obj)) (s:Shared) (σ:St) (H:Hp) (x:V) (xs:List V) (v:Value) (us:List Value) (Q:VK),Inv X pins σ H s→RelV x v→Vals xs us→r x xs H Q→
    wpAny (model X.prog X.w) X.A (call (.builtin id) (v::us)) (EP X pins σ Q) X.xe s
theorem Vals.one:∀ {x:V} {us:List Value},Vals [x] us→∃ u,us=[u]∧RelV x u
  | _,_, .cons r .nil=>⟨_,rfl,r⟩
theorem Vals.rep {xs:List V} {us:List Value} (h:Vals xs us):∀ k:Nat,Vals (List.replicate k xs).flatten (List.replicate k us).flatten
  | 0=> .nil
  | k+1=>by
    rw [List.replicate_succ,List.replicate_succ,List.flatten_cons,List.flatten_cons]
    exact Vals.append h (Vals.rep h k)
theorem foldl_rep (its:List Value):∀ (k:Nat) (acc:List Value),
    List.foldl (fun x1 x2=>x1++x2) acc.toArray (List.replicate k its.toArray)=(acc++(List.replicate k its).flatten).toArray
  | 0,acc=>by simp
  | k+1,acc=>by
    have e:acc.toArray++its.toArray=(acc++its).toArray:=by simp
    have e2:(acc++its)++(List.replicate k its).flatten=acc++(List.replicate (k+1) its).flatten:=by
      rw [List.replicate_succ,List.flatten_cons,List.append_assoc]
    rw [← e2, ← foldl_rep its k (acc++its), ← e,List.replicate_succ,List.foldl_cons]
section
variable {X:Cx} {pins:List (Addr × Obj)} {σ:St} {H:Hp} {s:Shared} {l b:Addr} {xs ys zs:List V}
theorem Inv.lset {its its':List Value} {n:Nat} {f:Array Value→Array Value} {t':Nat} (I:Inv X pins σ H s) (hH:H l=some (.lst xs))
    (e:s.heap.get? l=some { cls:= .type "list",data:= .seq its.toArray n }) (hf:f its.toArray=its'.toArray) (hv:Vals ys its') (hz:ys.length≤sizeLine):
    Inv X pins σ (upd H l (.lst ys)) { s with heap:=s.heap.update l (Obj.mapSeq f),toks:=t' }:=by
  have q:=PySem.IsL.update e f
  rw [hf] at q
  refine I.write (x:=l) (e:=l) (by rw [hH];exact trivial) (.inl rfl) (fun b' u hb hu=>(Heap.get?_update_other s.heap (Obj.mapSeq f) (Ne.symm hb)).trans hu) ⟨_,q⟩ ?_
  exact ⟨hz,its',_,hv,q⟩
theorem Inv.lnew {its:List Value} {t':Nat} (I:Inv X pins σ H s) (hv:Vals ys its) (hz:ys.length≤sizeLine):
    Inv X pins σ (upd H s.heap.objs.size (.lst ys)) { s with heap:=s.heap.push { cls:= .type "list",data:= .seq its.toArray },toks:=t' }:=
  I.laid (fun _ _ q=>Heap.get?_push_of_some _ q) (Nat.le_refl _) ⟨hz,its,0,hv,Heap.get?_push_size _ rfl⟩
theorem Inv.fresh (I:Inv X pins σ H s):H s.heap.objs.size=none:=I.hok.fresh (Nat.le_refl _)
theorem Inv.lstM (I:Inv X pins σ H s) (hH:H l=some (.lst xs)):xs.length≤sizeLine∧∃ (its:List Value) (n:Nat),Vals xs its∧xs.length=its.length∧s.heap.get? l=some { cls:= .type "list",data:= .seq its.toArray n }:=by
  obtain ⟨z,its,n,r,e⟩:=I.hok l _ hH
  exact ⟨z,its,n,r,r.length,e⟩
theorem notLongL {n:Nat} (h:n≤sizeLine):Builtin.List.listTooLong n=false:=by
  unfold Builtin.List.listTooLong
  exact decide_eq_false (by omega)
end
section
variable {X:Cx}
noncomputable def rAppend:V→List V→Hp→VK→Prop:=fun x vs H Q=>∃ l xs y,x= .ref l∧vs=[y]∧H l=some (.lst xs)∧xs.length<sizeLine∧Q .non (upd H l (.lst (xs++[y])))
theorem mt_append:MtM X "list.append" rAppend:=by
  intro pins s σ H x vs v us Q I rx rv h
  obtain ⟨l,xs,y,rfl,rfl,hH,hz,q⟩:=h
  cases rx
  obtain ⟨u,rfl,ru⟩:=rv.one
  obtain ⟨z,its,n,r,hl,e⟩:=I.lstM hH
  refine call_meets F.slot_list_append ⟨_,e,rfl⟩ F.entry_list_append (F.args_list_append_2 _ _) (PySem.list_append l its.toArray n u (by rw [List.size_toArray];omega)) ⟨e,?_⟩
  refine ⟨.non,_,I.lset (its':=its++[u]) hH e (by simp) (r.append (.cons ru .nil)) ?_,rfl,q⟩
  rw [List.length_append,List.length_singleton]
  omega
noncomputable def rRep:R2:=fun x y H Q=>∃ l k xs,x= .ref l∧y= .int k∧H l=some (.lst xs)∧ -(2 ^ 63)≤k∧k<2 ^ 63∧xs.length*k.toNat≤sizeLine∧
  ∀ p,H p=none→Q (.ref p) (upd H p (.lst (List.replicate k.toNat xs).flatten))
theorem len_rep {α:Type} (xs:List α) (k:Nat):(List.replicate k xs).flatten.length=k*xs.length:=by
  induction k with
  | zero=>simp
  | succ k ih=>rw [List.replicate_succ,List.flatten_cons,List.length_append,ih,Nat.succ_mul,Nat.add_comm]
theorem op_rep:OpR X (binaryOp .Mult) rRep:=by
  intro pins s σ H x y v u Q I rx ry h
  obtain ⟨l,k,xs,rfl,rfl,hH,h1,h2,hz,q⟩:=h
  cases rx
  obtain ⟨t,rfl⟩:=ry
  obtain ⟨z,its,n,r,hl,e⟩:=I.lstM hH
  have hlen:its.toArray.size*k.toNat≤sizeLine:=by rw [List.size_toArray, ← hl];exact hz
  have hcap:¬ its.toArray.size*k.toNat>(2 ^ 63 - 1) / 8:=by
    have:(sizeLine:Nat)≤(2 ^ 63 - 1) / 8:=by decide
    omega
  have hfit:¬ (!Builtin.List.listFitsIndex k)=true:=by
    rw [fitsIndex_both h1 h2]
    exact Bool.false_ne_true
  have hlong:¬ Builtin.List.listTooLong (its.toArray.size*k.toNat)=true:=by
    rw [notLongL hlen]
    exact Bool.false_ne_true
  have hnew:List.foldl (fun x1 x2=>x1++x2) #[] (List.replicate (if its.toArray.isEmpty=true then 0 else k.toNat) its.toArray)=(List.replicate k.toNat its).flatten.toArray:=by
    have f0:∀ m:Nat,List.foldl (fun x1 x2=>x1++x2) #[] (List.replicate m its.toArray)=(List.replicate m its).flatten.toArray:=fun m=>by
      have:=foldl_rep its m []
      rw [List.nil_append] at this
      exact this
    rw [f0]
    cases its with
    | nil=>simp
    | cons a r'=>rw [if_neg (by simp)]
  refine wpAny_binaryOp_repeat_ref (T:="list") (U:="int") (by decide) ⟨_,e,rfl⟩ (fun s'=>typeIs_int s' k t) noFill_list_mul F.fills_int_mul F.slot_int_rmul repeat_list F.slot_int_index.lookup
    (call_meets F.slot_int_rmul (typeIs_int s k t) F.entry_int_rmul (F.args_int_rmul_2 _ _) (int___rmul___int_list k t l its.toArray n)
      ⟨e,rfl,⟨_,e,rfl⟩,call_meets F.slot_list_mul ⟨_,e,rfl⟩ F.entry_list_mul (F.args_list_mul_2 _ _) (AutoListH.list___mul___list_int_3 l its.toArray n k t hfit hcap hlong) ⟨e,?_⟩⟩)
  rw [hnew]
  exact ⟨.ref _,_,I.lnew (t':=s.toks) (r.rep k.toNat) (by rw [len_rep,Nat.mul_comm];exact hz),rfl,q _ I.fresh⟩
end
section
variable {prog:Program} {w:World} {A:Around} {E:Value→Shared→Prop} {s:Shared}
end
section
variable {X:Cx}
end
end L2
namespace Att
open PySem PySem.W PySem.Calls PyProof.Rows
theorem ints_of_wellAll {P:Params} {h:Heap}:∀ (ns:List Int) (vs:List Value),WellAll P h vs (ns.map WData.int)→IntsAre vs ns:=by
  intro ns
  induction ns with
  | nil=>
    intro vs w
    rw [List.map_nil] at w
    cases w
    exact .nil
  | cons n ns ih=>
    intro vs w
    rw [List.map_cons] at w
    cases w with
    | cons a b=>
      cases a
      exact .cons _ _ (ih _ b)
theorem script_of {l:OpenLaw} {n:Nat} (hn:l.most=some n) {P:Params} {h:Heap} {args:List WData} {vals:List Value}
    (hpre:l.row.toRowW.claim.pre args=true) (hwl:WellAll P h vals args):
    ∃ a vs ns,vals=[Value.ref a]∧args=[WData.list (ns.map WData.int)]∧h.get? a=some { cls:= .type "list",data:= .seq vs.toArray }∧IntsAre vs ns∧ns.length≤n:=by
  have hsh:WShape.hasAll [] args [.list .int]=true:=(pre_splitW hpre).1
  have hc:l.pre.holds [] { args:=args }=true:=(pre_splitW hpre).2
  obtain ⟨d,r,rfl,h1,h2⟩:=hasAllW_cons hsh
  obtain rfl:=hasAllW_nil h2
  obtain ⟨xs,rfl,h3⟩:=hasW_list h1
  obtain ⟨ns,rfl⟩:=items_int h3
  have hlen:ns.length≤n:=by
    unfold OpenLaw.pre at hc
    have h4:(WTm.not (.lt (.lit (.int (n:Int))) (.len (.arg 0)))).holds [] { args:=[.list (ns.map .int)] }=true:=by
      have h4:=(holds_andW hc).1
      rw [hn] at h4
      exact h4
    have h5:=condW_of h4 (w_not (w_lt w_lit (w_len_list (w_arg rfl))))
    rw [List.length_map] at h5
    refine Nat.le_of_not_lt fun q=> ?_
    have q':(n:Int)<((ns.length:Nat):Int):=by omega
    first
      | (rw [decide_eq_true q'] at h5;exact absurd h5 (by decide))
      | (simp at h5;omega)
  cases hwl with
  | cons w1 w2=>
    cases w2
    cases w1 with
    | list ho hall=>exact ⟨_,_,ns,rfl,rfl,ho,ints_of_wellAll ns _ hall,hlen⟩
theorem post_true (l:OpenLaw) (args:List WData):l.row.toRowW.claim.post args (.bool true) args=true:=
  postW_of (r:=l.row.toRowW) (X:=(true == true))
    (show WShape.has [] (.bool true) .bool=true by first | rfl | decide | simp [WShape.has,WShape.arms,WShape.armsAll])
    (show (WTm.eq .res (.lit (.bool true))).value [] { args:=args,res:=some (.bool true),after:=args }=some (.bool (true == true)) from w_eq_bool (w_res rfl) w_lit) rfl
theorem attach_call {l:OpenLaw} {n:Nat} {q:Program} {loose:List Str} {XP:(Str→Option Value)→Heap→Prop} {YP:World→Heap→Prop} {d:DefRec}
    (hn:l.most=some n) (hdf:d.params.defaults=[])
    (call:∀ (w:World) (s₀ s₁:Shared) (mg mb:Str→Option Value) (fa:Addr) (o:Obj) (pm cd doc:Value) (a:Addr) (vs:List Value) (ns:List Int),
      Ground q loose [] XP w s₀ mg mb s₁.heap→YP w s₁.heap→
      s₁.heap.get? fa=some o→o.data= .func (docDef d.name d.params d.body d.scope pm cd doc)→s₁.heap.CodeRec cd d.name→mg d.name=some (.ref fa)→
      s₁.heap.get? a=some { cls:= .type "list",data:= .seq vs.toArray }→IntsAre vs ns→ns.length≤n→s₁.gens= #[]→
      codeAny (model l.prog w) callerA (.call (.ref fa) ⟨[.ref a],[]⟩) (fun r s'=>r= .ok (.ret (.bool true))∧OldK s₁.heap s'.heap∧s'.os=s₁.os∧AllBare s'.gens) s₁):
    WalkO q loose XP YP l.row.toRowW d [] (fun f vs=>PySem.call f vs):=by
  intro w s₀ s₁ mg mb G Y fa o pm cd doc dV kV ho hd hcd hD hmg hg args vals as hpre hlay hrd hwl hlo
  obtain rfl:dV= .none:=Dflts.none hD hdf
  obtain rfl:kV= .none:=Dflts.noKw hD
  obtain ⟨a,vs,ns,rfl,rfl,hobj,hints,hlen⟩:=script_of hn hpre hwl
  refine enter_call (codeAny_mono (call w s₀ s₁ mg mb fa o pm cd doc a vs ns G Y ho (fd_plain hd) hcd hmg hobj hints hlen hg) fun r s' hq=> ?_)
  obtain ⟨rfl,h2,h3,h4⟩:=hq
  exact ⟨.inl ⟨.bool true, .bool true,[],rfl,fun _=>rfl, .bool true,post_true l _,fun _=>⟨List.Pairwise.nil,fun _ hm=>(nomatch hm)⟩⟩,h2,h3,h4⟩
section
variable {prog:Program} {w:World} {A:Around} {E:Value→Shared→Prop} {s:Shared} {K:Frag}
end
end Att
namespace L2
open PySem PySem.Spec PyProof.Rows
theorem vals_ints:∀ {vs:List Value} {ns:List Int},IntsAre vs ns→Vals (ns.map V.int) vs
  | _,_, .nil=> .nil
  | _,_, .cons n t h=> .cons ⟨t,rfl⟩ (vals_ints h)
end L2
namespace L2
open PySem PySem.Spec PyProof.Rows
end L2
namespace L2
open PySem PySem.Spec PyProof.Rows
noncomputable abbrev CX0:CXT:=fun _ _ _ _ _ _=>False
noncomputable abbrev E0:XK:=fun _ _ _=>False
theorem pass0 {X:Cx}:Passes CX0 X E0:=fun _ _ _ _ _ _ _ h=>h.elim
structure Fun (K:PySem.W.Frag) (x qual:Str) (st:Stmt) (f:Addr) (fd:FuncData):Prop where
  ex:∃ (oc:Value) (od:Option Addr) (kV doc pm:Value) (an:Option Addr) (cdv ct:Value) (osl:Array (Option Value)),
    fd=PySem.W.fnOf x qual (defArgs st) (defBody st) (defScope st) .none kV doc pm an cdv ct∧K.lookup f=some ⟨oc,od, .func fd,osl⟩∧PySem.W.codeIn K cdv qual=true
  kp:PySem.W.keepIn K (.ref f)=true
section
variable {P:Program} {w:World} {K:PySem.W.Frag} {mg:Str→Option Value} {base:Heap}
theorem Fun.ok {x qual:Str} {st:Stmt} {f:Addr} {fd:FuncData} {N ps:List Str} {k:Nat} {sp:Sp} (F:Fun K x qual st f fd) (S:FnScope N ps (defScope st)) (len:∀ vs H Q E,sp vs H Q E→vs.length=ps.length)
    (hbody:∀ (cdv:Value) (A:Around) (outer:List Env) (s:Shared) (H:Hp) (vs:List V) (Q:VK) (E:XK),Room k (A.deeper (envOfC qual (defScope st) s.heap.objs.size f cdv))→sp vs H Q E→
      ∃ t,PSs (cxOf CX0 P w K mg base N qual (defScope st) f cdv A outer s H E).nox (defBody st) t∧t { nx:=fun _ H'=>Q .non H',rt:=Q } (start N vs) H):FnOk P w K mg base CX0 (k+1) f fd ps sp:=by
  obtain ⟨oc,od,kV,doc,pm,an,cdv,ct,osl,rfl,lk,hcd⟩:=F.ex
  refine fn_of lk hcd S len fun A outer s H vs Q E hr hsp=> ?_
  obtain ⟨t,h,q⟩:=hbody cdv A outer s H vs Q E hr hsp
  exact ⟨t,h.nox,q⟩
theorem Fun.binds {x qual:Str} {st:Stmt} {f:Addr} {fd:FuncData} {ps:List Str} (F:Fun K x qual st f fd)
    (h:∀ (kV doc pm:Value) (an:Option Addr) (cdv ct:Value) (us:List Value),us.length=ps.length→bindArgs (PySem.W.fnOf x qual (defArgs st) (defBody st) (defScope st) .none kV doc pm an cdv ct) ⟨us,[]⟩=pure (ps.zip us)):Binds K fd ps []:=by
  obtain ⟨oc,od,kV,doc,pm,an,cdv,ct,osl,rfl,lk,hcd⟩:=F.ex
  exact .all (h kV doc pm an cdv ct)
theorem fun_mk {x qual:Str} {st:Stmt} {f:Addr} {oc:Value} {od an:Option Addr} {osl:Array (Option Value)} {kV doc pm cdv ct:Value} (l:K.lookup f=some ⟨oc,od, .func (PySem.W.fnOf x qual (defArgs st) (defBody st) (defScope st) .none kV doc pm an cdv ct),osl⟩)
    (c:PySem.W.codeIn K cdv qual=true) (k:PySem.W.keepIn K (.ref f)=true):Fun K x qual st f (PySem.W.fnOf x qual (defArgs st) (defBody st) (defScope st) .none kV doc pm an cdv ct):=⟨⟨oc,od,kV,doc,pm,an,cdv,ct,osl,rfl,l,c⟩,k⟩
end
section
variable {X:Cx}
theorem pv (i:Nat) {x:Str} {pos:Pos} (hN:X.N[i]?=some x:=by rfl) (hv:Vis X.env.scope x:=by first | exact Or.inl rfl | exact Or.inr (Or.inl rfl) | exact Or.inr (Or.inr rfl)) (hd:(x == ("__debug__":Str))=false:=by decide)
    (hcd:(x == ("__classdict__":Str))=false:=by decide):PE X (.Name x pos) (tVar i):=pe_var hN hv hd hcd
end
theorem iteF {A B:Prop} (h:B):if false=true then A else B:=by
  rw [if_neg Bool.false_ne_true]
  exact h
theorem iteT {A B:Prop} (h:A):if true=true then A else B:=by
  rw [if_pos rfl]
  exact h
noncomputable def Same (H H':Hp):Prop:=∀ b o,H b=some o→H' b=some o
theorem Same.refl (H:Hp):Same H H:=fun _ _ h=>h
theorem Same.trans {H H1 H2:Hp} (a:Same H H1) (b:Same H1 H2):Same H H2:=fun c o h=>b c o (a c o h)
theorem Same.free {H H':Hp} (e:Same H H') {l:Addr} (h:H' l=Option.none):H l=Option.none:=by
  cases q:H l with
  | none=>rfl
  | some o=>
    rw [e l o q] at h
    cases h
theorem Same.seq {K:PySem.W.Frag} {H H':Hp} {a:Addr} {xs:List V} (e:Same H H') (h:SqL K H a xs):SqL K H' a xs:=by
  rcases h with (h | ⟨o,h⟩) | h
  · exact .inl (.inl (e _ _ h))
  · exact .inl (.inr ⟨o,e _ _ h⟩)
  · exact .inr h
end L2
namespace L2
open PySem PySem.Spec PyProof.Rows
section
variable {κ:Type} [DecidableEq κ]
theorem KV.any {kvs:List (κ × V)} {vs:List (κ × Value)} (r:KV kvs vs) (k:κ):(kvs.any fun kv=>decide (kv.1=k))=vs.any fun kv=>decide (kv.1=k):=by
  unfold KV at r
  induction r with
  | nil=>rfl
  | cons h t ih=>rw [List.any_cons,List.any_cons,ih,h.1]
theorem KV.length {kvs:List (κ × V)} {vs:List (κ × Value)} (r:KV kvs vs):kvs.length=vs.length:=Paired.length r
end
section
variable {P:Program} {w:World} {H:Hp} {h:Heap} {a:Addr}
end
section
variable {X:Cx} {pins:List (Addr × Obj)} {σ:St} {H:Hp} {s:Shared} {a:Addr} {y v:V} {u r:Value} {o:Option V} {A:Around} {E:Value→Shared→Prop}
end
section
variable {X:Cx} {pins:List (Addr × Obj)} {σ:St} {H:Hp} {s:Shared} {a:Addr} {kvs:List (Key × V)} {k:Key} {u:Value} {A:Around} {E:Value→Shared→Prop}
end
section
variable {X:Cx} {o i e value:Expr} {pos pos' tpos:Pos} {td ty tv:TE}
end
section
variable {X:Cx} {pos:Pos}
end
structure M1 (X:Cx) (o:Expr) (m:Str) (apos:Pos) (e:Expr) (cpos:Pos):Prop where
  base:attributeBase o m X.env (eval o X.env)=eval o X.env
  few:((backTo cpos (starEach [e] X.env)).all (fun x=> !x.1)&&(backToKw cpos (keywordEach [] X.env)).all (fun x=>x.1.isSome)
    && decide (([e]:List Expr).length+([]:List Keyword).length+(if ([]:List Keyword).isEmpty then 0 else 1)<30))=true
  line:(apos.endLine == cpos.line)=true
  trees:backTo cpos (starEach [e] X.env)=[(false,eval e X.env)]
structure M2 (X:Cx) (o:Expr) (m:Str) (apos:Pos) (e f:Expr) (cpos:Pos):Prop where
  base:attributeBase o m X.env (eval o X.env)=eval o X.env
  few:((backTo cpos (starEach [e,f] X.env)).all (fun x=> !x.1)&&(backToKw cpos (keywordEach [] X.env)).all (fun x=>x.1.isSome)
    && decide (([e,f]:List Expr).length+([]:List Keyword).length+(if ([]:List Keyword).isEmpty then 0 else 1)<30))=true
  line:(apos.endLine == cpos.line)=true
  trees:backTo cpos (starEach [e,f] X.env)=[(false,eval e X.env),(false,eval f X.env)]
section
variable {X:Cx} {pins:List (Addr × Obj)} {σ:St} {H:Hp} {s:Shared} {a:Addr} {y d:V} {u r:Value} {o:Option V} {A:Around} {E:Value→Shared→Prop}
end
section
variable {X:Cx} {o e f:Expr} {apos cpos:Pos} {td ty tx:TE}
end
section
variable {X:Cx} {pins:List (Addr × Obj)} {σ:St} {H:Hp} {s:Shared} {a:Addr} {kvs:List (Key × V)} {A:Around} {E:Value→Shared→Prop}
end
section
variable {X:Cx} {pins:List (Addr × Obj)} {σ:St} {H:Hp} {s:Shared} {a:Addr} {y:V} {u:Value} {A:Around} {E:Value→Shared→Prop}
end
end L2
namespace L2
open PySem PySem.Spec PyProof.Rows
section
variable {P:Program} {w:World} {K:PySem.W.Frag} {mg:Str→Option Value} {base:Heap}
end
section
variable {X:Cx}
end
section
variable {κ:Type} [DecidableEq κ]
end
end L2
namespace L2
open PySem PySem.Spec PyProof.Rows
noncomputable def closOf (cells:List (Str × Addr)):List (Str × NameKind)→List (Str × Addr)→List (Str × Addr)
  | [],acc=>acc
  | (n,k)::r,acc=>closOf cells r (if k= .free then (match cells.lookup n with | some a=>(n,a)::acc | none=>acc) else acc)
theorem closureFor_go {env:Env}:∀ (names:List (Str × NameKind)) (acc:List (Str × Addr)),(∀ y∈names,y.2= .free→∃ c,env.cells.lookup y.1=some c)→
    (forIn names acc fun (x:Str × NameKind) (r:List (Str × Addr))=>
      (if (x.2 == NameKind.free)=true then (do let a ← cellOf env x.1;pure (ForInStep.yield ((x.1,a)::r))) else pure (ForInStep.yield r):Sem (ForInStep (List (Str × Addr)))))=(pure (closOf env.cells names acc):Sem (List (Str × Addr)))
  | [],acc,_=>rfl
  | (n,k)::rest,acc,h=>by
    rw [List.forIn_cons]
    have ih:=fun acc'=>closureFor_go (env:=env) rest acc' fun y hy=>h y (List.mem_cons_of_mem _ hy)
    by_cases hk:k= .free
    · subst hk
      obtain ⟨c,hc⟩:=h (n, .free) List.mem_cons_self rfl
      have hc:env.cells.lookup n=some c:=hc
      have e:cellOf env n=pure c:=by unfold cellOf;rw [hc]
      simp only [beq_self_eq_true,if_true,e,pure_bind,closOf,hc]
      exact ih _
    · have hb:(k == NameKind.free)=false:=by simpa using hk
      simp only [hb,Bool.false_eq_true,if_false,pure_bind,closOf,if_neg hk]
      exact ih _
theorem closureFor_eq {env:Env} {scope:Scope} (h:∀ y∈scope.names,y.2= .free→∃ c,env.cells.lookup y.1=some c):closureFor scope env=pure (closOf env.cells scope.names []):=by
  have e:=closureFor_go (env:=env) scope.names [] h
  unfold closureFor
  simp only [bind_pure_comp,bind_pure,map_pure] at*
  exact e
theorem closOf_sub {cells:List (Str × Addr)}:∀ (names:List (Str × NameKind)) (acc:List (Str × Addr)),(∀ x c,acc.lookup x=some c→cells.lookup x=some c)→∀ x c,(closOf cells names acc).lookup x=some c→cells.lookup x=some c
  | [],acc,h,x,c,e=>h x c e
  | (n,k)::r,acc,h,x,c,e=>by
    refine closOf_sub r _ ?_ x c e
    intro y d q
    split at q
    · split at q
      · rename_i a ha
        rw [List.lookup_cons] at q
        split at q
        · rename_i hy
          cases q
          rw [eq_of_beq hy]
          exact ha
        · exact h y d q
      · exact h y d q
    · exact h y d q
theorem closOf_has {cells:List (Str × Addr)}:∀ (names:List (Str × NameKind)) (acc:List (Str × Addr)) (x:Str),(((x,NameKind.free)∈names∧∃ c,cells.lookup x=some c)∨∃ c,acc.lookup x=some c)→∃ c,(closOf cells names acc).lookup x=some c
  | [],acc,x,h=>by
    rcases h with ⟨h,_⟩ | h
    · cases h
    · exact h
  | (n,k)::r,acc,x,h=>by
    refine closOf_has r _ x ?_
    have up:(∃ c,acc.lookup x=some c)→∃ c,(if k= .free then (match cells.lookup n with | some a=>(n,a)::acc | none=>acc) else acc).lookup x=some c:=by
      rintro ⟨c,hc⟩
      split
      · split
        · rename_i a ha
          rw [List.lookup_cons]
          split
          · exact ⟨_,rfl⟩
          · exact ⟨c,hc⟩
        · exact ⟨c,hc⟩
      · exact ⟨c,hc⟩
    rcases h with ⟨h,c,hc⟩ | h
    · rcases List.mem_cons.mp h with e | e
      · cases e
        right
        refine ⟨c,?_⟩
        rw [if_pos rfl,hc,List.lookup_cons,beq_self_eq_true]
      · exact .inl ⟨e,c,hc⟩
    · exact .inr (up h)
theorem lookup_rel (env:Env) (x:Str):∀ names:List (Str × NameKind),
    (names.map fun (n,k)=>if (k == NameKind.free&&env.scope.kind == .function&&env.kindOf n == some .cell) then (n,NameKind.cell) else (n,k)).lookup x=
      (names.lookup x).map fun k=>if (k == NameKind.free&&env.scope.kind == .function&&env.kindOf x == some .cell)=true then NameKind.cell else k
  | []=>rfl
  | (n,k)::r=>by
    have ih:=lookup_rel env x r
    show List.lookup x ((if (k == NameKind.free&&env.scope.kind == .function&&env.kindOf n == some .cell)=true then (n,NameKind.cell) else (n,k))::_)=_
    cases hx:x == n with
    | true=>
      have e:x=n:=eq_of_beq hx
      subst e
      by_cases hc:(k == NameKind.free&&env.scope.kind == .function&&env.kindOf x == some .cell)=true
      · rw [if_pos hc,List.lookup_cons,List.lookup_cons,beq_self_eq_true]
        simp only [Option.map_some,if_pos hc]
      · rw [if_neg hc,List.lookup_cons,List.lookup_cons,beq_self_eq_true]
        simp only [Option.map_some,if_neg hc]
    | false=>
      have e:(List.lookup x ((n,k)::r))=List.lookup x r:=by rw [List.lookup_cons,hx]
      rw [e, ← ih]
      split <;> rw [List.lookup_cons,hx]
structure BlkScope (X:Cx) (scope:Scope) (own:List Str) (fr:List (Str × Nat)):Prop where
  kind:scope.kind= .function
  nocell:∀ y∈scope.names,y.2≠ .cell
  loc:∀ y∈scope.names,y.2= .local→scope.names.lookup y.1=some .local
  free:∀ y∈scope.names,y.2= .free→(X.env.scope.names.lookup y.1=some .cell∨X.env.scope.names.lookup y.1=some .free)
  fr:∀ p∈fr,X.N[p.2]?=some p.1∧(p.1,NameKind.free)∈scope.names
  only:∀ x,(x,NameKind.free)∈scope.names→scope.names.lookup x=some .free
noncomputable def blkCx (X:Cx) (scope:Scope) (own:List Str) (fr:List (Str × Nat)) (C:Addr) (ex:List Addr) (s:Shared) (H:Hp):Cx where
  prog:=X.prog
  w:=X.w
  K:=X.K
  mg:=X.mg
  base:=X.base
  A:=X.A
  N:=own++fr.map (·.1)
  s₀:=s
  H₀:=H
  env:=compEnvC scope (closOf X.env.cells scope.names []) C X.env
  outer:=X.stack
  stack:=X.stack
  ex:=ex
  fn:=fun _=>false
  calm:=X.calm
  pn:=[]
  xe:=fun _ _=>False
noncomputable def blkSt (own:List Str) (fr:List (Str × Nat)) (σ:St):St:=own.map (fun _=>none)++fr.map (fun p=>(σ[p.2]?).getD none)
section
variable {X:Cx} {pins:List (Addr × Obj)} {σ:St} {H:Hp} {s:Shared} {scope:Scope} {own:List Str} {fr:List (Str × Nat)} {fp:List Addr}
theorem BlkScope.cells (S:BlkScope X scope own fr) (ok:X.Ok):∀ y∈scope.names,y.2= .free→∃ c,X.env.cells.lookup y.1=some c:=fun y hy e=>ok.has y.1 (S.free y hy e)
theorem Inv.block {h':Heap} {t':Nat} {m:Str→Option Value} (I:Inv X pins σ H s) (S:BlkScope X scope own fr) (hf:∀ b∈fp,FpOk X pins H b) (hlt:∀ b∈fp,b<s.heap.objs.size)
    (hns:h'.Ns s.heap.objs.size m) (k:∀ b o,s.heap.get? b=some o→h'.get? b=some o):
    Inv (blkCx X scope own fr s.heap.objs.size fp s H) [] (blkSt own fr σ) H { s with heap:=h',toks:=t' }:=by
  have cs:∀ x c,(closOf X.env.cells scope.names []).lookup x=some c→X.env.cells.lookup x=some c:=closOf_sub _ _ (fun _ _ e=>by simp at e)
  have ck:∀ c v,s.heap.IsCell c v→h'.IsCell c v:=fun c v ⟨o,ho,hd⟩=>⟨o,k _ _ ho,hd⟩
  have kf:∀ x,(x,NameKind.free)∈scope.names→∃ c,X.env.cells.lookup x=some c∧(closOf X.env.cells scope.names []).lookup x=some c:=fun x hx=>by
    obtain ⟨c0,e0⟩:=S.cells I.ok (x, .free) hx rfl
    obtain ⟨c,e⟩:=closOf_has (cells:=X.env.cells) scope.names [] x (.inl ⟨hx,c0,e0⟩)
    exact ⟨c,cs _ _ e,e⟩
  have rel:∀ x,(compEnvC scope (closOf X.env.cells scope.names []) s.heap.objs.size X.env).kindOf x=(scope.names.lookup x).map fun k=>if (k == NameKind.free&&X.env.scope.kind == .function&&X.env.kindOf x == some .cell)=true then NameKind.cell else k:=fun x=>lookup_rel X.env x scope.names
  have nc:∀ x,scope.names.lookup x≠some .cell:=fun x e=>S.nocell _ (PySem.mem_of_lookup e) rfl
  refine ⟨⟨I.ok.mod,S.kind,I.ok.glob,I.ok.blt,Nat.le_refl _,fun x y c e1 e2=>I.ok.inj x y c (cs _ _ e1) (cs _ _ e2),fun x hx=> ?_,fun x c e _=>(nomatch e),I.ok.hd,I.ok.frames, .inl rfl,
    fun b hb=>⟨Nat.ne_of_lt (hlt b hb),fun x c e=>(hf b hb).2.2.2.2.1 x c (cs _ _ e)⟩,I.bs,Nat.le_trans I.ok.bsz I.sz,fun b o e hb=> ?_,fun b hb z=>(List.mem_cons.mp (I.stkSub b z)).elim (hf b hb).2.1 (hf b hb).2.2.1,I.stack,I.stkFree⟩,
    rfl,I.bare,Un.kept k,⟨m,hns,fun i x v e1 e2 e3=> ?_⟩,fun x c e=> ?_,I.hok.fresh (Nat.le_refl _),fun x c e=>I.freeC x c (cs _ _ e),fun p hp=>absurd (show p∈([]:List (Addr × Obj)) from hp) (by simp),I.hok.kept k,?_⟩
  · have hx:(compEnvC scope (closOf X.env.cells scope.names []) s.heap.objs.size X.env).kindOf x=some .cell∨(compEnvC scope (closOf X.env.cells scope.names []) s.heap.objs.size X.env).kindOf x=some .free:=hx
    rw [rel x] at hx
    have q:scope.names.lookup x=some .free:=by
      cases e:scope.names.lookup x with
      | none=>rw [e] at hx;simp at hx
      | some kk=>
        rw [e] at hx
        simp only [Option.map_some,Option.some.injEq] at hx
        by_cases hk:kk= .free
        · rw [hk]
        · have hb:(kk == NameKind.free)=false:=by simpa using hk
          simp only [hb,Bool.false_and,Bool.false_eq_true,if_false] at hx
          rcases hx with hx | hx
          · rw [hx] at e;exact absurd e (nc x)
          · exact absurd hx hk
    obtain ⟨c,_,e⟩:=kf x (PySem.mem_of_lookup q)
    exact ⟨c,e⟩
  · rcases (hf b hb).2.2.2.1 with z | z
    · exact I.ok.noex b o e z
    · exact absurd (Nat.lt_of_lt_of_le (Heap.lt_size (I.ok.bs b o e).1) z) (Nat.lt_irrefl _)
  · have e1:(own++fr.map (·.1))[i]?=some x:=e1
    have e2:(blkSt own fr σ)[i]?=some (some v):=e2
    unfold blkSt at e2
    by_cases hi:i<own.length
    · rw [List.getElem?_append_left (by simpa using hi),List.getElem?_map] at e2
      rw [List.getElem?_eq_getElem hi] at e2
      simp at e2
    · rw [List.getElem?_append_right (by simpa using hi),List.getElem?_map,List.length_map] at e2
      rw [List.getElem?_append_right (by omega),List.getElem?_map] at e1
      cases ep:fr[i - own.length]? with
      | none=>rw [ep] at e1;simp at e1
      | some p=>
        rw [ep] at e1 e2
        simp only [Option.map_some,Option.some.injEq] at e1 e2
        subst e1
        obtain ⟨h1,h2⟩:=S.fr p (List.mem_of_getElem? ep)
        have e4:σ[p.2]?=some (some v):=by
          cases q:σ[p.2]? with
          | none=>rw [q] at e2;simp at e2
          | some z=>rw [q] at e2;simp at e2;rw [e2]
        have kx:=S.free _ h2 rfl
        obtain ⟨m0,hn0,hl0⟩:=I.loc
        obtain ⟨u,r,l⟩:=hl0 p.2 p.1 v h1 e4 (kx.elim (fun z=> .inr (.inl z)) fun z=> .inr (.inr z))
        refine ⟨u,r,?_⟩
        rcases l with ⟨z,_⟩ | ⟨_,c,hc,hcell⟩
        · have z:X.env.scope.names.lookup p.1=some .local:=z
          rcases kx with y | y <;> (rw [y] at z;cases z)
        · obtain ⟨c',q1,q2⟩:=kf p.1 h2
          rw [hc] at q1
          cases q1
          refine .inr ⟨?_,c,q2,ck _ _ hcell⟩
          show (compEnvC scope (closOf X.env.cells scope.names []) s.heap.objs.size X.env).kindOf p.1=some .cell∨(compEnvC scope (closOf X.env.cells scope.names []) s.heap.objs.size X.env).kindOf p.1=some .free
          have e3:(compEnvC scope (closOf X.env.cells scope.names []) s.heap.objs.size X.env).kindOf p.1=some .local∨(compEnvC scope (closOf X.env.cells scope.names []) s.heap.objs.size X.env).kindOf p.1=some .cell∨(compEnvC scope (closOf X.env.cells scope.names []) s.heap.objs.size X.env).kindOf p.1=some .free:=e3
          rcases e3 with e3 | e3
          · exfalso
            rw [rel] at e3
            cases e:scope.names.lookup p.1 with
            | none=>rw [e] at e3;cases e3
            | some kk=>
              rw [e] at e3
              simp only [Option.map_some,Option.some.injEq] at e3
              by_cases hk:kk= .free
              · subst hk;split at e3 <;> cases e3
              · have hb:(kk == NameKind.free)=false:=by simpa using hk
                simp only [hb,Bool.false_and,Bool.false_eq_true,if_false] at e3
                subst e3
                have:=S.only p.1 h2
                rw [this] at e
                cases e
          · exact e3
  · obtain ⟨v,z⟩:=I.cell x c (cs _ _ e)
    exact ⟨v,ck _ _ z⟩
  · unfold blkSt
    show _=(own++fr.map (·.1)).length
    simp
end
end L2
namespace L2
open PySem PySem.Spec PyProof.Rows
theorem compLoop_go {prog:Program} {w:World} {A:Around} {R:Result→Shared→Prop} {s:Shared} {elt target iter:Expr} {ifs:List Expr} {scope:Scope} {pos:Pos} {it acc:Value} {env:Env} (I:Nat→Shared→Prop)
    (turn:∀ n s,I n s→wpAny (model prog w) A (pyNext it) (fun r s₁=>match r with
      | none=>R (.ok .next) s₁
      | some v=>wpAny (model prog w) A (letOwnedTupleGo target it v) (fun _ s₁'=>wpAny (model prog w) A (assign target env v) (fun _ s₂=>
          wpAny (model prog w) A (forIn ifs true fun c r=>if r=true then do let ok ← isTrue c env (eval c env);pure (ForInStep.yield ok) else pure (ForInStep.yield r)) (fun ok s₃=>
            if ok=true then wpAny (model prog w) A (eval elt env) (fun x s₄=>
              wpAny (model prog w) A (call (.builtin "list.append") [acc,x]) (fun _ s₅=>∃ m,m<n∧I m s₅) (fun _ _=>False) s₄) (fun _ _=>False) s₃
            else ∃ m,m<n∧I m s₃) (fun _ _=>False) s₂) (fun _ _=>False) s₁') (fun _ _=>False) s₁) (fun _ _=>False) s)
    (n:Nat) (h:I n s):codeAny (model prog w) A (.compLoop (.ListComp elt [⟨target,iter,ifs,0⟩] scope pos) 0 it acc env) R s:=by
  refine codeAny_loop rfl I (fun n s hI=> ?_) n h
  show wpAny _ A ((compTurn (.ListComp elt [⟨target,iter,ifs,0⟩] scope pos) 0 it acc env).onRaise (fun x=>do noteFrame x env;theTreesLotGoes x)) _ _ s
  refine wpAny_noted ?_
  rw [compTurn_list]
  refine wpAny_bind (wpAny_standAt (wpAny_bind (wpAny_mono (turn n s hI) (fun r s₁ h₁=> ?_) fun _ _ f=>f.elim)))
  cases r with
  | none=>exact wpAny_pure h₁
  | some v=>
    refine wpAny_bind (wpAny_mono h₁ (fun _ s₁' h₁'=>wpAny_bind (wpAny_mono h₁' (fun _ s₂ h₂=>wpAny_bind (wpAny_mono h₂ (fun ok s₃ h₃=> ?_) fun _ _ f=>f.elim)) fun _ _ f=>f.elim)) fun _ _ f=>f.elim)
    cases ok with
    | false=>exact wpAny_pure ⟨rfl,h₃⟩
    | true=>
      exact wpAny_bind (wpAny_bind (wpAny_mono h₃ (fun x s₄ h₄=>wpAny_bind (wpAny_mono h₄ (fun _ s₅ h₅=>wpAny_pure (wpAny_pure ⟨rfl,h₅⟩)) fun _ _ f=>f.elim)) fun _ _ f=>f.elim))
section
variable {X:Cx}
noncomputable def PTs (X:Cx) (ifs:List Expr) (tc:TT):Prop:=
  ∀ (pins:List (Addr × Obj)) (s:Shared) (σ:St) (H:Hp) (Q:Bool→Hp→Prop),Inv X pins σ H s→tc σ H Q→
    wpAny (model X.prog X.w) X.A (forIn ifs true fun c r=>if r=true then do let ok ← isTrue c X.env (eval c X.env);pure (ForInStep.yield ok) else pure (ForInStep.yield r)) (TP X pins σ Q) X.xe s
noncomputable def tYes:TT:=fun _ H Q=>Q true H
theorem pts_nil:PTs X [] tYes:=fun _ _ _ H _ I h=>wpAny_tests_nil ⟨H,I,h⟩
theorem pts_one {c:Expr} {tc:TT} (h:PT X c tc):PTs X [c] tc:=fun pins s σ H Q I q=>wpAny_tests_one (h pins s σ H Q I q)
noncomputable def Kp (σ0 σ:St):Prop:=σ.length=σ0.length∧∀ (i:Nat) (v:V),σ0[i]?=some (some v)→σ[i]?=some (some v)
theorem Kp.refl (σ:St):Kp σ σ:=⟨rfl,fun _ _ h=>h⟩
theorem Kp.set {σ0 σ:St} {i:Nat} {v:V} (k:Kp σ0 σ) (h:σ0[i]?=some none):Kp σ0 (σ.set i (some v)):=by
  refine ⟨by rw [List.length_set];exact k.1,fun j u e=> ?_⟩
  by_cases hj:i=j
  · subst hj;rw [h] at e;cases e
  · rw [List.getElem?_set_ne hj];exact k.2 j u e
noncomputable def CompW (J:It) (σ0:St) (g:TG) (tc:TT) (te:TE) (Q:VK) (H1:Hp) (D:Addr):Prop:=
  ∃ W:Nat→Nat→List V→Hp→Prop,(∃ m,W 0 m [] (upd H1 D (.lst [])))∧∀ i m ys H,W i m ys H→
    (J.stop i H∧Q (.ref D) H)∨(J.go i H∧∃ N:List V→Hp→Prop,(∀ ys' H',N ys' H'→∃ m',m'<m∧W (i+1) m' ys' H')∧∀ x H',J.yld i H x H'→g x σ0 H' fun σ2 H2=>Kp σ0 σ2∧tc σ2 H2 fun b H3=>
      if b=true then te σ2 H3 fun y H4=>H4 D=some (.lst ys)∧ys.length<sizeLine∧N (ys++[y]) (upd H4 D (.lst (ys++[y]))) else N ys H3)
noncomputable def tComp (wi:TI) (own:List Str) (fr:List (Str × Nat)) (g:TG) (tc:TT) (te:TE):TE:=fun σ H Q=>wi σ H fun J H1=>∀ D,H1 D=none→CompW J (blkSt own fr σ) g tc te Q H1 D
theorem comp_run {elt tg iter:Expr} {ifs:List Expr} {scope:Scope} {pos:Pos} {own:List Str} {fr:List (Str × Nat)} {g:TG} {tc:TT} {te:TE} (hc:X.calm=true) (S:BlkScope X scope own fr)
    (hg:∀ C ex s H,PG (blkCx X scope own fr C ex s H) tg g) (ht:∀ C ex s H,PTs (blkCx X scope own fr C ex s H) ifs tc) (he:∀ C ex s H,PE (blkCx X scope own fr C ex s H) elt te)
    {pins:List (Addr × Obj)} {σ:St} {H:Hp} {s:Shared} {it:Addr} {fp:List Addr} {tn:Nat→Heap→Prop} {J:It} {E:Value→Shared→Prop}
    (I:Inv X pins σ H s) (T:Turn X.prog X.w X.K tg J fp it tn) (st:tn 0 s.heap) (hf:∀ b∈fp,FpOk X pins H b) {Q:VK}
    (h:∀ D,H D=none→CompW J (blkSt own fr σ) g tc te Q H D)
    {RR:Value→Addr→Result→Shared→Prop}
    (hR:∀ D C H' s',Inv X pins σ H' s'→(∃ m,s'.heap.Ns C m)→FpOk X pins H' C→Q (.ref D) H'→RR (.ref D) C (.ok .next) s'):
    wpAny (model X.prog X.w) X.A (newList []) (fun acc s₃=>wpAny (model X.prog X.w) X.A (newFunctionEnv scope X.env.globals (closOf X.env.cells scope.names []) [] X.env.qual none .none (some X.env)) (fun cenv s₄=>
      codeAny (model X.prog X.w) X.A (.compStart (.ListComp elt [⟨tg,iter,ifs,0⟩] scope pos) 0 (.ref it) acc { cenv with scope:=relabel scope X.env }) (RR acc cenv.locals) s₄) E s₃) E s:=by
  have hDn:H s.heap.objs.size=none:=I.fresh
  obtain ⟨W,⟨m0,w0⟩,turn⟩:=h s.heap.objs.size hDn
  have I3:Inv X pins σ (upd H s.heap.objs.size (.lst [])) { s with heap:=s.heap.push { cls:= .type "list",data:= .seq ([]:List Value).toArray },toks:=s.toks }:=I.lnew .nil (Nat.zero_le _)
  refine wpAny_newObj_type ?_
  generalize hs3:({ s with heap:=s.heap.push { cls:= .type "list",data:= .seq ([]:List Value).toArray } }:Shared)=s3 at I3 ⊢
  have I3:Inv X pins σ (upd H s.heap.objs.size (.lst [])) s3:=I3
  have old3:∀ b o,s.heap.get? b=some o→s3.heap.get? b=some o:=fun b o e=>by rw [← hs3];exact Heap.get?_push_of_some _ e
  have hobj:∀ b∈fp,∃ o,s.heap.get? b=some o∧∀ v,o.data≠ .cell v:=T.obj 0 _ st
  have hne:∀ b∈fp,b≠s.heap.objs.size:=fun b hb=>by obtain ⟨o,e,_⟩:=hobj b hb;exact Nat.ne_of_lt (Heap.lt_size e)
  have hf3:∀ b∈fp,FpOk X pins (upd H s.heap.objs.size (.lst [])) b:=fun b hb=>⟨by rw [upd_ne (hne b hb)];exact (hf b hb).1,(hf b hb).2⟩
  have hlt3:∀ b∈fp,b<s3.heap.objs.size:=fun b hb=>by obtain ⟨o,e,_⟩:=hobj b hb;exact Heap.lt_size (old3 b o e)
  refine wpAny_newFunctionEnv S.nocell (by intro y hy;simp at hy) (fun h₁ hns hsb=> ?_) S.kind
  have keep:∀ b o,s3.heap.get? b=some o→h₁.get? b=some o:=fun b o e=>hsb.extBut b o (Nat.ne_of_lt (Heap.lt_size e)) (Heap.get?_push_of_some _ e)
  have J0:=I3.block (t':=s3.toks+([]:List (Str × Value)).length) S hf3 hlt3 hns keep
  have st3:tn 0 h₁:=T.keep 0 _ _ st fun b hb o e=>keep b o (old3 b o e)
  have loop:codeAny (model X.prog X.w) X.A (.compLoop (.ListComp elt [⟨tg,iter,ifs,0⟩] scope pos) 0 (.ref it) (.ref s.heap.objs.size) (compEnvC scope (closOf X.env.cells scope.names []) s3.heap.objs.size X.env))
      (RR (.ref s.heap.objs.size) s3.heap.objs.size) { s3 with heap:=h₁,toks:=s3.toks+([]:List (Str × Value)).length }:=by
    have stat:∀ {H':Hp},(∀ b∈fp,H' b=none)→∀ b∈fp,FpOk (blkCx X scope own fr s3.heap.objs.size fp s3 (upd H s.heap.objs.size (.lst []))) [] H' b:=fun {H'} hn b hb=>
      ⟨hn b hb,Nat.ne_of_lt (hlt3 b hb),J0.ok.exfs b hb, .inl hb,(J0.ok.exf b hb).2,fun p hp=>absurd (show p∈([]:List (Addr × Obj)) from hp) (by simp)⟩
    refine compLoop_go (fun n s'=>∃ i ys H',Inv (blkCx X scope own fr s3.heap.objs.size fp s3 (upd H s.heap.objs.size (.lst []))) [] (blkSt own fr σ) H' s'∧tn i s'.heap∧(∀ b∈fp,H' b=none)∧W i n ys H') ?_ m0
      ⟨0,[],_,J0,st3,fun b hb=>(hf3 b hb).1,w0⟩
    rintro n s4 ⟨i,ys,H4,I4,st4,fr4,w4⟩
    rcases turn i n ys H4 w4 with ⟨stop,q⟩ | ⟨go,N,hN,step⟩
    · refine thn (T.done (blkCx X scope own fr s3.heap.objs.size fp s3 (upd H s.heap.objs.size (.lst []))) rfl rfl rfl hc i [] s4 _ H4 (fun _ _=>False) I4 (stat fr4) st4 stop) fun r s5 ⟨hr,I5⟩=> ?_
      subst hr
      obtain ⟨m,hn,_⟩:=id I5.loc
      exact hR _ _ H4 s5 (I3.call' I5.os I5.base I5.hok I5.bare fun b hb=>⟨(hf3 b hb).2.2.2.1,(hf3 b hb).2.1,(hf3 b hb).2.2.2.2.1,(hf3 b hb).2.2.2.2.2⟩) ⟨m,hn⟩ (I3.fpOk (Nat.le_refl _) I5.free) q
    · refine thn (T.item (blkCx X scope own fr s3.heap.objs.size fp s3 (upd H s.heap.objs.size (.lst []))) rfl rfl rfl hc i [] s4 _ H4 (fun _ _=>False) I4 (stat fr4) st4 go) fun r s5 ⟨u,hr,h5⟩=> ?_
      subst hr
      refine thn h5 fun _ s6 ⟨x,H6,I6,r6,y6,st6,fr6⟩=> ?_
      have I6':=I6.pinned (stat fr6) (T.obj _ _ st6)
      refine thn (hg _ _ _ _ _ s6 _ H6 x u _ I6' r6 (step x H6 y6)) fun _ s7 ⟨σ7,H7,I7,kp,q7⟩=> ?_
      refine thn (ht _ _ _ _ _ s7 σ7 H7 _ I7 q7) fun b s8 ⟨H8,I8,q8⟩=> ?_
      have again:∀ {s9:Shared} {H9:Hp} {ys':List V},Inv (blkCx X scope own fr s3.heap.objs.size fp s3 (upd H s.heap.objs.size (.lst []))) ([]++pinsAt fp s6.heap) σ7 H9 s9→N ys' H9→
          ∃ m,m<n∧∃ i ys H',Inv (blkCx X scope own fr s3.heap.objs.size fp s3 (upd H s.heap.objs.size (.lst []))) [] (blkSt own fr σ) H' s9∧tn i s9.heap∧(∀ b∈fp,H' b=none)∧W i m ys H':=fun {s9 H9 ys'} I9 n9=>by
        obtain ⟨m',hm,w9⟩:=hN ys' H9 n9
        refine ⟨m',hm,i+1,ys',H9,I9.unpinned.weak kp.1.symm kp.2,T.keep _ _ _ st6 fun b hb o e=>(I9.pin (b,o) (List.mem_append_right _ (List.mem_append_right _ (mem_pinsAt hb e)))).1,fun b hb=> ?_,w9⟩
        obtain ⟨o,e,d⟩:=T.obj _ _ st6 b hb
        exact (I9.pin (b,o) (List.mem_append_right _ (List.mem_append_right _ (mem_pinsAt hb e)))).2.1
      cases b with
      | false=>
        rw [if_neg Bool.false_ne_true] at q8 ⊢
        exact again I8 q8
      | true=>
        rw [if_pos rfl] at q8 ⊢
        refine thn (he _ _ _ _ _ s8 σ7 H8 _ I8 q8) fun xv s9 ⟨y,H9,I9,r9,hD,hl,n9⟩=> ?_
        refine thn (mt_append _ s9 σ7 H9 (.ref s.heap.objs.size) [y] (.ref s.heap.objs.size) [xv] (fun _ H'=>H'=upd H9 s.heap.objs.size (.lst (ys++[y]))) I9 rfl (.cons r9 .nil) ⟨_,ys,y,rfl,rfl,hD,hl,rfl⟩) fun _ s10 ⟨_,H10,I10,_,q10⟩=> ?_
        subst q10
        exact again I10 n9
  exact codeAny_compStart_list loop (T.self _ 0 _ _ _ st3 loop)
theorem pe_comp {elt tg iter:Expr} {ifs:List Expr} {scope:Scope} {pos:Pos} {own:List Str} {fr:List (Str × Nat)} {wi:TI} {g:TG} {tc:TT} {te:TE} (hc:X.calm=true) (S:BlkScope X scope own fr) (hi:PI X tg iter wi)
    (hg:∀ C ex s H,PG (blkCx X scope own fr C ex s H) tg g) (ht:∀ C ex s H,PTs (blkCx X scope own fr C ex s H) ifs tc) (he:∀ C ex s H,PE (blkCx X scope own fr C ex s H) elt te)
    (hs:∀ x,foldedSetIterable iter X.env x=pure x:=by intro _;rfl):PE X (.ListComp elt [⟨tg,iter,ifs,0⟩] scope pos) (tComp wi own fr g tc te):=by
  intro pins s σ H Q I h
  rw [eval_ListComp]
  refine wpAny_comprehension_free (use:=none) rfl hs (closureFor_eq (S.cells I.ok)) S.kind S.loc (thn (hi pins s σ H _ I h) fun xv s₁ h₁=>thn h₁ fun itv s₂ h₂=> ?_)
  obtain ⟨it,fp,tn,J,H2,rfl,I2,T,st2,f2,h2⟩:=h₂
  refine comp_run (RR:=fun acc C=>compPost (model X.prog X.w) X.A X.xe none (EP X pins σ Q) acc C) hc S hg ht he I2 T st2 f2 h2 ?_
  rintro D C H' s' I' ⟨m,hn⟩ f q
  exact ⟨m,hn,fun h' sb=>⟨.ref D,H',I'.turned (t':=s'.toks) (it:=C) (fun b o hb e=>(sb.2 b hb).trans e) f.1 f.2.1 f.2.2.2.1 f.2.2.2.2.1 f.2.2.2.2.2,rfl,q⟩⟩
theorem ps_comp {i:Nat} {x:Str} {px spos:Pos} {elt tg iter:Expr} {ifs:List Expr} {scope:Scope} {pos:Pos} {own:List Str} {fr:List (Str × Nat)} {wi:TI} {g:TG} {tc:TT} {te:TE} (hN:X.N.Nodup) (hix:X.N[i]?=some x) (hx:Loc X.env.scope x)
    (hc:X.calm=true) (S:BlkScope X scope own fr) (hi:PI X tg iter wi)
    (hg:∀ C ex s H,PG (blkCx X scope own fr C ex s H) tg g) (ht:∀ C ex s H,PTs (blkCx X scope own fr C ex s H) ifs tc) (he:∀ C ex s H,PE (blkCx X scope own fr C ex s H) elt te)
    (hsw:swapsWith (.ListComp elt [⟨tg,iter,ifs,0⟩] scope pos) (some (.Name x px)) spos.line X.env=pure true:=by rfl)
    (hf:X.fn x=true∨X.env.scope.names.lookup x=some .local:=by first | exact .inl rfl | exact .inr rfl | assumption)
    (hs:∀ x,foldedSetIterable iter X.env x=pure x:=by intro _;rfl):PS X (.Assign [.Name x px] (.ListComp elt [⟨tg,iter,ifs,0⟩] scope pos) spos) (tAsg (tComp wi own fr g tc te) (gName i)):=by
  intro pins s σ H D I h
  rw [exec_Assign_Name_used _ _ _ _ hsw]
  refine wpAny_bind (wpAny_standAt (wpAny_bind ?_))
  show wpAny _ X.A (do let _ ← comprehension (.ListComp elt [⟨tg,iter,ifs,0⟩] scope pos) scope X.env _ (newList []) false (eval iter X.env) (some (assign (.Name x px) X.env))) _ _ s
  refine wpAny_bind (wpAny_mono (wpAny_comprehension_free (use:=some (assign (.Name x px) X.env)) (Q:=fun _ s'=>SP X pins D .next s') rfl hs (closureFor_eq (S.cells I.ok)) S.kind S.loc
    (thn (hi pins s σ H _ I h) fun xv s₁ h₁=>thn h₁ fun itv s₂ h₂=> ?_)) (fun _ s' hq=>wpAny_pure (wpAny_pure hq)) fun _ _ e=>e)
  obtain ⟨it,fp,tn,J,H2,rfl,I2,T,st2,f2,h2⟩:=h₂
  refine comp_run (Q:=fun x H1=>gName i x σ H1 D.nx) (RR:=fun acc C=>compPost (model X.prog X.w) X.A X.xe (some (assign (.Name x px) X.env)) (fun _ s'=>SP X pins D .next s') acc C) hc S hg ht he I2 T st2 f2 h2 ?_
  rintro Dl C H' s' I' ⟨m,hn⟩ f q
  obtain ⟨o,es,ep,ho,hd,r⟩:=hn
  have pinC:∀ v,o.data≠ .cell v:=fun v z=>by rw [hd] at z;cases z
  have I'':Inv X (pins++[(C,o)]) σ H' s':=I'.pins_of fun p hp=>(List.mem_append.mp hp).elim (fun z=>I'.pin p (List.mem_append_right _ z)) fun z=>by
    have e:p=(C,o):=by simpa using z
    subst e
    exact ⟨ho,f.1,f.2.1,f.2.2.1,pinC⟩
  show wpAny _ X.A (assign (.Name x px) X.env (.ref Dl)) _ _ s'
  refine wpAny_assign_Name (store_ok I'' hN hix hx (v:= .ref Dl) rfl (fun s2 I2=> ?_) hf)
  have pc:=(I2.pin (C,o) (List.mem_append_right _ (List.mem_append_right _ (by simp)))).1
  refine ⟨m,⟨o,es,ep,pc,hd,r⟩,fun h' sb=>⟨_,H',?_,q⟩⟩
  exact (I2.unpinned (pl:=[(C,o)])).turned (t':=s2.toks) (it:=C) (fun b o hb e=>(sb.2 b hb).trans e) f.1 f.2.1 f.2.2.2.1 f.2.2.2.2.1 f.2.2.2.2.2
end
section
variable {X:Cx} {tg:Expr}
end
end L2
namespace MS
open PySem PySem.StrLaws Builtin Builtin.Str
end MS
namespace MN
open PySem PySem.StrLaws PySem.NumText Builtin Builtin.Str
noncomputable def isDig (c:Nat):Bool:=decide (48≤c)&&decide (c≤57)
noncomputable def numOf (cs:List Nat):Option Nat:=if (decide (1≤cs.length)&&decide (cs.length≤3)&&cs.all isDig&& !(decide (1<cs.length)&&cs.head? == some 48))=true then some (digitsVal cs) else none
theorem num_back:∀ m,m<1000→numOf ((Nat.toDigits 10 m).map Char.toNat)=some m:=by decide +kernel
theorem num_text {i:Int} (h0:0≤i) (h1:i<1000):numOf (Str.ofString (toString i)).cps.toList=some i.toNat:=by
  obtain ⟨m,rfl⟩:=Int.eq_ofNat_of_zero_le h0
  rw [PySem.W.KIN.signs_num]
  exact num_back m (by omega)
theorem num_len {i:Int} (h0:0≤i) (h1:i<1000):(Str.ofString (toString i)).length≤3:=by
  have h:=num_text h0 h1
  unfold numOf at h
  split at h
  · rename_i hc
    simp only [Bool.and_eq_true,decide_eq_true_iff] at hc
    have:=hc.1.1.2
    simpa [Str.length] using this
  · cases h
end MN
namespace L2
open PySem PySem.Spec PyProof.Rows
section
variable {X:Cx}
theorem fst_of_ints:∀ {ns:List Int} {l:List (Int × Tok)},Vals (ns.map V.int) (l.map fun p=>Value.int p.1 p.2)→l.map (·.1)=ns
  | [],[],_=>rfl
  | n::ns,p::l,r=>by
    cases r with
    | cons r1 r2=>
      obtain ⟨t,e⟩:=r1
      injection e with e1 e2
      rw [List.map_cons,fst_of_ints r2,e1]
  | [],_::_,r=>by cases r
  | _::_,[],r=>by cases r
theorem call_sum (hc:X.calm=true):CallR X (.builtin "sum") (fun xs H Q=>∃ (p:Addr) (ns:List Int),xs=[.ref p]∧SqL X.K H p (ns.map V.int)∧Q (.int ns.sum) H):=by
  intro pins s σ H xs us Q I r h
  obtain ⟨p,ns,rfl,hq,q⟩:=h
  obtain ⟨u,rfl,rx⟩:=vals1 r
  cases rx
  obtain ⟨its,rv,pl,_⟩:=I.list hq
  obtain ⟨ps,e⟩:=(IntsAre.allInts (intsAre_of rv)).items
  have e':its=ps.toList.map fun p=>Value.int p.1 p.2:=by
    have:=congrArg Array.toList e
    simpa [intItems] using this
  have hl:=pl.isList
  rw [e] at hl
  refine sum_intListG (I.ok.hd hc) hl fun h' tk t' hk=> ?_
  have es:preSum (numAt ps) ps.size=ns.sum:=by
    rw [preSum_eq,List.take_of_length_le (by simp),fst_of_ints (ns:=ns) (l:=ps.toList) (by rw [← e'];exact rv)]
  rw [es]
  exact ⟨.int ns.sum,H,I.kept hk,⟨t',rfl⟩,q⟩
theorem all_range (bs:List Bool):(List.range bs.length).all (fun i=>bs.getD i true)=bs.all id:=by
  rw [Bool.eq_iff_iff,List.all_eq_true,List.all_eq_true]
  constructor
  · intro h b hb
    obtain ⟨i,hi,rfl⟩:=List.getElem_of_mem hb
    have:=h i (by simpa using hi)
    rw [List.getD_eq_getElem?_getD,List.getElem?_eq_getElem hi] at this
    exact this
  · intro h i hi
    have hi:i<bs.length:=by simpa using hi
    rw [List.getD_eq_getElem?_getD,List.getElem?_eq_getElem hi]
    exact h _ (List.getElem_mem hi)
theorem call_all (hc:X.calm=true):CallR X (.builtin "all") (fun xs H Q=>∃ (p:Addr) (bs:List Bool),xs=[.ref p]∧SqL X.K H p (bs.map V.bl)∧Q (.bl (bs.all id)) H):=by
  intro pins s σ H xs us Q I r h
  obtain ⟨p,bs,rfl,hq,q⟩:=h
  obtain ⟨u,rfl,rx⟩:=vals1 r
  cases rx
  obtain ⟨its,rv,pl,_⟩:=I.list hq
  have hl:=rv.length
  rw [List.length_map] at hl
  obtain ⟨o,ho,_⟩:=id pl.isList
  have hne:p≠s.heap.objs.size:=Nat.ne_of_lt (Heap.lt_size ho)
  refine call_all_walk (wpAny_pyIter_list pl.isList ?_)
  refine ⟨s.heap.objs.size,_,_,_,_,_,fun i=>bs.getD i true,rfl,Walks.list (A:=X.A.in1) (I.ok.hd hc) _ p hne its.toArray,⟨⟨_,Heap.get?_push_size _ rfl,rfl,rfl⟩,pl.isList.at fun o e=>Heap.get?_push_of_some _ e⟩,?_,fun h' tk hk=> ?_⟩
  · intro i v s' Q' E' hv hQ'
    have hv:its[i]?=some v:=by simpa using hv
    have hi:i<bs.length:=by rw [hl];exact (List.getElem?_eq_some_iff.mp hv).1
    obtain ⟨u,hu,ru⟩:=rv.get (i:=i) (x:= .bl (bs.getD i true)) (by rw [List.getElem?_map,List.getD_eq_getElem?_getD,List.getElem?_eq_getElem hi];rfl)
    rw [hu] at hv
    cases hv
    cases ru
    exact wpAny_truthy_bool hQ'
  · have e:its.toArray.size=bs.length:=by rw [List.size_toArray];exact hl.symm
    rw [e,all_range]
    exact ⟨.bl _,H,I.kept fun b o e=>hk b o (fun z=>by simp at z;exact absurd (Heap.lt_size e) (by rw [z];exact Nat.lt_irrefl _)) (Heap.get?_push_of_some _ e),rfl,q⟩
theorem call_isinst:CallR X (.builtin "isinstance") (fun xs H Q=>∃ x n t b,xs=[x, .ty n]∧TyOf X.K H x t∧PySem.W.kitOne X.K t (.type n)=some b∧Q (.bl b) H):=by
  intro pins s σ H xs us Q I r h
  obtain ⟨x,n,t,b,rfl,ty,e,q⟩:=h
  obtain ⟨u,c,rfl,rx,rc⟩:=vals2 r
  cases rc
  exact isinst_ok I rx ty e fun tk=>⟨.bl b,H,I.tok tk,rfl,q⟩
noncomputable def rCatS (K:PySem.W.Frag):R2:=fun x y H Q=>∃ l b xs zs,x= .ref l∧y= .ref b∧SqL K H l xs∧SqL K H b zs∧xs.length+zs.length≤sizeLine∧∀ p,H p=none→Q (.ref p) (upd H p (.lst (xs++zs)))
theorem op_catS:OpR X (binaryOp .Add) (rCatS X.K):=by
  intro pins s σ H x y v u Q I rx ry h
  obtain ⟨l,b,xs,zs,rfl,rfl,hH,hB,hz,q⟩:=h
  cases rx
  cases ry
  obtain ⟨its,r,pl,_⟩:=I.list hH
  obtain ⟨its2,r2,pl2,_⟩:=I.list hB
  have h1:=r.length
  have h2:=r2.length
  obtain ⟨⟨cls,dd,data,sl⟩,n,ho,hc,hdd,hd⟩:=pl
  obtain ⟨⟨cls2,dd2,data2,sl2⟩,n2,ho2,hc2,hdd2,hd2⟩:=pl2
  simp only at hc hdd hd hc2 hdd2 hd2
  subst hc hdd hd hc2 hdd2 hd2
  refine concat_meets ⟨_,ho,rfl⟩ ⟨_,ho2,rfl⟩ noFill_list_add seq_list_add PySem.F.slot_list_add PySem.F.entry_list_add (PySem.F.args_list_add_2 _ _) (list_addW l b its.toArray its2.toArray n n2 none none sl sl2 (by rw [List.size_toArray,List.size_toArray];omega)) ⟨ho,ho2,?_⟩
  have e:its.toArray++its2.toArray=(its++its2).toArray:=by simp
  rw [e]
  exact ⟨.ref _,_,I.lnew (t':=s.toks) (r.append r2) (by rw [List.length_append];omega),rfl,q _ I.fresh⟩
noncomputable def eqVs (xs ys:List V):Bool:=xs.length == ys.length&&(List.range xs.length).all fun i=>eqV (xs.getD i .non) (ys.getD i .non)
theorem flat_getD {xs:List V} (h:xs.all flatV=true) {i:Nat} (hi:i<xs.length):flatV (xs.getD i .non)=true:=by
  rw [List.getD_eq_getElem?_getD,List.getElem?_eq_getElem hi]
  exact (List.all_eq_true.mp h) _ (List.getElem_mem hi)
noncomputable def rEqL (K:PySem.W.Frag) (neg:Bool):R2:=fun x y H Q=>∃ p q xs ys,x= .ref p∧y= .ref q∧SqL K H p xs∧SqL K H q ys∧xs.all flatV=true∧ys.all flatV=true∧Q (.bl (if neg then !eqVs xs ys else eqVs xs ys)) H
theorem eqAt_items {A:Around} {s:Shared} {xs ys:List V} {its its2:List Value} (r:Vals xs its) (r2:Vals ys its2) (fx:xs.all flatV=true) (fy:ys.all flatV=true):
    ∀ j (h1:j<its.toArray.size) (h2:j<its2.toArray.size),SeqAt.EqAt A s its.toArray[j] its2.toArray[j] (eqV (xs.getD j .non) (ys.getD j .non)):=fun j h1 h2=>by
  have l1:=r.length
  have l2:=r2.length
  have h1':j<its.length:=by simpa using h1
  have h2':j<its2.length:=by simpa using h2
  have g1:xs[j]?=some (xs.getD j .non):=by rw [List.getD_eq_getElem?_getD,List.getElem?_eq_getElem (by omega)];rfl
  have g2:ys[j]?=some (ys.getD j .non):=by rw [List.getD_eq_getElem?_getD,List.getElem?_eq_getElem (by omega)];rfl
  obtain ⟨u,e1,ru⟩:=r.get g1
  obtain ⟨u2,e2,ru2⟩:=r2.get g2
  have q1:its.toArray[j]=u:=by rw [List.getElem?_eq_getElem h1'] at e1;simpa using Option.some.inj e1
  have q2:its2.toArray[j]=u2:=by rw [List.getElem?_eq_getElem h2'] at e2;simpa using Option.some.inj e2
  rw [q1,q2]
  exact eqAt_V ru ru2 (flat_getD fx (by omega)) (flat_getD fy (by omega))
theorem op_eqL (hu:X.A.units<cLine):OpR X (compareOp .Eq) (rEqL X.K false):=by
  intro pins s σ H x y v u Q I rx ry h
  obtain ⟨p,q,xs,ys,rfl,rfl,h1,h2,fx,fy,hq⟩:=h
  cases rx
  cases ry
  obtain ⟨its,r,pl,_⟩:=I.list h1
  obtain ⟨its2,r2,pl2,_⟩:=I.list h2
  have l1:=r.length
  have l2:=r2.length
  by_cases hl:xs.length=ys.length
  · refine SeqAt.eq_listAt pl.isList pl2.isList (by simp;omega) hu (eqAt_items r r2 fx fy) ⟨.bl _,H,I,rfl,?_⟩
    have e:eqVs xs ys=(List.range its.toArray.size).all fun i=>eqV (xs.getD i .non) (ys.getD i .non):=by
      unfold eqVs
      rw [hl,beq_self_eq_true,Bool.true_and,List.size_toArray, ← l1,hl]
    rw [← e]
    exact hq
  · refine SeqAt.eq_list_lengthsAt pl.isList pl2.isList (by simp;omega) hu ⟨.bl _,H,I,rfl,?_⟩
    have e:eqVs xs ys=false:=by unfold eqVs;rw [beq_eq_false_iff_ne.mpr hl,Bool.false_and]
    rw [← e]
    exact hq
theorem op_neL (hu:X.A.units<cLine):OpR X (compareOp .NotEq) (rEqL X.K true):=by
  intro pins s σ H x y v u Q I rx ry h
  obtain ⟨p,q,xs,ys,rfl,rfl,h1,h2,fx,fy,hq⟩:=h
  cases rx
  cases ry
  obtain ⟨its,r,pl,_⟩:=I.list h1
  obtain ⟨its2,r2,pl2,_⟩:=I.list h2
  have l1:=r.length
  have l2:=r2.length
  by_cases hl:xs.length=ys.length
  · refine SeqAt.RcNeAt.lists pl.isList pl2.isList (by simp;omega) hu (eqAt_items r r2 fx fy) _ _ _ _ ⟨.bl _,H,I,rfl,?_⟩
    have e:eqVs xs ys=(List.range its.toArray.size).all fun i=>eqV (xs.getD i .non) (ys.getD i .non):=by
      unfold eqVs
      rw [hl,beq_self_eq_true,Bool.true_and,List.size_toArray, ← l1,hl]
    rw [← e]
    exact hq
  · refine SeqAt.RcNeAt.lists_lengths pl.isList pl2.isList (by simp;omega) hu _ _ _ _ ⟨.bl _,H,I,rfl,?_⟩
    have e:eqVs xs ys=false:=by unfold eqVs;rw [beq_eq_false_iff_ne.mpr hl,Bool.false_and]
    rw [e] at hq
    exact hq
theorem eqVs_of {α:Type} [DecidableEq α] (f:α→V) (hf:∀ a b,eqV (f a) (f b)=decide (a=b)) (as bs:List α):eqVs (as.map f) (bs.map f)=decide (as=bs):=by
  unfold eqVs
  rw [Bool.eq_iff_iff,Bool.and_eq_true,List.all_eq_true,decide_eq_true_iff,beq_iff_eq,List.length_map,List.length_map]
  constructor
  · rintro ⟨h1,h2⟩
    refine List.ext_getElem h1 fun i g1 g2=> ?_
    have:=h2 i (by simpa using g1)
    rw [List.getD_eq_getElem?_getD,List.getD_eq_getElem?_getD,List.getElem?_map,List.getElem?_map,List.getElem?_eq_getElem g1,List.getElem?_eq_getElem g2] at this
    have:=(hf _ _).symm.trans this
    exact of_decide_eq_true this
  · rintro rfl
    refine ⟨rfl,fun i hi=> ?_⟩
    have hi:i<as.length:=by simpa using hi
    rw [List.getD_eq_getElem?_getD,List.getElem?_map,List.getElem?_eq_getElem hi]
    show eqV (f as[i]) (f as[i])=true
    rw [hf]
    exact decide_eq_true rfl
theorem eqVs_int (as bs:List Int):eqVs (as.map V.int) (bs.map V.int)=decide (as=bs):=eqVs_of V.int (fun a b=>by show (a == b)=_;rw [Bool.eq_iff_iff,beq_iff_eq,decide_eq_true_iff]) as bs
theorem flat_int (as:List Int):(as.map V.int).all flatV=true:=by simp [flatV]
end
end L2
namespace L2
open PySem PySem.Spec PyProof.Rows
noncomputable def CallF (P:Program) (w:World) (K:PySem.W.Frag) (mg:Str→Option Value) (base:Heap) (x:Str) (k:Nat) (ps:List Str) (sp:Sp):Prop:=
  ∃ f fd,mg x=some (.ref f)∧PySem.W.keepIn K (.ref f)=true∧FnOk P w K mg base CX0 k f fd ps sp∧Binds K fd ps []
section
variable {X:Cx} {x:Str} {k:Nat} {ps:List Str} {sp:Sp} {e:Expr} {es:List Expr} {t:TA} {p pos:Pos}
theorem pe_callF (h:CallF X.prog X.w X.K X.mg X.base x k ps sp) (hr:Room k X.A) (ha:PA X (e::es) t) (hg:Gl X x:=by rfl) (hdb:(x == ("__debug__":Str))=false:=by decide)
    (he:starEach (e::es) X.env=(false,eval e X.env)::starEach es X.env:=by rfl) (hpl:(backTo pos (starEach es X.env)).any (·.1)=false:=by rfl):
    PE X (.Call (.Name x p) (e::es) [] pos) (tCall sp [] E0 t):=by
  obtain ⟨f,fd,hm,hk,F,hb⟩:=h
  exact pe_call F hr hg hm hk hb .nil pass0 ha hdb he hpl
end
structure DefAt (K:PySem.W.Frag) (mg:Str→Option Value) (x:Str) (st:Stmt) (ps:List Str) (f:Addr) (fd:FuncData):Prop where
  fn:Fun K x x st f fd
  at':mg x=some (.ref f)
  bi:Binds K fd ps []
theorem DefAt.call {P:Program} {w:World} {K:PySem.W.Frag} {mg:Str→Option Value} {base:Heap} {x:Str} {st:Stmt} {ps:List Str} {f:Addr} {fd:FuncData} {k:Nat} {sp:Sp} (d:DefAt K mg x st ps f fd)
    (F:FnOk P w K mg base CX0 k f fd ps sp):CallF P w K mg base x k ps sp:=⟨f,fd,d.at',d.fn.kp,F,d.bi⟩
noncomputable def isIntV:V→Bool | .int _=>true | _=>false
noncomputable def isBlV:V→Bool | .bl _=>true | _=>false
noncomputable def Ty (K:PySem.W.Frag) (H:Hp) (x:V):Prop:=∃ n,TyOf K H x (.type n)
noncomputable def kitB (n T:String):Option Bool:=if (Value.type n == Value.type T)=true then some true else if PySem.W.kitMeta T=true then (fastBuiltinMro n).map (·.contains (.type T)) else none
section
variable {K:PySem.W.Frag} {H:Hp} {x:V} {n:String}
theorem kb {n T:String} {b:Bool} (h:kitB n T=some b):PySem.W.kitOne K (.type n) (.type T)=some b:=h
theorem kit_int (h:TyOf K H x (.type n)):PySem.W.kitOne K (.type n) (.type "int")=some (isIntV x||isBlV x):=by
  cases h <;> first
    | exact (show PySem.W.kitOne K _ _=some true from kb (by decide +kernel))
    | exact (show PySem.W.kitOne K _ _=some false from kb (by decide +kernel))
theorem kit_bool (h:TyOf K H x (.type n)):PySem.W.kitOne K (.type n) (.type "bool")=some (isBlV x):=by
  cases h <;> first
    | exact (show PySem.W.kitOne K _ _=some true from kb (by decide +kernel))
    | exact (show PySem.W.kitOne K _ _=some false from kb (by decide +kernel))
end
section
variable {X:Cx}
noncomputable def Own (mg:Str→Option Value) (names:List Str):Prop:=∀ x∈names,mg x=none
theorem boot_all':bootBuiltins "all"=some (.builtin "all"):=by decide +kernel
theorem pe_ty {x:Str} {T:String} {pos:Pos} (hg:Gl X x) (hm:X.mg x=none) (hv:bootBuiltins x=some (.type T)) (hn:x≠"__name__":=by decide) (hd:(x == ("__debug__":Str))=false:=by decide):PE X (.Name x pos) (tC (.ty T)):=
  pe_bltn hg hm hv (show RelV (.ty T) (.type T) from rfl) hn hd
end
end L2
namespace L2
open PySem PySem.Spec PyProof.Rows
noncomputable def frOf (N:List Str) (scope:Scope):List (Str × Nat):=scope.names.filterMap fun y=>if y.2= .free then (N.findIdx? fun n=>decide (n=y.1)).map fun i=>(y.1,i) else none
noncomputable def blkOk (sc:Scope) (N:List Str) (scope:Scope) (own:List Str) (fr:List (Str × Nat)):Bool:=
  decide (scope.kind= .function)&&
  (scope.names.all fun y=>decide (y.2≠ .cell)&&(decide (y.2≠ .local)||decide (scope.names.lookup y.1=some .local))&&
    (decide (y.2≠ .free)||((decide (sc.names.lookup y.1=some .cell)||decide (sc.names.lookup y.1=some .free))&&decide (scope.names.lookup y.1=some .free))))&&
  (fr.all fun p=>decide (N[p.2]?=some p.1)&&decide ((p.1,NameKind.free)∈scope.names))&&
  (own.all fun x=>decide (scope.names.lookup x=some .local))&&decide ((own++fr.map (·.1)).Nodup)
section
variable {X:Cx} {scope:Scope} {own:List Str} {fr:List (Str × Nat)}
theorem BlkScope.of (h:blkOk X.env.scope X.N scope own fr=true):BlkScope X scope own fr:=by
  unfold blkOk at h
  simp only [Bool.and_eq_true,List.all_eq_true,decide_eq_true_iff,Bool.or_eq_true] at h
  obtain ⟨⟨⟨⟨h1,h2⟩,h3⟩,h4⟩,h5⟩:=h
  exact ⟨h1,fun y hy=>(h2 y hy).1.1,fun y hy e=>(h2 y hy).1.2.resolve_left (fun z=>z e),fun y hy e=>((h2 y hy).2.resolve_left (fun z=>z e)).1,fun p hp=>h3 p hp,fun x hx=>((h2 _ hx).2.resolve_left (fun z=>z rfl)).2⟩
theorem blkOk_own (h:blkOk X.env.scope X.N scope own fr=true):(∀ x∈own,scope.names.lookup x=some .local)∧(own++fr.map (·.1)).Nodup:=by
  unfold blkOk at h
  simp only [Bool.and_eq_true,List.all_eq_true,decide_eq_true_iff,Bool.or_eq_true] at h
  exact ⟨h.1.2,h.2⟩
theorem pg_own {i:Nat} {x:Str} {px:Pos} (h:blkOk X.env.scope X.N scope own fr=true) (hi:own[i]?=some x) (C:Addr) (ex:List Addr) (s:Shared) (H:Hp):PG (blkCx X scope own fr C ex s H) (.Name x px) (gName i):=by
  obtain ⟨h1,h2⟩:=blkOk_own h
  have hl:(relabel scope X.env).names.lookup x=some .local:=lookup_relabel_local (h1 x (List.mem_of_getElem? hi))
  have hlt:=(List.getElem?_eq_some_iff.mp hi).1
  refine pg_name h2 ?_ (.inl hl) (.inr hl)
  show (own++fr.map (·.1))[i]?=some x
  rw [List.getElem?_append_left hlt]
  exact hi
theorem pe_comp1 {elt iter:Expr} {x:Str} {px:Pos} {ifs:List Expr} {pos:Pos} {wi:TI} {tc:TT} {te:TE} (hi:PI X (.Name x px) iter wi)
    (ht:∀ C ex s H,PTs (blkCx X scope [x] (frOf X.N scope) C ex s H) ifs tc) (he:∀ C ex s H,PE (blkCx X scope [x] (frOf X.N scope) C ex s H) elt te)
    (hb:blkOk X.env.scope X.N scope [x] (frOf X.N scope)=true:=by with_unfolding_all rfl) (hc:X.calm=true:=by rfl)
    (hs:∀ x,foldedSetIterable iter X.env x=pure x:=by intro _;rfl):PE X (.ListComp elt [⟨.Name x px,iter,ifs,0⟩] scope pos) (tComp wi [x] (frOf X.N scope) (gName 0) tc te):=
  pe_comp hc (.of hb) hi (fun C ex s H=>pg_own hb rfl C ex s H) ht he hs
theorem ps_comp1 {i:Nat} {y x:Str} {py px spos:Pos} {elt iter:Expr} {ifs:List Expr} {pos:Pos} {wi:TI} {tc:TT} {te:TE} (hN:X.N.Nodup) (hix:X.N[i]?=some y) (hx:Loc X.env.scope y) (hi:PI X (.Name x px) iter wi)
    (ht:∀ C ex s H,PTs (blkCx X scope [x] (frOf X.N scope) C ex s H) ifs tc) (he:∀ C ex s H,PE (blkCx X scope [x] (frOf X.N scope) C ex s H) elt te)
    (hb:blkOk X.env.scope X.N scope [x] (frOf X.N scope)=true:=by with_unfolding_all rfl) (hc:X.calm=true:=by rfl)
    (hsw:swapsWith (.ListComp elt [⟨.Name x px,iter,ifs,0⟩] scope pos) (some (.Name y py)) spos.line X.env=pure true:=by rfl)
    (hf:X.fn y=true∨X.env.scope.names.lookup y=some .local:=by first | exact .inl rfl | exact .inr rfl | assumption)
    (hs:∀ x,foldedSetIterable iter X.env x=pure x:=by intro _;rfl):
    PS X (.Assign [.Name y py] (.ListComp elt [⟨.Name x px,iter,ifs,0⟩] scope pos) spos) (tAsg (tComp wi [x] (frOf X.N scope) (gName 0) tc te) (gName i)):=
  ps_comp hN hix hx hc (.of hb) hi (fun C ex s H=>pg_own hb rfl C ex s H) ht he hsw hf hs
theorem tYes_i {σ:L2.St} {H:Hp} {A B:Hp→Prop} (h:A H):tYes σ H (fun b H3=>if b=true then A H3 else B H3):=by
  show (if true=true then A H else B H)
  exact iteT h
theorem comp_range {lo:Int} {n:Nat} {D:Addr} {σ0:St} {tc:TT} {te:TE} {Q:VK} {H:Hp} (Pv:Nat→List V→Hp→Prop) (h0:Pv 0 [] (upd H D (.lst [])))
    (hs:∀ i ys H,i<n→Pv i ys H→Kp σ0 (σ0.set 0 (some (.int (lo+i))))∧tc (σ0.set 0 (some (.int (lo+i)))) H fun b H3=>
      if b=true then te (σ0.set 0 (some (.int (lo+i)))) H3 fun y H4=>H4 D=some (.lst ys)∧ys.length<sizeLine∧Pv (i+1) (ys++[y]) (upd H4 D (.lst (ys++[y]))) else Pv (i+1) ys H3)
    (hd:∀ ys H,Pv n ys H→Q (.ref D) H):
    CompW (Itr lo n) σ0 (gName 0) tc te Q H D:=by
  refine ⟨fun i m ys H=>m=n - i∧i≤n∧Pv i ys H,⟨_,rfl,Nat.zero_le _,h0⟩,?_⟩
  rintro i m ys H ⟨rfl,hi,p⟩
  by_cases hlt:i<n
  · refine .inr ⟨hlt,Pv (i+1),fun ys' H' p'=>⟨n - (i+1),by omega,rfl,hlt,p'⟩,fun x H' y=> ?_⟩
    obtain ⟨e,e2⟩:=y
    subst e e2
    exact hs i ys _ hlt p
  · have e:i=n:=by omega
    subst e
    exact .inl ⟨Nat.le_refl _,hd ys H p⟩
end
end L2
namespace L2
open PySem PySem.Spec PyProof.Rows
noncomputable def rLen (K:PySem.W.Frag):List V→Hp→VK→Prop:=fun xs H Q=>∃ x n,xs=[x]∧LenV K x H n∧Q (.int n) H
noncomputable def rSum (K:PySem.W.Frag):List V→Hp→VK→Prop:=fun xs H Q=>∃ (p:Addr) (ns:List Int),xs=[.ref p]∧SqL K H p (ns.map V.int)∧Q (.int ns.sum) H
noncomputable def rAll (K:PySem.W.Frag):List V→Hp→VK→Prop:=fun xs H Q=>∃ (p:Addr) (bs:List Bool),xs=[.ref p]∧SqL K H p (bs.map V.bl)∧Q (.bl (bs.all id)) H
noncomputable def rIsin (K:PySem.W.Frag):List V→Hp→VK→Prop:=fun xs H Q=>∃ x n t b,xs=[x, .ty n]∧TyOf K H x t∧PySem.W.kitOne K t (.type n)=some b∧Q (.bl b) H
noncomputable def rListOf (K:PySem.W.Frag):List V→Hp→VK→Prop:=fun xs H Q=>∃ p ys,xs=[.ref p]∧(SqL K H p ys∨SqT K H p ys)∧∀ l,H l=none→Q (.ref l) (upd H l (.lst ys))
noncomputable def rTupleOf (K:PySem.W.Frag):List V→Hp→VK→Prop:=fun xs H Q=>∃ p ys,xs=[.ref p]∧((SqL K H p ys∧∀ l,H l=none→Q (.ref l) (upd H l (.tup ys)))∨(SqT K H p ys∧Q (.ref p) H))
section
variable {X:Cx} {K:PySem.W.Frag}
theorem k_len (hK:X.K=K:=by rfl):CallR X (.builtin "len") (rLen K):=by subst hK;exact call_len
theorem k_sum (hK:X.K=K:=by rfl) (hc:X.calm=true:=by rfl):CallR X (.builtin "sum") (rSum K):=by subst hK;exact call_sum hc
theorem k_all (hK:X.K=K:=by rfl) (hc:X.calm=true:=by rfl):CallR X (.builtin "all") (rAll K):=by subst hK;exact call_all hc
theorem k_isin (hK:X.K=K:=by rfl):CallR X (.builtin "isinstance") (rIsin K):=by subst hK;exact call_isinst
theorem k_list (hK:X.K=K:=by rfl):CallR X (.type "list") (rListOf K):=by subst hK;exact call_list_of
theorem k_tuple (hK:X.K=K:=by rfl):CallR X (.type "tuple") (rTupleOf K):=by subst hK;exact call_tuple_of
theorem k_ixl (hK:X.K=K:=by rfl):IxR X (rIxL K):=by subst hK;exact ix_list
theorem k_ixt (hK:X.K=K:=by rfl):IxR X (rIxT K):=by subst hK;exact ix_tup
theorem k_cat (hK:X.K=K:=by rfl):OpR X (binaryOp .Add) (rCatS K):=by subst hK;exact op_catS
theorem k_eql (hu:X.A.units<cLine) (hK:X.K=K:=by rfl):OpR X (compareOp .Eq) (rEqL K false):=by subst hK;exact op_eqL hu
theorem k_nel (hu:X.A.units<cLine) (hK:X.K=K:=by rfl):OpR X (compareOp .NotEq) (rEqL K true):=by subst hK;exact op_neL hu
theorem k_sll (hK:X.K=K:=by rfl):SlR X (rSlL K):=by subst hK;exact sl_list
theorem k_pil {tg l:Expr} {tl:TE} (hl:PE X l tl) (hK:X.K=K:=by rfl):PI X tg l (iList K tl):=by subst hK;exact pi_list hl
theorem k_pit {tg l:Expr} {tl:TE} (hl:PE X l tl) (hK:X.K=K:=by rfl):PI X tg l (iTup K tl):=by subst hK;exact pi_tup hl
end
end L2
namespace L2
open PySem PySem.Spec PyProof.Rows
section
variable {X:Cx} {pins:List (Addr × Obj)} {σ:St} {H:Hp} {s:Shared} {h':Heap}
theorem Inv.turnedL {t':Nat} (ch:List Addr) (I:Inv X pins σ H s) (hf:∀ b∈ch,FpOk X pins H b) (k:∀ b o,b∉ch→s.heap.get? b=some o→h'.get? b=some o):Inv X pins σ H { s with heap:=h',toks:=t' }:=by
  have nit:∀ b u,H b=some u→b∉ch:=fun b u e z=>by rw [(hf b z).1] at e;cases e
  refine I.step (g':=s.gens) (d':=s.drawn) (ch:=ch) (fun b hb=> ?_) (fun b o _ _ hc e _=>k b o hc e) (fun b o _ _ hc e _=>⟨o.slots,k b o hc e⟩) (fun _ _ _ _ n=>n)
    (fun b o hc e=>⟨o,k b o hc e⟩) (fun _ _ e=>e) (fun _ _ _ e=>e) (fun b ps e=>⟨#[],by rw [e];simp⟩) (fun m hm=> ?_) (fun b u e=> ?_) I.bare
  · obtain ⟨f0,f1,f2,f3,f4,f5⟩:=hf b hb
    exact ⟨f3,f1,f4,f5⟩
  · obtain ⟨o,es,ep,ho,r⟩:=hm
    exact ⟨o,es,ep,k _ o (fun z=>(hf _ z).2.1 rfl) ho,r⟩
  · refine (I.hok b u e).stay (fun c v hc q=>k c v ?_ q) (fun _ q=>q) fun _ _ q=>q
    rcases hc with z | z
    · rw [z];exact nit b u e
    · exact nit c _ z
end
noncomputable def Ite (K:PySem.W.Frag) (a:Addr):It:=
  ⟨fun i H=>∃ xs x,SqL K H a xs∧xs[i]?=some x,fun i H v H'=>∃ p x,H p=none∧v= .ref p∧H'=upd H p (.tup [.int i,x])∧∀ xs,SqL K H a xs→xs[i]?=some x,fun i H=>∃ xs,SqL K H a xs∧xs.length≤i⟩
theorem fp_upd {X:Cx} {pins:List (Addr × Obj)} {H:Hp} {b p:Addr} {o:HO} (h:FpOk X pins H b) (n:b≠p):FpOk X pins (upd H p o) b:=⟨by rw [upd_ne n];exact h.1,h.2⟩
theorem turn_enum {P:Program} {w:World} {K:PySem.W.Frag} {elts:List Expr} {k:Nat} {pos:Pos} (a e it:Addr) (hne:e≠it):
    Turn P w K (.Tuple elts k pos) (Ite K a) [e,it] e (fun i h=>(∃ old,IsEnum h e it i old)∧h.IsListIter it a i) where
  mem:=by simp
  obj:=fun i h st b hb=>by
    obtain ⟨⟨old,he⟩,o,eo,c,d⟩:=st
    rcases List.mem_cons.mp hb with z | z
    · subst z
      exact ⟨_,he,fun v z=>by cases (show Data.fields _=Data.cell v from z)⟩
    · have z:b=it:=by simpa using z
      subst z
      exact ⟨o,eo,fun v z=>by rw [d] at z;cases z⟩
  keep:=fun i h h' st kp=>by
    obtain ⟨⟨old,he⟩,hi⟩:=st
    exact ⟨⟨old,kp e (by simp) _ he⟩,hi.at fun o z=>kp it (by simp) o z⟩
  item:=by
    intro X hP hw hK hc i pins s σ H E I hf st hg
    subst hP hw hK
    obtain ⟨xs,x,hq,hx⟩:=hg
    obtain ⟨its,rv,p,hz⟩:=I.list hq
    obtain ⟨u,hu,ru⟩:=rv.get hx
    obtain ⟨⟨old,he⟩,hi⟩:=st
    have hel:e<s.heap.objs.size:=Heap.lt_size he
    have hil:it<s.heap.objs.size:=by obtain ⟨_,z,_⟩:=hi;exact Heap.lt_size z
    refine wpAny_pyNext_enum_item he hi p.isList (x:=u) (by simpa using hu) hne fun h' ho hi' hT hsz hk=> ?_
    have I0:=I.laid (h':=s.heap.push { cls:= .type "tuple",data:= .seq #[.int i s.toks,u] }) (a:=s.heap.objs.size) (o:= .tup [.int i,x]) (t':=s.toks+1) (fun _ _ q=>Heap.get?_push_of_some _ q) (Nat.le_refl _)
      ⟨(by show 2≤sizeLine;decide),[.int i s.toks,u], .cons ⟨_,rfl⟩ (.cons ru .nil),⟨_,Heap.get?_push_size _ rfl,rfl,_,rfl⟩⟩
    have f0:∀ b∈[e,it],FpOk X pins (upd H s.heap.objs.size (.tup [.int i,x])) b:=fun b hb=>fp_upd (hf b hb) (by
      rcases List.mem_cons.mp hb with z | z
      · rw [z];exact Nat.ne_of_lt hel
      · rw [show b=it by simpa using z];exact Nat.ne_of_lt hil)
    have I1:=Inv.turnedL (t':=s.toks+1) (h':=h') [e,it] I0 f0 (fun b o hb z=>by
      have hb1:b≠e:=fun q=>hb (by simp [q])
      have hb2:b≠it:=fun q=>hb (by simp [q])
      rcases Heap.get?_push_cases (show (s.heap.push { cls:= .type "tuple",data:= .seq #[.int i s.toks,u] }).get? b=some o from z) with ⟨q1,q2⟩ | q
      · rw [q1,q2];exact hT
      · exact hk b o hb1 hb2 q)
    refine ⟨.ref s.heap.objs.size,rfl,wpAny_letOwnedTupleGo_enum (s:={ s with heap:=h',toks:=s.toks+1 }) ho fun h2 he2 sb=> ?_⟩
    refine ⟨.ref s.heap.objs.size,_,Inv.turnedL (t':=s.toks+1) (h':=h2) [e,it] I1 f0 (fun b o hb z=>(sb.2 b fun q=>hb (by simp [q])).trans z),rfl,⟨_,x,I.fresh,rfl,rfl,fun ys hy=>by rw [I.list_inj hy hq];exact hx⟩,⟨⟨u,by simpa using he2⟩,hi'.at fun o z=>(sb.2 it hne.symm).trans z⟩,fun b hb=>(f0 b hb).1⟩
  done:=by
    intro X hP hw hK hc i pins s σ H E I hf st hg
    subst hP hw hK
    obtain ⟨xs,hq,hx⟩:=hg
    obtain ⟨its,rv,p,hz⟩:=I.list hq
    obtain ⟨⟨old,he⟩,hi⟩:=st
    have hl:=rv.length
    exact wpAny_pyNext_enum_end (I.ok.hd hc) he hi p.isList (by simp;omega) fun h' eb=>⟨rfl,I.turnedL (t':=s.toks) [e,it] hf fun b o hb z=>eb b o (fun q=>hb (by simp [q])) z⟩
  self:=fun _ _ _ _ _ st h=>by
    obtain ⟨⟨old,he⟩,_⟩:=st
    exact wpAny_pyIter_enum he h
section
variable {X:Cx} {elts:List Expr} {k:Nat} {tpos:Pos} {K:PySem.W.Frag}
noncomputable def iEnum (K:PySem.W.Frag) (ta:TA):TI:=fun σ H R=>ta σ H fun vs H1=>∃ a,vs=[.ref a]∧(∃ xs,SqL K H1 a xs)∧R (Ite K a) H1
theorem boot_enum:bootBuiltins "enumerate"=some (.type "enumerate"):=by decide +kernel
theorem pi_enum {l:Expr} {ta:TA} {p pos:Pos} (hg:Gl X "enumerate") (hm:X.mg "enumerate"=none) (ha:PA X [l] ta) (hK:X.K=K:=by rfl) (hs:starEach [l] X.env=[(false,eval l X.env)]:=by rfl):PI X (.Tuple elts k tpos) (.Call (.Name "enumerate" p) [l] [] pos) (iEnum K ta):=by
  subst hK
  intro pins s σ H R I h
  refine Call_ (ld_blt I hg hm boot_enum (PyProof.Rows.callWith_type1 (thn (ha pos pins s σ H _ I h) fun us s1 ⟨vs,H1,I1,r1,q1⟩=> ?_) hs rfl))
  obtain ⟨a,e,⟨xs,hq⟩,q⟩:=q1
  subst e
  cases r1 with
  | cons r rr=>
    cases rr
    cases r
    obtain ⟨its,rv,pl,hz⟩:=I1.list hq
    refine call_enumerate_list pl.isList fun h' he hi hsz hk=> ?_
    refine wpAny_pyIter_enum he ?_
    have I2:=I1.kept (t':=s1.toks) hk
    refine ⟨s1.heap.objs.size+1,[s1.heap.objs.size+1,s1.heap.objs.size],_,_,H1,rfl,I2,turn_enum a _ _ (Nat.succ_ne_self _),⟨⟨_,he⟩,hi⟩,fun b hb=> ?_,q⟩
    have hb':s1.heap.objs.size≤b:=by
      rcases List.mem_cons.mp hb with z | z
      · rw [z];exact Nat.le_succ _
      · have z:b=s1.heap.objs.size:=by simpa using z
        rw [z];exact Nat.le_refl _
    exact I1.fpOk hb' (I1.hok.fresh hb')
end
section
variable {X:Cx} {elts:List Expr} {k:Nat} {tpos:Pos} {K:PySem.W.Frag}
end
end L2
namespace L2
open PySem PySem.Spec PyProof.Rows
noncomputable def SrcIt (tp:Bool) (h:Heap) (it l:Addr) (i:Nat):Prop:=if tp=true then h.IsTupleIter it l i else h.IsListIter it l i
section
variable {prog:Program} {w:World} {A:Around} {E:Value→Shared→Prop} {s:Shared}
end
section
variable {prog:Program} {w:World} {A:Around} {E:Value→Shared→Prop} {s:Shared}
structure ZipSt (t1 t2:Bool) (h:Heap) (z TI TO i1 i2 l1 l2:Addr) (k:Nat):Prop where
  hz:IsZip h z TI TO .none
  hTI:IsPair h TI (.ref i1) (.ref i2)
  hTO:∃ c d,IsPair h TO c d
  h1:SrcIt t1 h i1 l1 k
  h2:SrcIt t2 h i2 l2 k
end
noncomputable def SqS (tp:Bool) (K:PySem.W.Frag) (H:Hp) (a:Addr) (xs:List V):Prop:=if tp=true then SqT K H a xs else SqL K H a xs
section
variable {X:Cx} {elts:List Expr} {k:Nat} {tpos:Pos} {K:PySem.W.Frag}
end
end L2
namespace L2
open PySem PySem.Spec PyProof.Rows
section
variable {X:Cx} {K:PySem.W.Frag}
theorem boot_list':bootBuiltins "list"=some (.type "list"):=by decide +kernel
theorem boot_tuple':bootBuiltins "tuple"=some (.type "tuple"):=by decide +kernel
theorem k_gtup {es:List Expr} {k:Nat} {t:TGs} {n:Nat} {pos:Pos} (hc:X.calm=true) (h:PGs X es t) (hK:X.K=K:=by rfl)
    (hn:(assignEach es X.env).length=n:=by rfl) (hst:(assignEach es X.env).findIdx? (·.1)=none:=by rfl):PG X (.Tuple es k pos) (gTup K n t):=by
  subst hK
  exact pg_tup hc h hn hst
variable {scope:Scope} {fr:List (Str × Nat)}
theorem pg_own2 {x y:Str} {px py pt:Pos} {k:Nat} (h:blkOk X.env.scope X.N scope [x,y] fr=true) (hc:X.calm=true) (C:Addr) (ex:List Addr) (s:Shared) (H:Hp) (hK:X.K=K:=by rfl):
    PG (blkCx X scope [x,y] fr C ex s H) (.Tuple [.Name x px, .Name y py] k pt) (gTup K 2 (gCons (gName 0) (gCons (gName 1) gNil))):=by
  subst hK
  exact pg_tup (X:=blkCx X scope [x,y] fr C ex s H) hc (pgs_cons (pg_own h rfl C ex s H) (pgs_cons (pg_own h rfl C ex s H) pgs_nil))
theorem pe_comp2 {elt iter:Expr} {x y:Str} {px py pt:Pos} {k:Nat} {ifs:List Expr} {pos:Pos} {wi:TI} {tc:TT} {te:TE} (hi:PI X (.Tuple [.Name x px, .Name y py] k pt) iter wi)
    (ht:∀ C ex s H,PTs (blkCx X scope [x,y] (frOf X.N scope) C ex s H) ifs tc) (he:∀ C ex s H,PE (blkCx X scope [x,y] (frOf X.N scope) C ex s H) elt te) (hK:X.K=K:=by rfl)
    (hb:blkOk X.env.scope X.N scope [x,y] (frOf X.N scope)=true:=by with_unfolding_all rfl) (hc:X.calm=true:=by rfl)
    (hs:∀ x,foldedSetIterable iter X.env x=pure x:=by intro _;rfl):PE X (.ListComp elt [⟨.Tuple [.Name x px, .Name y py] k pt,iter,ifs,0⟩] scope pos) (tComp wi [x,y] (frOf X.N scope) (gTup K 2 (gCons (gName 0) (gCons (gName 1) gNil))) tc te):=
  pe_comp hc (.of hb) hi (fun C ex s H=>pg_own2 hb hc C ex s H hK) ht he hs
end
section
variable {K:PySem.W.Frag} {D:Addr} {σ0:St} {tc:TT} {te:TE} {Q:VK} {H:Hp}
end
end L2
namespace L2
open PySem PySem.Spec PyProof.Rows
inductive Dt where
  | non | bl (b:Bool) | int (i:Int) | str (z:Str) | lst (xs:List Dt) | tup (xs:List Dt)
inductive Rp (H:Hp) (F:Addr→Prop):Nat→V→Dt→Prop where
  | non {n:Nat}:Rp H F n .non .non
  | bl {n:Nat} (b:Bool):Rp H F n (.bl b) (.bl b)
  | int {n:Nat} (i:Int):Rp H F n (.int i) (.int i)
  | str {n:Nat} (z:Str):Rp H F n (.str z) (.str z)
  | lst {n:Nat} {a:Addr} {vs:List V} {ds:List Dt} (h:H a=some (.lst vs)) (f:F a) (b:vs.length≤100000) (l:vs.length=ds.length) (e:∀ (i:Nat) (v:V) (d:Dt),vs[i]?=some v→ds[i]?=some d→Rp H F n v d):Rp H F (n+1) (.ref a) (.lst ds)
  | tup {n:Nat} {a:Addr} {vs:List V} {ds:List Dt} (h:H a=some (.tup vs)) (b:vs.length≤100000) (l:vs.length=ds.length) (e:∀ (i:Nat) (v:V) (d:Dt),vs[i]?=some v→ds[i]?=some d→Rp H F n v d):Rp H F (n+1) (.ref a) (.tup ds)
theorem Rp.mono {H H':Hp} {F F':Addr→Prop} {n:Nat} {v:V} {d:Dt} (r:Rp H F n v d) (k:∀ a o,H a=some o→(∀ xs,o= .lst xs→F a)→H' a=some o) (f:∀ a,F a→F' a):Rp H' F' n v d:=by
  induction r with
  | non=>exact .non
  | bl b=>exact .bl b
  | int i=>exact .int i
  | str z=>exact .str z
  | lst h p b l e ih=>exact .lst (k _ _ h fun _ _=>p) (f _ p) b l fun i v d h1 h2=>ih i v d h1 h2
  | tup h b l e ih=>exact .tup (k _ _ h fun xs q=>by cases q) b l fun i v d h1 h2=>ih i v d h1 h2
theorem Rp.same {H H':Hp} {F:Addr→Prop} {n:Nat} {v:V} {d:Dt} (r:Rp H F n v d) (s:Same H H'):Rp H' F n v d:=r.mono (fun a o h _=>s a o h) fun _ h=>h
theorem Rp.imp {H:Hp} {F F':Addr→Prop} {n:Nat} {v:V} {d:Dt} (r:Rp H F n v d) (f:∀ a,F a→F' a):Rp H F' n v d:=r.mono (fun a o h _=>h) f
noncomputable abbrev FT:Addr→Prop:=fun _=>True
noncomputable abbrev FN (H:Hp):Addr→Prop:=fun a=>H a=none
theorem Rp.any {H:Hp} {F:Addr→Prop} {n:Nat} {v:V} {d:Dt} (r:Rp H F n v d):Rp H FT n v d:=r.imp fun _ _=>trivial
noncomputable def dInts (ns:List Int):Dt:= .lst (ns.map .int)
theorem ints_of {H:Hp} {F:Addr→Prop} {n:Nat} {v:V} {ns:List Int} (r:Rp H F n v (dInts ns)):∃ a,v= .ref a∧H a=some (.lst (ns.map V.int))∧F a:=by
  unfold dInts at r
  cases r with
  | @lst n a vs _ h f b l e=>
    refine ⟨a,rfl,?_,f⟩
    rw [h]
    congr 2
    refine List.ext_getElem (by simpa using l) fun i h1 h2=> ?_
    have h2':i<ns.length:=by simpa using h2
    have:=e i vs[i] (.int ns[i]) (by simp [h1]) (by simp [h2'])
    cases hv:vs[i] <;> rw [hv] at this <;> cases this
    simp
end L2
namespace L2
open PySem PySem.Spec PyProof.Rows
section
variable {t u:TS} {D:Ends} {σ:St} {H:Hp} {te ta tb tk:TE} {tt tu:TT} {g:TG} {Q:VK} {QT:Bool→Hp→Prop} {QA:List V→Hp→Prop} {i:Nat} {v x y:V} {r:R2} {tr:TA} {K:PySem.W.Frag}
theorem rd_seq (h:t { D with nx:=u D } σ H):tSeq t u D σ H:=h
theorem rd_next (h:D.nx σ H):tNext D σ H:=h
theorem rd_asg (h:te σ H fun x H1=>g x σ H1 D.nx):tAsg te g D σ H:=h
theorem rd_name {QS:St→Hp→Prop} (h:QS (σ.set i (some v)) H):gName i v σ H QS:=h
theorem rd_var (e:σ[i]?=some (some v)) (h:Q v H):tVar i σ H Q:=⟨v,e,h⟩
theorem rd_c (h:Q v H):tC v σ H Q:=h
theorem rd_op (h:ta σ H fun x H1=>tb σ H1 fun y H2=>r x y H2 Q):tOp r ta tb σ H Q:=h
theorem rd_un {ru:V→Hp→VK→Prop} (h:ta σ H fun x H1=>ru x H1 Q):tUn ru ta σ H Q:=h
theorem rd_rI {C:Int→Int→Prop} {gg:Int→Int→V} {a b:Int} (c:C a b) (h:Q (gg a b) H):rI C gg (.int a) (.int b) H Q:=⟨a,b,rfl,rfl,c,h⟩
theorem rd_rI0 {gg:Int→Int→V} {a b:Int} (h:Q (gg a b) H):rI0 gg (.int a) (.int b) H Q:=⟨a,b,rfl,rfl,h⟩
theorem rd_rU {gg:Int→V} {a:Int} (h:Q (gg a) H):rU gg (.int a) H Q:=⟨a,rfl,h⟩
theorem rd_eqI {a b:Int} (h:Q (.bl (decide (a=b))) H):rEq (.int a) (.int b) H Q:=⟨rfl,by rw [show decide (V.int a=V.int b)=decide (a=b) by rw [Bool.eq_iff_iff];simp];exact h⟩
theorem rd_neI {a b:Int} (h:Q (.bl (!decide (a=b))) H):rNe (.int a) (.int b) H Q:=⟨rfl,by rw [show decide (V.int a=V.int b)=decide (a=b) by rw [Bool.eq_iff_iff];simp];exact h⟩
theorem rd_not (h:tt σ H fun c H1=>QT (!c) H1):tNot tt σ H QT:=h
theorem rd_test (h:te σ H fun x H'=>∃ k,x= .bl k∧QT k H'):tTest te σ H QT:=h
theorem rd_tB (h:te σ H fun x H'=>∃ k,x= .bl k∧QT k H'):tB te σ H QT:=h
theorem rd_bl {b:Bool} {R:Bool→Prop} (h:R b):∃ k,V.bl b= .bl k∧R k:=⟨b,rfl,h⟩
theorem rd_or (h:tt σ H fun c H1=>if c=true then QT true H1 else tu σ H1 QT):tOr tt tu σ H QT:=h
theorem rd_and (h:tt σ H fun c H1=>if c=true then tu σ H1 QT else QT false H1):tAnd tt tu σ H QT:=h
theorem rd_andV (h:ta σ H fun x H1=>∃ c,x= .bl c∧if c=true then tb σ H1 Q else Q (.bl false) H1):tAndV ta tb σ H Q:=h
theorem rd_notV (h:ta σ H fun x H1=>∃ c,x= .bl c∧Q (.bl (!c)) H1):tNotV ta σ H Q:=h
theorem rd_ifS (h:tt σ H fun b H1=>if b=true then t D σ H1 else u D σ H1):tIfS tt t u D σ H:=h
theorem rd_if (h:tt σ H fun c H1=>if c=true then ta σ H1 Q else tb σ H1 Q):tIf tt ta tb σ H Q:=h
theorem rd_ret (h:te σ H D.rt):tRet te D σ H:=h
theorem rd_drop (h:te σ H fun _ H1=>D.nx σ H1):tDrop te D σ H:=h
theorem rd_nil (h:QA [] H):tNil σ H QA:=h
theorem rd_cons (h:te σ H fun x H1=>tr σ H1 fun xs H2=>QA (x::xs) H2):tCons te tr σ H QA:=h
theorem rd_lst (h:tr σ H fun xs H1=>xs.length≤sizeLine∧∀ p,H1 p=none→Q (.ref p) (upd H1 p (.lst xs))):tLst tr σ H Q:=h
theorem rd_tup (h:tr σ H fun xs H1=>xs.length≤sizeLine∧∀ p,H1 p=none→Q (.ref p) (upd H1 p (.tup xs))):tTup tr σ H Q:=h
theorem rd_cb {rr:List V→Hp→VK→Prop} (h:tr σ H fun vs H1=>rr vs H1 Q):tCB rr tr σ H Q:=h
theorem rd_call {sp:Sp} {E:XK} (h:tr σ H fun vs H1=>sp vs H1 Q E):tCall sp [] E tr σ H Q:=by
  unfold tCall
  simpa using h
theorem rd_sl {rs:V→Option Int→Option Int→Hp→VK→Prop} {tl th:TO} (h:te σ H fun x H1=>tl σ H1 fun l H2=>th σ H2 fun u H3=>rs x l u H3 Q):tSl rs te tl th σ H Q:=h
theorem rd_part {QO:Option Int→Hp→Prop} (h:te σ H fun x H1=>∃ i,x= .int i∧QO (some i) H1):tPart te σ H QO:=h
theorem rd_noPart {QO:Option Int→Hp→Prop} (h:QO none H):tNoPart σ H QO:=h
theorem rd_int {a:Int} {R:Int→Prop} (h:R a):∃ k,V.int a= .int k∧R k:=⟨a,rfl,h⟩
theorem rd_slL {p:Addr} {xs:List V} {lo hi:Option Int} (c:SqL K H p xs) (h:∀ q,H q=none→Q (.ref q) (upd H q (.lst (cutV xs lo hi)))):rSlL K (.ref p) lo hi H Q:=⟨p,xs,rfl,c,h⟩
theorem rd_lenL {p:Addr} {xs:List V} (c:SqL K H p xs) (h:Q (.int xs.length) H):rLen K [.ref p] H Q:=⟨_,_,rfl, .inl ⟨xs,c,rfl⟩,h⟩
theorem rd_lenT {p:Addr} {xs:List V} (c:SqT K H p xs) (h:Q (.int xs.length) H):rLen K [.ref p] H Q:=⟨_,_,rfl, .inr ⟨xs,c,rfl⟩,h⟩
theorem rd_sum {p:Addr} {ns:List Int} (c:SqL K H p (ns.map V.int)) (h:Q (.int ns.sum) H):rSum K [.ref p] H Q:=⟨p,ns,rfl,c,h⟩
theorem rd_all {p:Addr} {bs:List Bool} (c:SqL K H p (bs.map V.bl)) (h:Q (.bl (bs.all id)) H):rAll K [.ref p] H Q:=⟨p,bs,rfl,c,h⟩
theorem rd_isin {n:String} {ty:Value} {b:Bool} (c:TyOf K H x ty) (e:PySem.W.kitOne K ty (.type n)=some b) (h:Q (.bl b) H):rIsin K [x, .ty n] H Q:=⟨x,n,ty,b,rfl,c,e,h⟩
theorem rd_ixL {p:Addr} {xs:List V} {k:Int} (c:SqL K H p xs) (e:atI xs k=some v) (h:Q v H):rIxL K (.ref p) (.int k) H Q:=⟨p,xs,k,v,rfl,rfl,c,e,h⟩
theorem rd_ixT {p:Addr} {xs:List V} {k:Int} (c:SqT K H p xs) (e:atI xs k=some v) (h:Q v H):rIxT K (.ref p) (.int k) H Q:=⟨p,xs,k,v,rfl,rfl,c,e,h⟩
theorem rd_len {xs:List V} {B:Prop} (c:xs.length≤1000) (h:B):xs.length≤sizeLine∧B:=⟨Nat.le_trans c (by decide),h⟩
end
theorem iteP {p A B:Prop} [Decidable p] (h1:p→A) (h2:¬ p→B):if decide p=true then A else B:=by
  by_cases h:p
  · rw [if_pos (decide_eq_true h)];exact h1 h
  · rw [if_neg (fun q=>h (of_decide_eq_true q))];exact h2 h
noncomputable def isLst:Dt→Bool | .lst _=>true | _=>false
noncomputable def isTup:Dt→Bool | .tup _=>true | _=>false
theorem SqS.same {K:PySem.W.Frag} {H H':Hp} {tp:Bool} {p:Addr} {xs:List V} (c:SqS tp K H p xs) (s:Same H H'):SqS tp K H' p xs:=by
  cases tp with
  | false=>exact (show SqL K H' p xs from s.seq c)
  | true=>
    rcases (show SqT K H p xs from c) with (q | ⟨o,q⟩) | q
    · exact (show SqT K H' p xs from .inl (.inl (s _ _ q)))
    · exact (show SqT K H' p xs from .inl (.inr ⟨o,s _ _ q⟩))
    · exact (show SqT K H' p xs from .inr q)
theorem same_new {H:Hp} {p:Addr} {o:HO} (h:H p=none):Same H (upd H p o):=fun b u e=>by rw [upd_ne (ne_of_none e h)];exact e
theorem same_at {H H':Hp} {D:Addr} {o:HO} (s:Same H H') (h:H D=none):Same H (upd H' D o):=fun b u e=>by rw [upd_ne (ne_of_none e h)];exact s b u e
end L2
namespace L2
open PySem PySem.Spec PyProof.Rows
structure SrcOk (J:It) (g:TG) (σ0:St) (H:Hp) (n:Nat) (st:Nat→St):Prop where
  go:∀ i H',i<n→Same H H'→J.go i H'
  stop:∀ H',Same H H'→J.stop n H'
  yld:∀ i H' x H'' (R:St→Hp→Prop),i<n→Same H H'→J.yld i H' x H''→(∀ H3,Same H' H3→R (st i) H3)→g x σ0 H'' R
  kp:∀ i,i<n→Kp σ0 (st i)
section
variable {J:It} {g:TG} {σ0:St} {H:Hp} {n:Nat} {st:Nat→St} {tc:TT} {te:TE} {Q:VK} {D:Addr}
theorem Rp.off {H:Hp} {F:Addr→Prop} {m:Nat} {v:V} {d:Dt} {D:Addr} {xs:List V} {o:HO} (r:Rp H F m v d) (hD:H D=some (.lst xs)) (hF:¬ F D):Rp (L2.upd H D o) F m v d:=by
  refine r.mono (fun a u e q=> ?_) fun _ h=>h
  have n:a≠D:=fun z=>by
    subst z
    rw [hD] at e
    cases e
    exact hF (q _ rfl)
  rw [upd_ne n]
  exact e
theorem comp_data {m:Nat} {p:Nat→Bool} {G:Nat→Dt} (S:SrcOk J g σ0 H n st) (hD:H D=none) (hn:n≤100000)
    (ht:∀ i H' (R:Bool→Hp→Prop),i<n→Same H H'→(∀ H3,Same H' H3→R (p i) H3)→tc (st i) H' R)
    (he:∀ i H' (R:VK),i<n→p i=true→Same H H'→(∀ H3 y,Same H' H3→Rp H3 (FN H') m y (G i)→R y H3)→te (st i) H' R)
    (hd:∀ H' ys,Same H H'→H' D=some (.lst ys)→Rp H' (FN H) (m+1) (.ref D) (.lst (((List.range n).filter p).map G))→Q (.ref D) H'):
    CompW J σ0 g tc te Q H D:=by
  refine ⟨fun i k ys H'=>k=n - i∧i≤n∧Same H H'∧H' D=some (.lst ys)∧ys.length=(((List.range i).filter p).map G).length∧∀ (j:Nat) (y:V) (d:Dt),ys[j]?=some y→(((List.range i).filter p).map G)[j]?=some d→Rp H' (fun a=>H a=none∧a≠D) m y d,
    ⟨_,rfl,Nat.zero_le _,same_at (Same.refl _) hD,upd_same,rfl,fun j y d q=>by simp at q⟩,?_⟩
  rintro i k ys H1 ⟨rfl,hi,s1,hl,len,el⟩
  have bnd:∀ i,(((List.range i).filter p).map G).length≤i:=fun i=>by
    rw [List.length_map]
    exact Nat.le_trans (List.length_filter_le _ _) (by simp)
  by_cases hlt:i<n
  · refine .inr ⟨S.go i H1 hlt s1,fun ys' H'=>Same H H'∧H' D=some (.lst ys')∧ys'.length=(((List.range (i+1)).filter p).map G).length∧∀ (j:Nat) (y:V) (d:Dt),ys'[j]?=some y→(((List.range (i+1)).filter p).map G)[j]?=some d→Rp H' (fun a=>H a=none∧a≠D) m y d,
      fun ys' H' q=>⟨n - (i+1),by omega,rfl,hlt,q⟩,fun x H2 y=> ?_⟩
    refine S.yld i H1 x H2 _ hlt s1 y fun H3 s3=>⟨S.kp i hlt,?_⟩
    refine ht i H3 _ hlt (s1.trans s3) fun H4 s4=> ?_
    have hl4:H4 D=some (.lst ys):=s4 _ _ (s3 _ _ hl)
    have s14:Same H H4:=s1.trans (s3.trans s4)
    cases hp:p i with
    | false=>
      refine iteF ⟨s14,hl4,?_,?_⟩
      · rw [List.range_succ,List.filter_append,List.filter_cons,hp]
        simpa using len
      · intro j y d h1 h2
        have e:((List.range (i+1)).filter p).map G=((List.range i).filter p).map G:=by
          rw [List.range_succ,List.filter_append,List.filter_cons,hp]
          simp
        rw [e] at h2
        exact (el j y d h1 h2).same (s3.trans s4)
    | true=>
      refine iteT ?_
      refine he i H4 _ hlt hp s14 fun H5 y s5 ry=> ?_
      have hl5:H5 D=some (.lst ys):=s5 _ _ hl4
      have e:((List.range (i+1)).filter p).map G=((List.range i).filter p).map G++[G i]:=by
        rw [List.range_succ,List.filter_append,List.filter_cons,hp]
        simp
      refine ⟨hl5,?_,?_,upd_same,?_,?_⟩
      · have:=bnd i
        exact Nat.lt_of_le_of_lt (by omega:ys.length≤100000) (by decide)
      · exact same_at (s14.trans s5) hD
      · rw [e,List.length_append,List.length_append,len]
        rfl
      · intro j z d h1 h2
        rw [e] at h2
        have nF:¬ (H D=none∧D≠D):=fun q=>q.2 rfl
        by_cases hj:j<ys.length
        · rw [List.getElem?_append_left hj] at h1
          rw [List.getElem?_append_left (by omega)] at h2
          exact ((el j z d h1 h2).same (s3.trans (s4.trans s5))).off hl5 nF
        · have ej:j=ys.length:=by
            have:=(List.getElem?_eq_some_iff.mp h1).1
            rw [List.length_append] at this
            have:([y]:List V).length=1:=rfl
            omega
          subst ej
          rw [List.getElem?_append_right (Nat.le_refl _),Nat.sub_self] at h1
          rw [len,List.getElem?_append_right (Nat.le_refl _),Nat.sub_self] at h2
          cases h1
          cases h2
          refine (ry.imp (F':=fun a=>H a=none∧a≠D) fun a ha=>⟨s14.free ha,fun q=> ?_⟩).off hl5 nF
          subst q
          rw [show H4 a=none from ha] at hl4
          cases hl4
  · have e:i=n:=by omega
    subst e
    refine .inl ⟨S.stop H1 s1,hd H1 ys s1 hl (.lst hl hD ?_ len fun j y d h1 h2=>(el j y d h1 h2).imp fun a q=>q.1)⟩
    have:=bnd i
    omega
theorem comp_map {m:Nat} {G:Nat→Dt} (S:SrcOk J g σ0 H n st) (hD:H D=none) (hn:n≤100000)
    (he:∀ i H' (R:VK),i<n→Same H H'→(∀ H3 y,Same H' H3→Rp H3 (FN H') m y (G i)→R y H3)→te (st i) H' R)
    (hd:∀ H' ys,Same H H'→H' D=some (.lst ys)→Rp H' (FN H) (m+1) (.ref D) (.lst ((List.range n).map G))→Q (.ref D) H'):
    CompW J σ0 g tYes te Q H D:=by
  refine comp_data (p:=fun _=>true) (m:=m) (G:=G) S hD hn (fun i H' R _ _ k=>k H' (Same.refl _)) (fun i H' R hi _ s k=>he i H' R hi s k) fun H' ys s hl r=>hd H' ys s hl ?_
  have e:(List.range n).filter (fun _=>true)=List.range n:=by simp
  rw [e] at r
  exact r
variable {K:PySem.W.Frag} {a b:Addr} {xs zs:List V}
theorem src_list (h:SqL K H a xs) (h0:σ0[0]?=some none):SrcOk (Itl K a) (gName 0) σ0 H xs.length (fun i=>σ0.set 0 (some (xs.getD i .non))) where
  go:=fun i H' hi s=>⟨xs,xs[i],s.seq h,by simp [hi]⟩
  stop:=fun H' s=>⟨xs,s.seq h,Nat.le_refl _⟩
  yld:=fun i H' x H'' R hi s y k=>by
    obtain ⟨e,hv⟩:=y
    subst e
    have e:x=xs.getD i .non:=by
      have:=hv xs (s.seq h)
      rw [List.getD_eq_getElem?_getD,this]
      rfl
    subst e
    exact k _ (Same.refl _)
  kp:=fun i hi=>(Kp.refl _).set h0
theorem src_tup (h:SqT K H a xs) (h0:σ0[0]?=some none):SrcOk (Itt K a) (gName 0) σ0 H xs.length (fun i=>σ0.set 0 (some (xs.getD i .non))) where
  go:=fun i H' hi s=>⟨xs,xs[i],(SqS.same (tp:=true) h s),by simp [hi]⟩
  stop:=fun H' s=>⟨xs,(SqS.same (tp:=true) h s),Nat.le_refl _⟩
  yld:=fun i H' x H'' R hi s y k=>by
    obtain ⟨e,hv⟩:=y
    subst e
    have e:x=xs.getD i .non:=by
      have:=hv xs (SqS.same (tp:=true) h s)
      rw [List.getD_eq_getElem?_getD,this]
      rfl
    subst e
    exact k _ (Same.refl _)
  kp:=fun i hi=>(Kp.refl _).set h0
theorem src_range {lo:Int} {n:Nat} (h0:σ0[0]?=some none):SrcOk (Itr lo n) (gName 0) σ0 H n (fun i=>σ0.set 0 (some (.int (lo+i)))) where
  go:=fun i H' hi s=>hi
  stop:=fun H' s=>Nat.le_refl _
  yld:=fun i H' x H'' R hi s y k=>by
    obtain ⟨e,hv⟩:=y
    subst e hv
    exact k _ (Same.refl _)
  kp:=fun i hi=>(Kp.refl _).set h0
theorem src_enum (h:SqL K H a xs) (h0:σ0[0]?=some none) (h1:σ0[1]?=some none):SrcOk (Ite K a) (gTup K 2 (gCons (gName 0) (gCons (gName 1) gNil))) σ0 H xs.length (fun i=>(σ0.set 0 (some (.int i))).set 1 (some (xs.getD i .non))) where
  go:=fun i H' hi s=>⟨xs,xs[i],s.seq h,by simp [hi]⟩
  stop:=fun H' s=>⟨xs,s.seq h,Nat.le_refl _⟩
  yld:=fun i H' x H'' R hi s y k=>by
    obtain ⟨p,v,hp,rfl,rfl,hv⟩:=y
    have e:v=xs.getD i .non:=by
      have:=hv xs (s.seq h)
      rw [List.getD_eq_getElem?_getD,this]
      rfl
    subst e
    exact ⟨p,_,rfl,SqT.of upd_same,rfl,_,_,rfl,_,_,rfl,rfl,k _ (same_new hp)⟩
  kp:=fun i hi=>((Kp.refl _).set h0).set h1
end
theorem map_range_getD {α β:Type} (f:α→β) (xs:List α) (d:α):(List.range xs.length).map (fun i=>f (xs.getD i d))=xs.map f:=by
  refine List.ext_getElem (by simp) fun i h1 h2=> ?_
  have hi:i<xs.length:=by simpa using h2
  simp [List.getD_eq_getElem?_getD,hi]
end L2
namespace L2
open PySem PySem.Spec PyProof.Rows
section
variable {X:Cx} {tg:Expr}
noncomputable def rIntB:List V→Hp→VK→Prop:=fun xs H Q=>∃ b:Bool,xs=[.bl b]∧Q (.int (if b=true then 1 else 0)) H
end
end L2
namespace L2
open PySem PySem.Spec PyProof.Rows
theorem k_intB {X:Cx}:CallR X (.type "int") rIntB:=by
  intro pins s σ H xs us Q I r h
  obtain ⟨b,rfl,q⟩:=h
  exact call_int1 pins s σ H _ us Q I r (.inr ⟨b,rfl,q⟩)
end L2
namespace L2
open PySem PySem.Spec PyProof.Rows
section
variable {X:Cx} {K:PySem.W.Frag} {e st:Expr} {te ts:TE} {pos p2:Pos}
end
end L2
namespace MM
theorem snoc_ind {α:Type} {p:List α→Prop} (h0:p []) (h1:∀ l a,p l→p (l++[a])):∀ l,p l:=fun l=>by
  have h:∀ r:List α,p r.reverse:=fun r=>by
    induction r with
    | nil=>exact h0
    | cons a r ih=>rw [List.reverse_cons];exact h1 _ _ ih
  have:=h l.reverse
  rwa [List.reverse_reverse] at this
theorem or_add_and (a:Nat):∀ b:Nat,(a ||| b)+(a &&& b)=a+b:=by
  induction a using Nat.strongRecOn with
  | ind a ih=>
    intro b
    by_cases h:a=0
    · subst h;simp
    · have ih':=ih (a / 2) (by omega) (b / 2)
      have e1:(a ||| b)=2*((a ||| b) / 2)+(a ||| b)%2:=by omega
      have e2:(a &&& b)=2*((a &&& b) / 2)+(a &&& b)%2:=by omega
      have d1:(a ||| b) / 2=a / 2 ||| b / 2:=by simpa using Nat.or_div_two (a:=a) (b:=b)
      have d2:(a &&& b) / 2=a / 2 &&& b / 2:=by simpa using Nat.and_div_two (a:=a) (b:=b)
      have m1:(a ||| b)%2+(a &&& b)%2=a%2+b%2:=by
        have z:∀ x:Nat,x%2=(x.testBit 0).toNat:=fun x=>by rw [Nat.toNat_testBit];simp
        rw [z (a ||| b),z (a &&& b),z a,z b,Nat.testBit_or,Nat.testBit_and]
        cases a.testBit 0 <;> cases b.testBit 0 <;> rfl
      rw [d1] at e1
      rw [d2] at e2
      omega
theorem xor_eq (a b:Nat):(a ^^^ b)+(a &&& b)=(a ||| b):=by
  have h1:=or_add_and (a ^^^ b) (a &&& b)
  have e1:((a ^^^ b) ||| (a &&& b))=(a ||| b):=by
    refine Nat.eq_of_testBit_eq fun i=> ?_
    simp only [Nat.testBit_or,Nat.testBit_xor,Nat.testBit_and]
    cases a.testBit i <;> cases b.testBit i <;> rfl
  have e2:((a ^^^ b) &&& (a &&& b))=0:=by
    refine Nat.eq_of_testBit_eq fun i=> ?_
    simp only [Nat.testBit_and,Nat.testBit_xor,Nat.zero_testBit]
    cases a.testBit i <;> cases b.testBit i <;> rfl
  rw [e1,e2] at h1
  omega
noncomputable def ofB (f:Nat→Bool):Nat→Nat
  | 0=>0
  | w+1=>ofB f w+(f w).toNat*2 ^ w
theorem ofB_lt (f:Nat→Bool):∀ w,ofB f w<2 ^ w
  | 0=>by simp [ofB]
  | w+1=>by
    have:=ofB_lt f w
    unfold ofB
    rw [Nat.pow_succ]
    cases f w <;> simp <;> omega
theorem ofB_bit (f:Nat→Bool):∀ w i,(ofB f w).testBit i=(decide (i<w)&&f i)
  | 0,i=>by simp [ofB]
  | w+1,i=>by
    have hl:=ofB_lt f w
    unfold ofB
    have e:ofB f w+(f w).toNat*2 ^ w=2 ^ w*(f w).toNat+ofB f w:=by rw [Nat.mul_comm];omega
    rw [e,Nat.testBit_two_pow_mul_add _ hl]
    by_cases h:i<w
    · rw [if_pos h,ofB_bit f w i]
      simp [h,Nat.lt_succ_of_lt h]
    · rw [if_neg h]
      by_cases h2:i=w
      · subst h2
        cases f i <;> simp
      · have h3:¬ i<w+1:=by omega
        have h4:i - w≠0:=by omega
        have h5:(1:Nat).testBit (i - w)=false:=by
          obtain ⟨d,hd⟩:∃ d,i - w=d+1:=⟨i - w - 1,by omega⟩
          rw [hd,Nat.testBit_succ]
          simp
        cases f w
        · simp [h3]
        · simp only [Bool.toNat_true,h5,h3,decide_false,Bool.false_and]
theorem ofB_self (m w:Nat) (h:m<2 ^ w):ofB m.testBit w=m:=by
  refine Nat.eq_of_testBit_eq fun i=> ?_
  rw [ofB_bit]
  by_cases hi:i<w
  · simp [hi]
  · have:m.testBit i=false:=Nat.testBit_lt_two_pow (Nat.lt_of_lt_of_le h (Nat.pow_le_pow_right (by decide) (by omega)))
    simp [hi,this]
theorem ofB_congr {f g:Nat→Bool} {w:Nat} (h:∀ i,i<w→f i=g i):ofB f w=ofB g w:=by
  refine Nat.eq_of_testBit_eq fun i=> ?_
  rw [ofB_bit,ofB_bit]
  by_cases hi:i<w
  · simp [hi,h i hi]
  · simp [hi]
theorem eq_ofB {m w:Nat} {f:Nat→Bool} (h:m<2 ^ w) (b:∀ i,i<w→m.testBit i=f i):m=ofB f w:=by
  rw [← ofB_self m w h]
  exact ofB_congr b
theorem bit_div (m e:Nat):m / 2 ^ e%2=(m.testBit e).toNat:=by
  rw [Nat.testBit_eq_decide_div_mod_eq]
  have:m / 2 ^ e%2<2:=Nat.mod_lt _ (by decide)
  by_cases h:m / 2 ^ e%2=1
  · simp [h]
  · have:m / 2 ^ e%2=0:=by omega
    simp [this]
noncomputable def mOf (ns:List Nat):Nat:=ns.foldl (fun m n=>m ||| 2 ^ (n - 1)) 0
theorem mOf_snoc (ns:List Nat) (n:Nat):mOf (ns++[n])=mOf ns ||| 2 ^ (n - 1):=by unfold mOf;rw [List.foldl_append];rfl
theorem mOf_bit (ns:List Nat) (i:Nat):(mOf ns).testBit i=ns.any fun n=>decide (n - 1=i):=by
  refine snoc_ind (p:=fun ns=>(mOf ns).testBit i=ns.any fun n=>decide (n - 1=i)) (by simp [mOf]) (fun l a ih=> ?_) ns
  · rw [mOf_snoc,Nat.testBit_or,ih,List.any_append,Nat.testBit_two_pow]
    simp
noncomputable def bits (m:Nat):Nat:=if m=0 then 0 else m.log2+1
theorem bits_lt (m:Nat):m<2 ^ bits m:=by
  unfold bits
  split
  · subst_vars;decide
  · exact Nat.lt_log2_self
theorem bits_le {m w:Nat} (h:m<2 ^ w):bits m≤w:=by
  unfold bits
  split
  · exact Nat.zero_le _
  · rename_i h0
    exact (Nat.log2_lt h0).mpr h
noncomputable def nOf (m:Nat):List Nat:=((List.range (bits m)).filter m.testBit).map (· + 1)
theorem nOf_mem (m n:Nat):n∈nOf m↔1≤n∧m.testBit (n - 1)=true:=by
  unfold nOf
  simp only [List.mem_map,List.mem_filter,List.mem_range]
  constructor
  · rintro ⟨k,⟨_,h⟩,rfl⟩
    exact ⟨by omega,by simpa using h⟩
  · rintro ⟨h1,h2⟩
    refine ⟨n - 1,⟨?_,h2⟩,by omega⟩
    rcases Nat.lt_or_ge (n - 1) (bits m) with q | q
    · exact q
    · rw [Nat.testBit_lt_two_pow (Nat.lt_of_lt_of_le (bits_lt m) (Nat.pow_le_pow_right (by decide) q))] at h2
      cases h2
theorem nOf_wide {m w:Nat} (h:m<2 ^ w):nOf m=((List.range w).filter m.testBit).map (· + 1):=by
  unfold nOf
  have hb:=bits_le h
  obtain ⟨d,rfl⟩:∃ d,w=bits m+d:=⟨w - bits m,by omega⟩
  congr 1
  rw [List.range_add,List.filter_append]
  have e:((List.range d).map (bits m+ ·)).filter m.testBit=[]:=by
    rw [List.filter_eq_nil_iff]
    intro x hx
    obtain ⟨k,_,rfl⟩:=List.mem_map.mp hx
    rw [Nat.testBit_lt_two_pow (Nat.lt_of_lt_of_le (bits_lt m) (Nat.pow_le_pow_right (by decide) (Nat.le_add_right _ _)))]
    simp
  rw [e,List.append_nil]
theorem mOf_nOf (m:Nat):mOf (nOf m)=m:=by
  refine Nat.eq_of_testBit_eq fun i=> ?_
  rw [mOf_bit]
  rw [Bool.eq_iff_iff,List.any_eq_true]
  constructor
  · rintro ⟨n,hn,e⟩
    have:=(nOf_mem m n).mp hn
    rw [← of_decide_eq_true e]
    exact this.2
  · intro h
    exact ⟨i+1,(nOf_mem m (i+1)).mpr ⟨by omega,by simpa using h⟩,by simp⟩
end MM
namespace L2
open PySem PySem.Spec PyProof.Rows
section
variable {X:Cx}
theorem pe_gI {x:Str} {i:Int} {pos:Pos} (h:∃ t,X.mg x=some (.int i t)) (hg:Gl X x:=by rfl) (hd:(x == ("__debug__":Str))=false:=by decide):PE X (.Name x pos) (tC (.int i)):=by
  obtain ⟨t,e⟩:=h
  exact pe_glob hg e ⟨t,rfl⟩ hd
end
section
variable {H:Hp} {Q:VK} {σ:St} {td ty tv:TE} {D:Ends} {a:Addr} {kvs:List (Key × V)}
end
section
variable {H:Hp} {Q:VK} {σ:St} {K:PySem.W.Frag} {to:TE} {t:TA} {r:V→List V→Hp→VK→Prop} {T:String} {l p q:Addr} {xs ys:List V} {y:V}
theorem rd_bm (h:to σ H fun x H1=>tyV K T x H1∧t σ H1 fun xs H2=>r x xs H2 Q):tBM K T r to t σ H Q:=h
theorem tyL {B:Prop} (c:SqL K H l xs) (h:B):tyV K "list" (.ref l) H∧B:=⟨.inl ⟨rfl,xs,c⟩,h⟩
theorem rd_app (c:H l=some (.lst xs)) (b:xs.length<16777216) (h:Q .non (upd H l (.lst (xs++[y])))):rAppend (.ref l) [y] H Q:=⟨l,xs,y,rfl,rfl,c,by rw [sizeLine_eq];exact b,h⟩
theorem rd_cat (c:SqL K H l xs) (d:SqL K H p ys) (b:xs.length+ys.length≤16777216) (h:∀ q,H q=none→Q (.ref q) (upd H q (.lst (xs++ys)))):rCatS K (.ref l) (.ref p) H Q:=⟨l,p,xs,ys,rfl,rfl,c,d,by rw [sizeLine_eq];exact b,h⟩
theorem rd_rep {k:Int} (c:H l=some (.lst xs)) (b1:0≤k) (b2:k≤100000) (b3:xs.length≤100) (h:∀ q,H q=none→Q (.ref q) (upd H q (.lst (List.replicate k.toNat xs).flatten))):rRep (.ref l) (.int k) H Q:=
  ⟨l,k,xs,rfl,rfl,c,by omega,by omega,by
    rw [sizeLine_eq]
    have h1:k.toNat≤100000:=by omega
    exact Nat.le_trans (Nat.mul_le_mul b3 h1) (by decide),h⟩
theorem rd_eqLI {as bs:List Int} (c:SqL K H l (as.map V.int)) (d:SqL K H p (bs.map V.int)) (h:Q (.bl (decide (as=bs))) H):rEqL K false (.ref l) (.ref p) H Q:=
  ⟨l,p,_,_,rfl,rfl,c,d,flat_int as,flat_int bs,by rw [eqVs_int];exact h⟩
theorem rd_neLI {as bs:List Int} (c:SqL K H l (as.map V.int)) (d:SqL K H p (bs.map V.int)) (h:Q (.bl (!decide (as=bs))) H):rEqL K true (.ref l) (.ref p) H Q:=
  ⟨l,p,_,_,rfl,rfl,c,d,flat_int as,flat_int bs,by rw [eqVs_int];exact h⟩
theorem rd_listOf {z:Addr} (c:SqL K H z xs) (h:∀ q,H q=none→Q (.ref q) (upd H q (.lst xs))):rListOf K [.ref z] H Q:=⟨z,xs,rfl, .inl c,h⟩
theorem rd_listOfT {z:Addr} (c:SqT K H z xs) (h:∀ q,H q=none→Q (.ref q) (upd H q (.lst xs))):rListOf K [.ref z] H Q:=⟨z,xs,rfl, .inr c,h⟩
theorem rd_tupOf {z:Addr} (c:SqL K H z xs) (h:∀ q,H q=none→Q (.ref q) (upd H q (.tup xs))):rTupleOf K [.ref z] H Q:=⟨z,xs,rfl, .inl ⟨c,h⟩⟩
end
end L2
namespace L2
open PySem
open Sem (wp)
open AutoSeq1 (wpAny_loadPart')
section
variable {prog:Program} {w:World} {A:Around} {E:Value→Shared→Prop} {s:Shared}
end
end L2
namespace L2
open PySem PySem.Spec PyProof.Rows
section
variable {X:Cx} {elts:List Expr} {k:Nat} {tpos:Pos} {K:PySem.W.Frag}
end
noncomputable def Isq (tp:Bool) (K:PySem.W.Frag) (a:Addr):It:=if tp=true then Itt K a else Itl K a
section
variable {X:Cx} {tg:Expr} {K:PySem.W.Frag}
noncomputable def iSq (K:PySem.W.Frag) (tl:TE):TI:=fun σ H R=>tl σ H fun x H1=>∃ tp a,x= .ref a∧(∃ xs,SqS tp K H1 a xs)∧R (Isq tp K a) H1
theorem pi_sq {l:Expr} {tl:TE} (hl:PE X l tl) (hK:X.K=K:=by rfl):PI X tg l (iSq K tl):=by
  subst hK
  intro pins s σ H R I h
  refine thn (hl pins s σ H _ I h) fun v s1 ⟨x,H1,I1,r1,q1⟩=> ?_
  obtain ⟨tp,a,e,⟨xs,hq⟩,q⟩:=q1
  subst e
  cases r1
  cases tp with
  | false=>
    obtain ⟨its,rv,p,hz⟩:=I1.list (show SqL X.K H1 a xs from hq)
    refine wpAny_pyIter_list p.isList ?_
    refine ⟨s1.heap.objs.size,[s1.heap.objs.size],_,_,H1,rfl,I1.kept (t':=s1.toks) fun b o e=>Heap.get?_push_of_some _ e,turn_list a _,⟨_,Heap.get?_push_size _ rfl,rfl,rfl⟩,fun b hb=> ?_,q⟩
    have e:b=s1.heap.objs.size:=by simpa using hb
    subst e
    exact I1.fpOk (Nat.le_refl _) (I1.hok.fresh (Nat.le_refl _))
  | true=>
    obtain ⟨its,rv,p,hz⟩:=I1.tuple (show SqT X.K H1 a xs from hq)
    refine wpAny_pyIter_tuple (show s1.heap.IsTuple a its.toArray from p) ?_
    refine ⟨s1.heap.objs.size,[s1.heap.objs.size],_,_,H1,rfl,I1.kept (t':=s1.toks) fun b o e=>Heap.get?_push_of_some _ e,turn_tuple a _,⟨_,Heap.get?_push_size _ rfl,rfl,rfl⟩,fun b hb=> ?_,q⟩
    have e:b=s1.heap.objs.size:=by simpa using hb
    subst e
    exact I1.fpOk (Nat.le_refl _) (I1.hok.fresh (Nat.le_refl _))
end
structure FSrc (J:It) (g:TG) (H:Hp) (n:Nat) (set:Nat→St→St):Prop where
  go:∀ i H',i<n→Same H H'→J.go i H'
  stop:∀ H',Same H H'→J.stop n H'
  yld:∀ i σ H' x H'' (R:St→Hp→Prop),i<n→Same H H'→J.yld i H' x H''→(∀ H3,Same H' H3→R (set i σ) H3)→g x σ H'' R
theorem for_src {J:It} {g:TG} {H:Hp} {n:Nat} {set:Nat→St→St} {tb:TS} {D:Ends} {σ:St} (S:FSrc J g H n set) (Pv:Nat→St→Hp→Prop) (h0:Pv 0 σ H) (hk:∀ i σ H',Pv i σ H'→Same H H')
    (hs:∀ i σ H' H3,i<n→Pv i σ H'→Same H' H3→tb { D with nx:=Pv (i+1),ct:=Pv (i+1),bk:=D.nx } (set i σ) H3) (hd:∀ σ H',Pv n σ H'→D.nx σ H'):
    ∃ W:Nat→Nat→St→Hp→Prop,(∃ m,W 0 m σ H)∧∀ i m σ H,W i m σ H→
      (J.stop i H∧D.nx σ H)∨(J.go i H∧∃ N:St→Hp→Prop,(∀ σ' H',N σ' H'→∃ m',m'<m∧W (i+1) m' σ' H')∧∀ x H',J.yld i H x H'→g x σ H' fun σ2 H2=>tb { D with nx:=N,ct:=N,bk:=D.nx } σ2 H2):=by
  refine ⟨fun i m σ H'=>m=n - i∧i≤n∧Pv i σ H',⟨n,by simp,Nat.zero_le _,h0⟩,?_⟩
  rintro i m σ H1 ⟨rfl,hi,p⟩
  by_cases hlt:i<n
  · exact .inr ⟨S.go i H1 hlt (hk _ _ _ p),Pv (i+1),fun σ' H' p'=>⟨n - (i+1),by omega,rfl,hlt,p'⟩,fun x H' y=>S.yld i σ H1 x H' _ hlt (hk _ _ _ p) y fun H3 s3=>hs i σ H1 H3 hlt p s3⟩
  · have e:i=n:=by omega
    subst e
    exact .inl ⟨S.stop H1 (hk _ _ _ p),hd σ H1 p⟩
section
variable {K:PySem.W.Frag} {H:Hp} {a b:Addr} {xs zs:List V} {tp t1 t2:Bool} {i1 i2:Nat}
theorem fs_sq (h:SqS tp K H a xs):FSrc (Isq tp K a) (gName i1) H xs.length (fun i σ=>σ.set i1 (some (xs.getD i .non))):=by
  cases tp with
  | false=>exact {
      go:=fun i H' hi s=>⟨xs,xs[i],SqS.same (tp:=false) h s,by simp [hi]⟩
      stop:=fun H' s=>⟨xs,SqS.same (tp:=false) h s,Nat.le_refl _⟩
      yld:=fun i σ H' x H'' R hi s y k=>by
        obtain ⟨e,hv⟩:=y
        subst e
        have e:x=xs.getD i .non:=by
          rw [List.getD_eq_getElem?_getD,hv xs (SqS.same (tp:=false) h s)]
          rfl
        subst e
        exact k _ (Same.refl _) }
  | true=>exact {
      go:=fun i H' hi s=>⟨xs,xs[i],SqS.same (tp:=true) h s,by simp [hi]⟩
      stop:=fun H' s=>⟨xs,SqS.same (tp:=true) h s,Nat.le_refl _⟩
      yld:=fun i σ H' x H'' R hi s y k=>by
        obtain ⟨e,hv⟩:=y
        subst e
        have e:x=xs.getD i .non:=by
          rw [List.getD_eq_getElem?_getD,hv xs (SqS.same (tp:=true) h s)]
          rfl
        subst e
        exact k _ (Same.refl _) }
theorem fs_list (h:SqL K H a xs):FSrc (Itl K a) (gName i1) H xs.length (fun i σ=>σ.set i1 (some (xs.getD i .non))):=fs_sq (tp:=false) h
theorem fs_tup (h:SqT K H a xs):FSrc (Itt K a) (gName i1) H xs.length (fun i σ=>σ.set i1 (some (xs.getD i .non))):=fs_sq (tp:=true) h
theorem fs_range {lo:Int} {n:Nat}:FSrc (Itr lo n) (gName i1) H n (fun i σ=>σ.set i1 (some (.int (lo+i)))) where
  go:=fun i H' hi s=>hi
  stop:=fun H' s=>Nat.le_refl _
  yld:=fun i σ H' x H'' R hi s y k=>by
    obtain ⟨e,hv⟩:=y
    subst e hv
    exact k _ (Same.refl _)
end
end L2
namespace L2
open PySem PySem.Spec PyProof.Rows
theorem bA (a b:Nat):Builtin.bitAnd (a:Int) (b:Int)=((a &&& b:Nat):Int):=by
  rw [PyProof.Rows.bitAnd_pp (by omega) (by omega)]
  rfl
theorem bO (a b:Nat):Builtin.bitOr (a:Int) (b:Int)=((a ||| b:Nat):Int):=by
  have h:=MM.or_add_and a b
  rw [PyProof.Rows.bitOr_and,bA]
  omega
theorem bX (a b:Nat):Builtin.bitXor (a:Int) (b:Int)=((a ^^^ b:Nat):Int):=by
  have h:=MM.xor_eq a b
  show Builtin.bitOr (a:Int) b - Builtin.bitAnd (a:Int) b=_
  rw [bO,bA]
  omega
theorem pow_cast (n:Nat):(1:Int)*2 ^ n=((2 ^ n:Nat):Int):=by
  rw [Int.one_mul]
  push_cast
  rfl
section
variable {X:Cx}
end
section
variable {H:Hp} {Q:VK} {σ:St} {D:Ends} {te:TE} {ti:TIp} {i:Nat} {x:V}
theorem rd_aug (e:σ[i]?=some (some x)) (h:te σ H fun y H1=>ti x y H1 fun z H2=>D.nx (σ.set i (some z)) H2):tAug i te ti D σ H:=⟨x,e,h⟩
end
noncomputable abbrev nV (n:Nat):V:= .int (n:Nat)
theorem getD_nat {ns:List Nat} {i:Nat} (h:i<(ns.map nV).length):(ns.map nV).getD i .non= .int (ns.getD i 0:Nat):=by
  have h':i<ns.length:=by simpa using h
  simp [List.getD_eq_getElem?_getD,h']
theorem getD_int {ns:List Int} {i:Nat} (h:i<(ns.map V.int).length):(ns.map V.int).getD i .non= .int (ns.getD i 0):=by
  have h':i<ns.length:=by simpa using h
  simp [List.getD_eq_getElem?_getD,h']
theorem atI_natV {ns:List Nat} {k:Int} (h0:0≤k) (h1:k<ns.length):atI (ns.map nV) k=some (.int (ns.getD k.toNat 0:Nat)):=by
  obtain ⟨j,rfl⟩:∃ j:Nat,k=j:=⟨k.toNat,by omega⟩
  have h':j<ns.length:=by omega
  refine atI_nat ?_
  rw [show ((j:Int)).toNat=j by omega]
  simp [List.getD_eq_getElem?_getD,h']
theorem take_getD {ns:List Nat} {i:Nat} (h:i<ns.length):ns.take (i+1)=ns.take i++[ns.getD i 0]:=by
  rw [List.take_succ_eq_append_getElem h]
  simp [List.getD_eq_getElem?_getD,h]
theorem ints_comp {J:It} {g:TG} {σ0:St} {H:Hp} {n:Nat} {st:Nat→St} {te:TE} {Q:VK} {D:Addr} {G:Nat→Int} (S:SrcOk J g σ0 H n st) (hD:H D=none) (hn:n≤100000)
    (he:∀ i H' (R:VK),i<n→Same H H'→(∀ H3,Same H' H3→R (.int (G i)) H3)→te (st i) H' R)
    (hd:∀ H',Same H H'→H' D=some (.lst (((List.range n).map G).map V.int))→Q (.ref D) H'):CompW J σ0 g tYes te Q H D:=by
  refine comp_map (m:=0) (G:=fun i=> .int (G i)) S hD hn (fun i H' R hi s k=>he i H' R hi s fun H3 s3=>k H3 _ s3 (.int _)) fun H' ys s hl r=> ?_
  have e:(List.range n).map (fun i=>Dt.int (G i))=((List.range n).map G).map Dt.int:=by rw [List.map_map];rfl
  rw [e] at r
  obtain ⟨b,eb,hb,fb⟩:=ints_of r
  cases eb
  exact hd H' s hb
theorem bls_comp {J:It} {g:TG} {σ0:St} {H:Hp} {n:Nat} {st:Nat→St} {te:TE} {Q:VK} {D:Addr} {G:Nat→Bool} (S:SrcOk J g σ0 H n st) (hD:H D=none) (hn:n≤100000)
    (he:∀ i H' (R:VK),i<n→Same H H'→(∀ H3,Same H' H3→R (.bl (G i)) H3)→te (st i) H' R)
    (hd:∀ H',Same H H'→H' D=some (.lst (((List.range n).map G).map V.bl))→Q (.ref D) H'):CompW J σ0 g tYes te Q H D:=by
  refine comp_map (m:=0) (G:=fun i=> .bl (G i)) S hD hn (fun i H' R hi s k=>he i H' R hi s fun H3 s3=>k H3 _ s3 (.bl _)) fun H' ys s hl r=> ?_
  have e:ys=((List.range n).map G).map V.bl:=by
    cases r with
    | @lst _ _ vs _ q f b l ee=>
      rw [hl] at q
      cases q
      refine List.ext_getElem (by simpa using l) fun i h1 h2=> ?_
      have hi:i<n:=by simpa using h2
      have:=ee i ys[i] (.bl (G i)) (by simp [h1]) (by simp [hi])
      cases hv:ys[i] <;> rw [hv] at this <;> cases this
      simp
  rw [e] at hl
  exact hd H' s hl
end L2
namespace L2
open PySem PySem.Spec PyProof.Rows
noncomputable def MethF (P:Program) (w:World) (K:PySem.W.Frag) (mg:Str→Option Value) (base:Heap) (C:Addr) (m:Str) (k:Nat) (ps:List Str) (sp:Sp):Prop:=
  ∃ f fd,Cls K C∧Meth K C m f∧FnOk P w K mg base CX0 k f fd ps sp∧Binds K fd ps []
section
variable {X:Cx} {x m:Str} {C:Addr} {k:Nat} {ps:List Str} {sp:Sp} {o e:Expr} {es:List Expr} {t:TA} {ta:TE} {p pos apos:Pos}
theorem pe_methF {pl:Sem Bool} (he:PE X o ta) (h:MethF X.prog X.w X.K X.mg X.base C m k ps sp) (hr:Room k X.A) (ha:PA X (e::es) t)
    (hst:starEach (e::es) X.env=(false,eval e X.env)::starEach es X.env:=by rfl) (hpl:(backTo pos (starEach es X.env)).any (·.1)=false:=by rfl)
    (ht:eval (.Call (.Attribute o m apos) (e::es) [] pos) X.env=(do
      let ov ← eval o X.env
      standAt apos.atName
      let (f,first) ← holding [ov] (getMethod ov m pl)
      callWith pos f first (backTo pos (starEach (e::es) X.env)) (backToKw pos (keywordEach [] X.env))):=by rfl):
    PE X (.Call (.Attribute o m apos) (e::es) [] pos) (tMeth C m sp [] E0 ta t):=by
  obtain ⟨f,fd,c,hm,F,hb⟩:=h
  exact pe_meth (pl:=pl) he c hm F hr hb .nil pass0 ha hst hpl ht
theorem pe_methF0 {pl:Sem Bool} (he:PE X o ta) (h:MethF X.prog X.w X.K X.mg X.base C m k ps sp) (hr:Room k X.A)
    (ht:eval (.Call (.Attribute o m apos) [] [] pos) X.env=(do
      let ov ← eval o X.env
      standAt apos.atName
      let (f,first) ← holding [ov] (getMethod ov m pl)
      callWith pos f first (backTo pos (starEach [] X.env)) (backToKw pos (keywordEach [] X.env))):=by rfl):
    PE X (.Call (.Attribute o m apos) [] [] pos) (tMeth C m sp [] E0 ta tNil):=by
  obtain ⟨f,fd,c,hm,F,hb⟩:=h
  exact pe_meth0 (pl:=pl) he c hm F hr hb .nil pass0 ht
theorem pe_gC {x:Str} {C:Addr} {pos:Pos} (h:X.mg x=some (.ref C)) (hg:Gl X x:=by rfl) (hd:(x == ("__debug__":Str))=false:=by decide):PE X (.Name x pos) (tC (.ref C)):=pe_glob hg h rfl hd
noncomputable def rIsinC (K:PySem.W.Frag):List V→Hp→VK→Prop:=fun xs H Q=>∃ (y:V) (C:Addr) (t:Value) (b:Bool),xs=[y, .ref C]∧TyOf K H y t∧PySem.W.kitOne K t (.ref C)=some b∧Q (.bl b) H
theorem k_isinC {K:PySem.W.Frag} (hK:X.K=K:=by rfl):CallR X (.builtin "isinstance") (rIsinC K):=by
  subst hK
  intro pins s σ H xs us Q I r h
  obtain ⟨y,C,t,b,rfl,ty,e,q⟩:=h
  obtain ⟨u,c,rfl,rx,rc⟩:=vals2 r
  cases rc
  exact isinst_ok I rx ty e fun tk=>⟨.bl b,H,I.tok tk,rfl,q⟩
end
structure Kind (K:PySem.W.Frag) (C:Addr):Prop where
  cl:Cls K C
  ha:PySem.W.findIn K (.ref C) "__class__"=some (some (.builtin "object.__class__"))
  hn:PySem.W.specialIn K (.builtin "object.__class__") "__get__"=some (some (.builtin "getset_descriptor.__get__"))
  htk:PySem.W.takesIn K (.builtin "object.__class__")=some true
  hm:PySem.W.mroIn K C (.type "object")=some true
theorem Kind.ty {K:PySem.W.Frag} {C a dx:Addr} {H:Hp} {fs:List (Str × V)} (k:Kind K C) (e:H a=some (.ins C dx fs)):TyOf K H (.ref a) (.ref C):= .ins e k.cl k.ha k.hn k.htk k.hm
section
variable {K:PySem.W.Frag} {H:Hp} {Q:VK} {σ:St} {D:Ends} {te tv:TE} {t:TA} {a C dx:Addr} {fs:List (Str × V)} {f:Str} {v:V} {sp:Sp}
theorem rd_isinC {y:V} {ty:Value} {b:Bool} (c:TyOf K H y ty) (e:PySem.W.kitOne K ty (.ref C)=some b) (h:Q (.bl b) H):rIsinC K [y, .ref C] H Q:=⟨y,C,ty,b,rfl,c,e,h⟩
theorem rd_fld (h:te σ H fun x H1=>∃ a C dx fs v,x= .ref a∧H1 a=some (.ins C dx fs)∧Cls K C∧NoAttr K C f∧fs.lookup f=some v∧Q v H1):tFld K te f σ H Q:=h
theorem rd_put (h:tv σ H fun y H1=>te σ H1 fun x H2=>∃ a C dx fs,x= .ref a∧H2 a=some (.ins C dx fs)∧Cls K C∧NoAttr K C f∧fs.length<1000∧D.nx σ (upd H2 a (.ins C dx (putF f y fs)))):sFld K te tv f D σ H:=h
theorem rd_set {y:V} (e:H a=some (.ins C dx fs)) (c:Cls K C) (n:NoAttr K C f) (l:fs.length<1000) (h:D.nx σ (upd H a (.ins C dx (putF f y fs)))):∃ a' C' dx' fs',V.ref a= .ref a'∧H a'=some (.ins C' dx' fs')∧Cls K C'∧NoAttr K C' f∧fs'.length<1000∧D.nx σ (upd H a' (.ins C' dx' (putF f y fs'))):=⟨a,C,dx,fs,rfl,e,c,n,l,h⟩
theorem rd_make (h:t σ H fun vs H1=>∀ x dx,H1 x=none→H1 dx=none→dx≠x→sp (.ref x::vs) (upd (upd H1 dx (.own x)) x (.ins C dx [])) (fun v H2=>v= .non∧Q (.ref x) H2) E0):tMake C sp [] E0 t σ H Q:=by
  unfold tMake
  simpa using h
theorem rd_meth {m:Str} (h:te σ H fun x H1=>∃ a dx fs,x= .ref a∧H1 a=some (.ins C dx fs)∧fs.lookup m=none∧t σ H1 fun vs H2=>sp (x::vs) H2 Q E0):tMeth C m sp [] E0 te t σ H Q:=by
  unfold tMeth
  simpa using h
end
theorem rd_chain {r r':R2} {ta tb tc:TE} {σ:St} {H:Hp} {Q:VK} (h:ta σ H fun x H1=>tb σ H1 fun y H2=>r x y H2 fun z H3=>∃ k,z= .bl k∧(if k=true then tc σ H3 fun w' H4=>r' y w' H4 Q else Q (.bl false) H3)):tChain r r' ta tb tc σ H Q:=h
noncomputable def amongV (x:V) (a b:Int):Bool:=match x with | .int i=>decide (a≤i)&&decide (i≤b) | _=>false
theorem fin_b {b b':Bool} {Q:VK} {H:Hp} (e:b=b') (h:Q (.bl b') H):Q (.bl b) H:=e▸h
theorem iteC {b:Bool} {A B:Prop} (h1:b=true→A) (h2:b=false→B):if b=true then A else B:=by
  cases b with
  | true=>exact h1 rfl
  | false=>exact h2 rfl
theorem same_obj {H:Hp} {x dx:Addr} {o:HO} {u:HO} (h1:H x=none) (h2:H dx=none):Same H (upd (upd H dx u) x o):=fun b q e=>by
  rw [upd_ne (ne_of_none e h1),upd_ne (ne_of_none e h2)]
  exact e
end L2
namespace L2
open PySem PySem.Spec PyProof.Rows
mutual
noncomputable def eqD:Dt→Dt→Bool
  | .non, .non=>true
  | .bl a, .bl b=>a == b
  | .int a, .int b=>a == b
  | .str a, .str b=>a == b
  | .bl a, .int b=>(if a then 1 else 0) == b
  | .int a, .bl b=>a == (if b then 1 else 0)
  | .lst xs, .lst ys=>eqDs xs ys
  | .tup xs, .tup ys=>eqDs xs ys
  | _,_=>false
noncomputable def eqDs:List Dt→List Dt→Bool
  | [],[]=>true
  | x::xs,y::ys=>eqD x y&&eqDs xs ys
  | _,_=>false
end
theorem eqDs_len:∀ {xs ys:List Dt},xs.length≠ys.length→eqDs xs ys=false
  | [],[],h=>absurd rfl h
  | [],_::_,_=>by unfold eqDs;rfl
  | _::_,[],_=>by unfold eqDs;rfl
  | x::xs,y::ys,h=>by
    unfold eqDs
    rw [eqDs_len (xs:=xs) (ys:=ys) (fun e=>h (by simp [e])),Bool.and_false]
theorem eqDs_all:∀ {xs ys:List Dt},xs.length=ys.length→eqDs xs ys=(List.range xs.length).all fun i=>eqD (xs.getD i .non) (ys.getD i .non)
  | [],[],_=>by unfold eqDs;rfl
  | [],_::_,h=>by simp at h
  | _::_,[],h=>by simp at h
  | x::xs,y::ys,h=>by
    unfold eqDs
    rw [eqDs_all (xs:=xs) (ys:=ys) (by simpa using h),List.length_cons,List.range_succ_eq_map,List.all_cons,List.all_map]
    rfl
mutual
theorem eqD_refl:∀ d:Dt,eqD d d=true
  | .non=>by unfold eqD;rfl
  | .bl a=>by unfold eqD;simp
  | .int a=>by unfold eqD;simp
  | .str a=>by unfold eqD;simp
  | .lst xs=>by unfold eqD;exact eqDs_refl xs
  | .tup xs=>by unfold eqD;exact eqDs_refl xs
theorem eqDs_refl:∀ d:List Dt,eqDs d d=true
  | []=>by unfold eqDs;rfl
  | x::xs=>by unfold eqDs;rw [eqD_refl x,eqDs_refl xs];rfl
end
theorem Rp.inj {H:Hp} {F G:Addr→Prop} {n m:Nat} {v:V} {d e:Dt} (r:Rp H F n v d) (r2:Rp H G m v e):d=e:=by
  induction r generalizing m e with
  | non=>cases r2;rfl
  | bl b=>cases r2;rfl
  | int i=>cases r2;rfl
  | str z=>cases r2;rfl
  | @lst n a vs ds h f b l el ih=>
    cases r2 with
    | @lst m _ vs2 ds2 h2 f2 b2 l2 el2=>
      rw [h] at h2
      cases h2
      congr 1
      refine List.ext_getElem (by omega) fun i h1 h3=> ?_
      have hv:i<vs.length:=by omega
      exact ih i vs[i] ds[i] (by simp [hv]) (by simp [h1]) (el2 i vs[i] ds2[i] (by simp [hv]) (by simp [h3]))
    | tup h2 _ _ _=>rw [h] at h2;cases h2
  | @tup n a vs ds h b l el ih=>
    cases r2 with
    | @tup m _ vs2 ds2 h2 b2 l2 el2=>
      rw [h] at h2
      cases h2
      congr 1
      refine List.ext_getElem (by omega) fun i h1 h3=> ?_
      have hv:i<vs.length:=by omega
      exact ih i vs[i] ds[i] (by simp [hv]) (by simp [h1]) (el2 i vs[i] ds2[i] (by simp [hv]) (by simp [h3]))
    | lst h2 _ _ _ _=>rw [h] at h2;cases h2
section
variable {X:Cx} {pins:List (Addr × Obj)} {σ:St} {H:Hp} {s:Shared}
theorem at_item {F G:Addr→Prop} {n:Nat} {xs ys:List V} {ds es:List Dt} {its its2:List Value} {A:Around} (r:Vals xs its) (r2:Vals ys its2) (l1:xs.length=ds.length) (l2:ys.length=es.length)
    (el:∀ (i:Nat) (v:V) (d:Dt),xs[i]?=some v→ds[i]?=some d→Rp H F n v d) (el2:∀ (i:Nat) (v:V) (d:Dt),ys[i]?=some v→es[i]?=some d→Rp H G n v d)
    (ih:∀ {v u:V} {d e:Dt} {rv ru:Value},Rp H F n v d→Rp H G n u e→RelV v rv→RelV u ru→SeqAt.EqAt A s rv ru (eqD d e)):
    ∀ j (h1:j<its.toArray.size) (h2:j<its2.toArray.size),SeqAt.EqAt A s its.toArray[j] its2.toArray[j] (eqD (ds.getD j .non) (es.getD j .non)):=fun j h1 h2=>by
  have k1:=r.length
  have k2:=r2.length
  have h1':j<its.length:=by simpa using h1
  have h2':j<its2.length:=by simpa using h2
  have g1:xs[j]?=some (xs.getD j .non):=by rw [List.getD_eq_getElem?_getD,List.getElem?_eq_getElem (by omega)];rfl
  have g2:ys[j]?=some (ys.getD j .non):=by rw [List.getD_eq_getElem?_getD,List.getElem?_eq_getElem (by omega)];rfl
  have d1:ds[j]?=some (ds.getD j .non):=by rw [List.getD_eq_getElem?_getD,List.getElem?_eq_getElem (by omega)];rfl
  have d2:es[j]?=some (es.getD j .non):=by rw [List.getD_eq_getElem?_getD,List.getElem?_eq_getElem (by omega)];rfl
  obtain ⟨u,e1,ru⟩:=r.get g1
  obtain ⟨u2,e2,ru2⟩:=r2.get g2
  have q1:its.toArray[j]=u:=by rw [List.getElem?_eq_getElem h1'] at e1;simpa using Option.some.inj e1
  have q2:its2.toArray[j]=u2:=by rw [List.getElem?_eq_getElem h2'] at e2;simpa using Option.some.inj e2
  rw [q1,q2]
  exact ih (el j _ _ g1 d1) (el2 j _ _ g2 d2) ru ru2
theorem in1_units (A:Around):A.in1.units=A.units+1:=rfl
theorem eqAt_D (I:Inv X pins σ H s) {F G:Addr→Prop}:∀ {n:Nat} {A:Around} {v u:V} {d e:Dt} {rv ru:Value},Rp H F n v d→Rp H G n u e→RelV v rv→RelV u ru→A.units+n<cLine→SeqAt.EqAt A s rv ru (eqD d e):=by
  intro n
  have sc:∀ {n m:Nat} {A:Around} {v u:V} {d e:Dt} {rv ru:Value},Rp H F n v d→Rp H G m u e→(isLst d||isTup d)=false→(isLst e||isTup e)=false→RelV v rv→RelV u ru→SeqAt.EqAt A s rv ru (eqD d e):=by
    intro n m A v u d e rv ru r r2 n1 n2 rr rr2
    cases r with
    | non=>
      cases rr
      cases r2 with
      | non=>
        cases rr2
        simp only [eqD]
        exact (show SeqAt.EqAt A s Value.none Value.none true from SeqAt.EqAt.same _)
      | bl x2=>
        cases rr2
        simp only [eqD]
        exact SeqAt.EqAt.none_bool _
      | int x2=>
        obtain ⟨t2,rfl⟩:=rr2
        simp only [eqD]
        exact SeqAt.EqAt.none_int _ _
      | str x2=>
        obtain ⟨t2,rfl⟩:=rr2
        simp only [eqD]
        exact SeqAt.EqAt.none_str _ _
      | lst _ _ _ _ _=>cases n2
      | tup _ _ _ _=>cases n2
    | bl x1=>
      cases rr
      cases r2 with
      | non=>
        cases rr2
        simp only [eqD]
        exact SeqAt.EqAt.bool_none _
      | bl x2=>
        cases rr2
        simp only [eqD]
        exact SeqAt.EqAt.bool_bool _ _
      | int x2=>
        obtain ⟨t2,rfl⟩:=rr2
        simp only [eqD]
        exact SeqAt.EqAt.bool_int _ _ _
      | str x2=>
        obtain ⟨t2,rfl⟩:=rr2
        simp only [eqD]
        exact SeqAt.EqAt.bool_str _ _ _
      | lst _ _ _ _ _=>cases n2
      | tup _ _ _ _=>cases n2
    | int x1=>
      obtain ⟨t1,rfl⟩:=rr
      cases r2 with
      | non=>
        cases rr2
        simp only [eqD]
        exact SeqAt.EqAt.int_none _ _
      | bl x2=>
        cases rr2
        simp only [eqD]
        exact SeqAt.EqAt.int_bool _ _ _
      | int x2=>
        obtain ⟨t2,rfl⟩:=rr2
        simp only [eqD]
        exact SeqAt.EqAt.int_int _ _ _ _
      | str x2=>
        obtain ⟨t2,rfl⟩:=rr2
        simp only [eqD]
        exact SeqAt.EqAt.int_str _ _ _ _
      | lst _ _ _ _ _=>cases n2
      | tup _ _ _ _=>cases n2
    | str x1=>
      obtain ⟨t1,rfl⟩:=rr
      cases r2 with
      | non=>
        cases rr2
        simp only [eqD]
        exact SeqAt.EqAt.str_none _ _
      | bl x2=>
        cases rr2
        simp only [eqD]
        exact SeqAt.EqAt.str_bool _ _ _
      | int x2=>
        obtain ⟨t2,rfl⟩:=rr2
        simp only [eqD]
        exact SeqAt.EqAt.str_int _ _ _ _
      | str x2=>
        obtain ⟨t2,rfl⟩:=rr2
        simp only [eqD]
        exact SeqAt.EqAt.str_str _ _ _ _
      | lst _ _ _ _ _=>cases n2
      | tup _ _ _ _=>cases n2
    | lst _ _ _ _ _=>cases n1
    | tup _ _ _ _=>cases n1
  induction n with
  | zero=>
    intro A v u d e rv ru r r2 rr rr2 hu
    exact sc r r2 (by cases r <;> rfl) (by cases r2 <;> rfl) rr rr2
  | succ n ih=>
    intro A v u d e rv ru r r2 rr rr2 hu
    have hu':A.units<cLine:=by omega
    cases h1:(isLst d||isTup d) with
    | false=>
      cases h2:(isLst e||isTup e) with
      | false=>exact sc r r2 h1 h2 rr rr2
      | true=>
        cases r2 with
        | @lst _ b ys es q2 f2 b2 l2 el2=>
          obtain rfl:ru=Value.ref b:=rr2
          obtain ⟨its2,rv2,pl2,_⟩:=I.list (SqL.of q2)
          cases r with
          | non=>cases rr;simp only [eqD];exact SeqAt.EqAt.none_list pl2.isList hu'
          | bl x1=>cases rr;simp only [eqD];exact SeqAt.EqAt.bool_list _ pl2.isList hu'
          | int x1=>obtain ⟨t,rfl⟩:=rr;simp only [eqD];exact SeqAt.EqAt.int_list _ _ pl2.isList hu'
          | str x1=>obtain ⟨t,rfl⟩:=rr;simp only [eqD];exact SeqAt.EqAt.str_list _ _ pl2.isList hu'
          | lst _ _ _ _ _=>cases h1
          | tup _ _ _ _=>cases h1
        | @tup _ b ys es q2 b2 l2 el2=>
          obtain rfl:ru=Value.ref b:=rr2
          obtain ⟨its2,rv2,pl2,_⟩:=I.tuple (SqT.of q2)
          have pl2:s.heap.IsTuple b its2.toArray:=pl2
          cases r with
          | non=>cases rr;simp only [eqD];exact SeqAt.EqAt.none_tuple pl2 hu'
          | bl x1=>cases rr;simp only [eqD];exact SeqAt.EqAt.bool_tuple _ pl2 hu'
          | int x1=>obtain ⟨t,rfl⟩:=rr;simp only [eqD];exact SeqAt.EqAt.int_tuple _ _ pl2 hu'
          | str x1=>obtain ⟨t,rfl⟩:=rr;simp only [eqD];exact SeqAt.EqAt.str_tuple _ _ pl2 hu'
          | lst _ _ _ _ _=>cases h1
          | tup _ _ _ _=>cases h1
        | _=>cases h2
    | true=>
      cases r with
      | @lst _ a xs ds q1 f1 b1 l1 el1=>
        obtain rfl:rv=Value.ref a:=rr
        obtain ⟨its,rv1,pl,_⟩:=I.list (SqL.of q1)
        have k1:=rv1.length
        cases r2 with
        | @lst _ b ys es q2 f2 b2 l2 el2=>
          obtain rfl:ru=Value.ref b:=rr2
          obtain ⟨its2,rv2,pl2,_⟩:=I.list (SqL.of q2)
          have k2:=rv2.length
          by_cases hab:a=b
          · subst hab
            have e:=(Rp.lst (n:=n) q1 f1 b1 l1 el1).inj (Rp.lst (n:=n) q2 f2 b2 l2 el2)
            rw [e,eqD_refl]
            exact SeqAt.EqAt.same _
          · refine SeqAt.EqAt.of_refs hab ?_
            simp only [eqD]
            by_cases hl:ds.length=es.length
            · rw [eqDs_all hl]
              have q:=SeqAt.RcAt.lists (A:=A) (e:=fun i=>eqD (ds.getD i .non) (es.getD i .non)) pl.isList pl2.isList (by simp;omega) hu' (at_item rv1 rv2 l1 l2 el1 el2 fun r r2 rr rr2=>ih r r2 rr rr2 (by rw [in1_units];omega))
              rw [show its.toArray.size=ds.length by simp;omega] at q
              exact q
            · rw [eqDs_len hl]
              exact SeqAt.RcAt.lists_lengths pl.isList pl2.isList (by simp;omega) hu'
        | @tup _ b ys es q2 b2 l2 el2=>
          obtain rfl:ru=Value.ref b:=rr2
          obtain ⟨its2,rv2,pl2,_⟩:=I.tuple (SqT.of q2)
          simp only [eqD]
          exact SeqAt.EqAt.list_tuple pl.isList (show s.heap.IsTuple b its2.toArray from pl2) hu'
        | non=>cases rr2;simp only [eqD];exact SeqAt.EqAt.list_none pl.isList hu'
        | bl x1=>cases rr2;simp only [eqD];exact SeqAt.EqAt.list_bool _ pl.isList hu'
        | int x1=>obtain ⟨t,rfl⟩:=rr2;simp only [eqD];exact SeqAt.EqAt.list_int _ _ pl.isList hu'
        | str x1=>obtain ⟨t,rfl⟩:=rr2;simp only [eqD];exact SeqAt.EqAt.list_str _ _ pl.isList hu'
      | @tup _ a xs ds q1 b1 l1 el1=>
        obtain rfl:rv=Value.ref a:=rr
        obtain ⟨its,rv1,pl,_⟩:=I.tuple (SqT.of q1)
        have pl:s.heap.IsTuple a its.toArray:=pl
        have k1:=rv1.length
        cases r2 with
        | @tup _ b ys es q2 b2 l2 el2=>
          obtain rfl:ru=Value.ref b:=rr2
          obtain ⟨its2,rv2,pl2,_⟩:=I.tuple (SqT.of q2)
          have pl2:s.heap.IsTuple b its2.toArray:=pl2
          have k2:=rv2.length
          by_cases hab:a=b
          · subst hab
            have e:=(Rp.tup (n:=n) (F:=F) q1 b1 l1 el1).inj (Rp.tup (n:=n) (F:=G) q2 b2 l2 el2)
            rw [e,eqD_refl]
            exact SeqAt.EqAt.same _
          · refine SeqAt.EqAt.of_refs hab ?_
            simp only [eqD]
            have q:=SeqAt.RcAt.tuples (A:=A) (e:=fun i=>eqD (ds.getD i .non) (es.getD i .non)) pl pl2 hu' (at_item rv1 rv2 l1 l2 el1 el2 fun r r2 rr rr2=>ih r r2 rr rr2 (by rw [in1_units];omega))
            have e1:its.toArray.size=ds.length:=by simp;omega
            have e2:its2.toArray.size=es.length:=by simp;omega
            rw [e1,e2] at q
            by_cases hl:ds.length=es.length
            · rw [eqDs_all hl]
              rw [← hl,Nat.min_self,beq_self_eq_true,Bool.and_true] at q
              exact q
            · rw [eqDs_len hl]
              rw [beq_eq_false_iff_ne.mpr hl,Bool.and_false] at q
              exact q
        | @lst _ b ys es q2 f2 b2 l2 el2=>
          obtain rfl:ru=Value.ref b:=rr2
          obtain ⟨its2,rv2,pl2,_⟩:=I.list (SqL.of q2)
          simp only [eqD]
          exact SeqAt.EqAt.tuple_list pl pl2.isList hu'
        | non=>cases rr2;simp only [eqD];exact SeqAt.EqAt.tuple_none pl hu'
        | bl x1=>cases rr2;simp only [eqD];exact SeqAt.EqAt.tuple_bool _ pl hu'
        | int x1=>obtain ⟨t,rfl⟩:=rr2;simp only [eqD];exact SeqAt.EqAt.tuple_int _ _ pl hu'
        | str x1=>obtain ⟨t,rfl⟩:=rr2;simp only [eqD];exact SeqAt.EqAt.tuple_str _ _ pl hu'
      | _=>cases h1
noncomputable def rEqD (neg:Bool):R2:=fun x y H Q=>∃ (n:Nat) (d e:Dt),n≤30∧Rp H FT n x d∧Rp H FT n y e∧(isLst d&&isLst e||isTup d&&isTup e)=true∧Q (.bl (if neg then !eqD d e else eqD d e)) H
theorem op_eqD (hu:X.A.units+64<cLine):OpR X (compareOp .Eq) (rEqD false):=by
  intro pins s σ H x y v u Q I rx ry h
  obtain ⟨n,d,e,hn,r,r2,hs,q⟩:=h
  cases r with
  | @lst m a xs ds q1 f1 b1 l1 el1=>
    cases r2 with
    | @lst _ b ys es q2 f2 b2 l2 el2=>
      obtain rfl:v=Value.ref a:=rx
      obtain rfl:u=Value.ref b:=ry
      obtain ⟨its,rv1,pl,_⟩:=I.list (SqL.of q1)
      obtain ⟨its2,rv2,pl2,_⟩:=I.list (SqL.of q2)
      have k1:=rv1.length
      have k2:=rv2.length
      have q:Q (.bl (eqDs ds es)) H:=by
        have q:=q
        unfold eqD at q
        exact q
      by_cases hl:ds.length=es.length
      · refine SeqAt.eq_listAt (e:=fun i=>eqD (ds.getD i .non) (es.getD i .non)) pl.isList pl2.isList (by simp;omega) (by omega) (at_item rv1 rv2 l1 l2 el1 el2 fun r r2 rr rr2=>eqAt_D I r r2 rr rr2 (by rw [in1_units];omega)) ⟨.bl _,H,I,rfl,?_⟩
        rw [show its.toArray.size=ds.length by simp;omega, ← eqDs_all hl]
        exact q
      · refine SeqAt.eq_list_lengthsAt pl.isList pl2.isList (by simp;omega) (by omega) ⟨.bl _,H,I,rfl,?_⟩
        rw [← eqDs_len hl]
        exact q
    | _=>cases hs
  | @tup m a xs ds q1 b1 l1 el1=>
    cases r2 with
    | @tup _ b ys es q2 b2 l2 el2=>
      obtain rfl:v=Value.ref a:=rx
      obtain rfl:u=Value.ref b:=ry
      obtain ⟨its,rv1,pl,_⟩:=I.tuple (SqT.of q1)
      obtain ⟨its2,rv2,pl2,_⟩:=I.tuple (SqT.of q2)
      have k1:=rv1.length
      have k2:=rv2.length
      have q:Q (.bl (eqDs ds es)) H:=by
        have q:=q
        unfold eqD at q
        exact q
      refine SeqAt.eq_tupleAt (e:=fun i=>eqD (ds.getD i .non) (es.getD i .non)) (show s.heap.IsTuple a its.toArray from pl) (show s.heap.IsTuple b its2.toArray from pl2) (by omega) (at_item rv1 rv2 l1 l2 el1 el2 fun r r2 rr rr2=>eqAt_D I r r2 rr rr2 (by rw [in1_units];omega)) ⟨.bl _,H,I,rfl,?_⟩
      have e1:its.toArray.size=ds.length:=by simp;omega
      have e2:its2.toArray.size=es.length:=by simp;omega
      rw [e1,e2]
      by_cases hl:ds.length=es.length
      · rw [← hl,Nat.min_self,beq_self_eq_true,Bool.and_true, ← eqDs_all hl]
        exact q
      · rw [beq_eq_false_iff_ne.mpr hl,Bool.and_false, ← eqDs_len hl]
        exact q
    | _=>cases hs
  | _=>cases hs
theorem op_neD (hu:X.A.units+64<cLine):OpR X (compareOp .NotEq) (rEqD true):=by
  intro pins s σ H x y v u Q I rx ry h
  obtain ⟨n,d,e,hn,r,r2,hs,q⟩:=h
  cases r with
  | @lst m a xs ds q1 f1 b1 l1 el1=>
    cases r2 with
    | @lst _ b ys es q2 f2 b2 l2 el2=>
      obtain rfl:v=Value.ref a:=rx
      obtain rfl:u=Value.ref b:=ry
      obtain ⟨its,rv1,pl,_⟩:=I.list (SqL.of q1)
      obtain ⟨its2,rv2,pl2,_⟩:=I.list (SqL.of q2)
      have k1:=rv1.length
      have k2:=rv2.length
      have q:Q (.bl (!eqDs ds es)) H:=by
        have q:=q
        unfold eqD at q
        exact q
      by_cases hl:ds.length=es.length
      · refine SeqAt.RcNeAt.lists (e:=fun i=>eqD (ds.getD i .non) (es.getD i .non)) pl.isList pl2.isList (by simp;omega) (by omega) (at_item rv1 rv2 l1 l2 el1 el2 fun r r2 rr rr2=>eqAt_D I r r2 rr rr2 (by rw [in1_units];omega)) _ _ _ _ ⟨.bl _,H,I,rfl,?_⟩
        rw [show its.toArray.size=ds.length by simp;omega, ← eqDs_all hl]
        exact q
      · refine SeqAt.RcNeAt.lists_lengths pl.isList pl2.isList (by simp;omega) (by omega) _ _ _ _ ⟨.bl _,H,I,rfl,?_⟩
        rw [eqDs_len hl] at q
        exact q
    | _=>cases hs
  | @tup m a xs ds q1 b1 l1 el1=>
    cases r2 with
    | @tup _ b ys es q2 b2 l2 el2=>
      obtain rfl:v=Value.ref a:=rx
      obtain rfl:u=Value.ref b:=ry
      obtain ⟨its,rv1,pl,_⟩:=I.tuple (SqT.of q1)
      obtain ⟨its2,rv2,pl2,_⟩:=I.tuple (SqT.of q2)
      have k1:=rv1.length
      have k2:=rv2.length
      have q:Q (.bl (!eqDs ds es)) H:=by
        have q:=q
        unfold eqD at q
        exact q
      refine SeqAt.RcNeAt.tuples (e:=fun i=>eqD (ds.getD i .non) (es.getD i .non)) (show s.heap.IsTuple a its.toArray from pl) (show s.heap.IsTuple b its2.toArray from pl2) (by omega) (at_item rv1 rv2 l1 l2 el1 el2 fun r r2 rr rr2=>eqAt_D I r r2 rr rr2 (by rw [in1_units];omega)) _ _ _ _ ⟨.bl _,H,I,rfl,?_⟩
      have e1:its.toArray.size=ds.length:=by simp;omega
      have e2:its2.toArray.size=es.length:=by simp;omega
      rw [e1,e2]
      by_cases hl:ds.length=es.length
      · rw [← hl,Nat.min_self,beq_self_eq_true,Bool.and_true, ← eqDs_all hl]
        exact q
      · rw [beq_eq_false_iff_ne.mpr hl,Bool.and_false, ← eqDs_len hl]
        exact q
    | _=>cases hs
  | _=>cases hs
noncomputable def tOrG (K:PySem.W.Frag) (ta tb:TE):TE:=fun σ H Q=>ta σ H fun x H1=>∃ k,TruV K x H1 k∧if k=true then Q x H1 else tb σ H1 Q
theorem pe_orG {K:PySem.W.Frag} {a b:Expr} {rest:List Expr} {pos:Pos} {ta tb:TE} (ha:PE X a ta) (hb:PE X (.BoolOp .Or (b::rest) pos) tb) (hK:X.K=K:=by rfl):PE X (.BoolOp .Or (a::b::rest) pos) (tOrG K ta tb):=by
  subst hK
  intro pins s σ H Q I h
  refine BoolOp_or (thn (ha pins s σ H _ I h) fun v s1 ⟨x,H1,I1,r1,q1⟩=> ?_)
  obtain ⟨k,t,q1⟩:=q1
  refine thn (tru_ok pins s1 σ H1 x v (fun b H2=>b=k∧H2=H1) I1 r1 ⟨k,t,rfl,rfl⟩) fun b s2 ⟨H2,I2,eb,eh⟩=> ?_
  subst eb eh
  cases b with
  | true=>exact ⟨x,H2,I2,r1,q1⟩
  | false=>exact hb pins s2 σ H2 Q I2 q1
theorem rd_orG {K:PySem.W.Frag} {ta tb:TE} {σ:St} {H:Hp} {Q:VK} (h:ta σ H fun x H1=>∃ k,TruV K x H1 k∧if k=true then Q x H1 else tb σ H1 Q):tOrG K ta tb σ H Q:=h
theorem truL {K:PySem.W.Frag} {H:Hp} {p:Addr} {xs:List V} {R:Bool→Prop} (c:SqL K H p xs) (h:R (!xs.isEmpty)):∃ k,TruV K (.ref p) H k∧R k:=⟨_, .inl ⟨xs,c,rfl⟩,h⟩
end
end L2
namespace L2
open PySem PySem.Spec PyProof.Rows
noncomputable abbrev dN (n:Nat):Dt:= .int (n:Nat)
noncomputable def dL (ns:List Nat):Dt:= .lst (ns.map dN)
noncomputable def dT (ns:List Nat):Dt:= .tup (ns.map dN)
noncomputable def dS (zs:List Str):Dt:= .lst (zs.map .str)
section
variable {H:Hp} {F:Addr→Prop} {n:Nat} {v:V}
theorem vals_map {α:Type} {f:α→V} {g:α→Dt} (uniq:∀ (a:α) (v:V),Rp H F n v (g a)→v=f a) {vs:List V} {as:List α} (l:vs.length=(as.map g).length)
    (e:∀ (i:Nat) (v:V) (d:Dt),vs[i]?=some v→(as.map g)[i]?=some d→Rp H F n v d):vs=as.map f:=by
  refine List.ext_getElem (by simpa using l) fun i h1 h2=> ?_
  have h3:i<as.length:=by simpa using h2
  rw [List.getElem_map]
  exact uniq _ _ (e i vs[i] (g as[i]) (by simp [h1]) (by simp [h3]))
theorem uniq_s (a:Str) (v:V) (r:Rp H F n v (.str a)):v= .str a:=by cases r;rfl
theorem dS_of {zs:List Str} (r:Rp H F n v (dS zs)):∃ a,v= .ref a∧H a=some (.lst (zs.map V.str))∧F a∧zs.length≤100000:=by
  unfold dS at r
  cases r with
  | @lst m a vs _ h f b l e=>
    have q:=vals_map (f:=V.str) (fun a v r=>uniq_s a v r) l e
    subst q
    exact ⟨a,rfl,h,f,by simpa using b⟩
theorem rp_map {α:Type} {f:α→V} {g:α→Dt} {as:List α} (k:∀ a∈as,Rp H F n (f a) (g a)):∀ (i:Nat) (v:V) (d:Dt),(as.map f)[i]?=some v→(as.map g)[i]?=some d→Rp H F n v d:=by
  intro i v d h1 h2
  rw [List.getElem?_map] at h1 h2
  cases e:as[i]? with
  | none=>rw [e] at h1;cases h1
  | some a=>
    rw [e] at h1 h2
    cases h1
    cases h2
    exact k a (List.mem_of_getElem? e)
theorem rp_L {a:Addr} {ns:List Nat} (h:H a=some (.lst (ns.map nV))) (f:F a) (b:ns.length≤100000):Rp H F (n+1) (.ref a) (dL ns):= .lst h f (by simpa using b) (by simp) (rp_map fun k _=> .int _)
theorem rp_T {a:Addr} {ns:List Nat} (h:H a=some (.tup (ns.map nV))) (b:ns.length≤100000):Rp H F (n+1) (.ref a) (dT ns):= .tup h (by simpa using b) (by simp) (rp_map fun k _=> .int _)
theorem getD_map {α β:Type} (f:α→β) (as:List α) (i:Nat) (x:β) (y:α) (h:i<as.length):(as.map f).getD i x=f (as.getD i y):=by simp [List.getD_eq_getElem?_getD,h]
theorem getD_str {zs:List Str} {i:Nat} (h:i<(zs.map V.str).length):(zs.map V.str).getD i .non= .str (zs.getD i Str.empty):=getD_map V.str zs i .non Str.empty (by simpa using h)
theorem getD_mem {α:Type} {as:List α} {i:Nat} {y:α} (h:i<as.length):as.getD i y∈as:=by
  rw [List.getD_eq_getElem?_getD,List.getElem?_eq_getElem h]
  exact List.getElem_mem h
end
end L2
namespace L2
open PySem PySem.Spec PyProof.Rows
noncomputable def But (x:Addr) (H H':Hp):Prop:=∀ b o,H b=some o→b≠x→H' b=some o
theorem But.same {x:Addr} {H H1 H2:Hp} (b:But x H H1) (s:Same H1 H2):But x H H2:=fun a o e n=>s _ _ (b a o e n)
theorem But.of {x:Addr} {H H1:Hp} (s:Same H H1):But x H H1:=fun a o e _=>s _ _ e
end L2
namespace L2
open PySem PySem.Spec PyProof.Rows
end L2
namespace L2
open PySem PySem.Spec PyProof.Rows
section
variable {H:Hp} {a:Addr} {kvs:List (Key × V)}
end
theorem cut_from {xs:List V} {k:Int} (h:0≤k):cutV xs (some k) none=xs.drop k.toNat:=by
  unfold cutV
  have e2:HT.sIx xs.length xs.length none=xs.length:=rfl
  rw [e2]
  have e1:HT.sIx xs.length 0 (some k)=min k.toNat xs.length:=by
    unfold HT.sIx
    simp only
    split <;> omega
  rw [e1]
  by_cases q:k.toNat≤xs.length
  · rw [Nat.min_eq_left q,List.take_of_length_le (by simp)]
  · rw [Nat.min_eq_right (by omega),List.drop_of_length_le (Nat.le_refl _),List.drop_of_length_le (by omega)]
    simp
theorem cut_to {xs:List V} {k:Int} (h:0≤k):cutV xs none (some k)=xs.take k.toNat:=by
  unfold cutV
  have e2:HT.sIx xs.length 0 none=0:=rfl
  rw [e2,List.drop_zero]
  have e1:HT.sIx xs.length xs.length (some k)=min k.toNat xs.length:=by
    unfold HT.sIx
    simp only
    split <;> omega
  rw [e1,Nat.sub_zero]
  by_cases q:k.toNat≤xs.length
  · rw [Nat.min_eq_left q]
  · rw [Nat.min_eq_right (by omega),List.take_of_length_le (Nat.le_refl _),List.take_of_length_le (by omega)]
section
variable {K:PySem.W.Frag} {wi:TI} {own:List Str} {fr:List (Str × Nat)} {g:TG} {tc:TT} {te tl:TE} {tb:TS} {D:Ends} {σ:St} {H:Hp} {Q:VK} {R:It→Hp→Prop} {ta:TA}
theorem rd_comp (h:wi σ H fun J H1=>∀ D,H1 D=none→CompW J (blkSt own fr σ) g tc te Q H1 D):tComp wi own fr g tc te σ H Q:=h
theorem rd_for (h:wi σ H fun J H1=>∃ W:Nat→Nat→St→Hp→Prop,(∃ m,W 0 m σ H1)∧∀ i m σ H,W i m σ H→
  (J.stop i H∧D.nx σ H)∨(J.go i H∧∃ N:St→Hp→Prop,(∀ σ' H',N σ' H'→∃ m',m'<m∧W (i+1) m' σ' H')∧∀ x H',J.yld i H x H'→g x σ H' fun σ2 H2=>tb { D with nx:=N,ct:=N,bk:=D.nx } σ2 H2)):tFor wi g tb D σ H:=h
theorem rd_iL (h:tl σ H fun x H1=>∃ a,x= .ref a∧(∃ xs,SqL K H1 a xs)∧R (Itl K a) H1):iList K tl σ H R:=h
theorem rd_iT (h:tl σ H fun x H1=>∃ a,x= .ref a∧(∃ xs,SqT K H1 a xs)∧R (Itt K a) H1):iTup K tl σ H R:=h
theorem rd_iQ (h:tl σ H fun x H1=>∃ tp a,x= .ref a∧(∃ xs,SqS tp K H1 a xs)∧R (Isq tp K a) H1):iSq K tl σ H R:=h
theorem rd_iE (h:ta σ H fun vs H1=>∃ a,vs=[.ref a]∧(∃ xs,SqL K H1 a xs)∧R (Ite K a) H1):iEnum K ta σ H R:=h
theorem rd_i1 (h:ta σ H fun vs H1=>∃ j:Int,vs=[.int j]∧ -(2 ^ 62)≤j∧j<2 ^ 62∧R (Itr 0 j.toNat) H1):iRng1 ta σ H R:=h
theorem rd_i2 (h:ta σ H fun vs H1=>∃ i j:Int,vs=[.int i, .int j]∧(-(2 ^ 62)≤i∧i<2 ^ 62∧ -(2 ^ 62)≤j∧j<2 ^ 62)∧R (Itr i (j - i).toNat) H1):iRng2 ta σ H R:=h
end
theorem rd_gtup {K:PySem.W.Frag} {n:Nat} {t:TGs} {a:Addr} {xs:List V} {σ:St} {H:Hp} {QS:St→Hp→Prop} (h:SqT K H a xs) (l:xs.length=n) (k:t xs σ H QS):gTup K n t (.ref a) σ H QS:=⟨a,xs,rfl,h,l,k⟩
theorem rd_gcons {t:TG} {u:TGs} {v:V} {vs:List V} {σ:St} {H:Hp} {QS:St→Hp→Prop} (k:t v σ H fun σ' H'=>u vs σ' H' QS):gCons t u (v::vs) σ H QS:=⟨v,vs,rfl,k⟩
theorem rd_gnil {σ:St} {H:Hp} {QS:St→Hp→Prop} (k:QS σ H):gNil [] σ H QS:=⟨rfl,k⟩
theorem for_srcW {J:It} {g:TG} {H0 H:Hp} {n:Nat} {set:Nat→St→St} {tb:TS} {D:Ends} {σ:St} (S:FSrc J g H0 n set) (Pv:Nat→St→Hp→Prop) (h0:Pv 0 σ H) (hk:∀ i σ H',Pv i σ H'→Same H0 H')
    (hs:∀ i σ H' H3,i<n→Pv i σ H'→Same H' H3→tb { D with nx:=Pv (i+1),ct:=Pv (i+1),bk:=D.nx } (set i σ) H3) (hd:∀ σ H',Pv n σ H'→D.nx σ H'):
    ∃ W:Nat→Nat→St→Hp→Prop,(∃ m,W 0 m σ H)∧∀ i m σ H,W i m σ H→
      (J.stop i H∧D.nx σ H)∨(J.go i H∧∃ N:St→Hp→Prop,(∀ σ' H',N σ' H'→∃ m',m'<m∧W (i+1) m' σ' H')∧∀ x H',J.yld i H x H'→g x σ H' fun σ2 H2=>tb { D with nx:=N,ct:=N,bk:=D.nx } σ2 H2):=by
  refine ⟨fun i m σ H'=>m=n - i∧i≤n∧Pv i σ H',⟨n,by simp,Nat.zero_le _,h0⟩,?_⟩
  rintro i m σ H1 ⟨rfl,hi,p⟩
  by_cases hlt:i<n
  · exact .inr ⟨S.go i H1 hlt (hk _ _ _ p),Pv (i+1),fun σ' H' p'=>⟨n - (i+1),by omega,rfl,hlt,p'⟩,fun x H' y=>S.yld i σ H1 x H' _ hlt (hk _ _ _ p) y fun H3 s3=>hs i σ H1 H3 hlt p s3⟩
  · have e:i=n:=by omega
    subst e
    exact .inl ⟨S.stop H1 (hk _ _ _ p),hd σ H1 p⟩
theorem fs_range0 {H:Hp} {i1 n:Nat}:FSrc (Itr 0 n) (gName i1) H n (fun i σ=>σ.set i1 (some (.int (i:Nat)))):=by
  have:=fs_range (H:=H) (i1:=i1) (lo:=0) (n:=n)
  simpa using this
theorem src_range0 {n:Nat} {σ0:St} {H:Hp} (h0:σ0[0]?=some none):SrcOk (Itr 0 n) (gName 0) σ0 H n (fun i=>σ0.set 0 (some (.int (i:Nat)))):=by
  have:=src_range (H:=H) (lo:=0) (n:=n) h0
  simpa using this
theorem rp_two {H:Hp} {F:Addr→Prop} {n:Nat} {a:Addr} {x y:V} {d e:Dt} (h:H a=some (.lst [x,y])) (f:F a) (r1:Rp H F n x d) (r2:Rp H F n y e):Rp H F (n+1) (.ref a) (.lst [d,e]):=by
  refine .lst h f (by simp) rfl fun i v u h1 h2=> ?_
  match i with
  | 0=>cases h1;cases h2;exact r1
  | 1=>cases h1;cases h2;exact r2
  | i+2=>cases h1
theorem rp_twoT {H:Hp} {F:Addr→Prop} {n:Nat} {a:Addr} {x y:V} {d e:Dt} (h:H a=some (.tup [x,y])) (r1:Rp H F n x d) (r2:Rp H F n y e):Rp H F (n+1) (.ref a) (.tup [d,e]):=by
  refine .tup h (by simp) rfl fun i v u h1 h2=> ?_
  match i with
  | 0=>cases h1;cases h2;exact r1
  | 1=>cases h1;cases h2;exact r2
  | i+2=>cases h1
theorem iteNF {A B:Prop} (h:B):if (!true)=true then A else B:=by simpa using h
theorem iteNT {A B:Prop} (h:A):if (!false)=true then A else B:=by simpa using h
end L2
namespace L2
open PySem PySem.Spec PyProof.Rows
end L2
namespace L2
open PySem PySem.Spec PyProof.Rows
theorem ifJ {c:TT} {t u:TS} {D:Ends} {σ:St} {H:Hp} (J:St→Hp→Prop) (h1:∀ σ' H',J σ' H'→D.nx σ' H') (h2:(∀ σ' H',J σ' H'→D.nx σ' H')→tIfS c t u D σ H):tIfS c t u D σ H:=h2 h1
end L2
namespace L2
open PySem PySem.Spec PyProof.Rows
end L2
namespace L2
theorem getD_el {α:Type} {as:List α} {i:Nat} {y:α} (h:i<as.length):as.getD i y=as[i]:=by
  rw [List.getD_eq_getElem?_getD,List.getElem?_eq_getElem h]
  rfl
end L2
namespace L2
open PySem PySem.Spec PyProof.Rows
end L2
namespace L2
open PySem PySem.Spec PyProof.Rows
noncomputable def CDivL (i j:Int):Prop:=0<j∧j<2 ^ 200
theorem log_small {j:Int} (h0:0<j) (h:j<2 ^ 200):j.natAbs.log2<9000:=by
  have h1:j.natAbs<2 ^ 200:=by omega
  have:=(Nat.log2_lt (show j.natAbs≠0 by omega)).mpr h1
  omega
theorem op_fdivL {X:Cx}:OpR X (binaryOp .FloorDiv) (rI CDivL fun i j=> .int (i / j)):=opI fun i j _ _ _ _ _ hc q=>by
  rw [← Int.fdiv_eq_ediv_of_nonneg i (by have:=hc.1;omega)] at q
  exact floordiv_int (by have:=hc.1;omega) q (.inl (PyProof.noPylong_of_log2 (log_small hc.1 hc.2)))
end L2
namespace L2
open PySem PySem.Spec PyProof.Rows
section
variable {prog:Program} {w:World} {A:Around} {E:Value→Shared→Prop} {s:Shared} {T:String} {r d:Addr} {n:Nat} {P:Nat→Value→Prop} {St:Nat→Heap→Prop}
end
section
variable {prog:Program} {w:World} {A:Around} {E:Value→Shared→Prop} {s:Shared}
end
section
variable {X:Cx} {K:PySem.W.Frag} {e o:Expr} {ta:TA} {to:TE} {p p2 pos pos2 apos cpos:Pos}
end
end L2
namespace L2
open PySem PySem.Spec PyProof.Rows
section
variable {X:Cx} {K:PySem.W.Frag} {e o:Expr} {es:List Expr} {ta to:TE} {t:TA} {f name:Str} {pos apos cpos:Pos} {T id:String} {r:V→List V→Hp→VK→Prop}
theorem k_fld (he:PE X e ta) (hb:attributeBase e f X.env (eval e X.env)=eval e X.env) (hK:X.K=K:=by rfl):PE X (.Attribute e f pos) (tFld K ta f):=by
  subst hK
  exact pe_fld he hb
theorem kx_bm (pa:PlainAttrs T) (slot:Slot T name id) (hty:typeOf (.builtin id)=pure (.type "method_descriptor")) (hm:MtR X id r) (ho:PE X o to) (ha:PA X (e::es) t) (hK:X.K=K:=by rfl)
    (hbase:attributeBase o name X.env (eval o X.env)=eval o X.env:=by rfl)
    (hfew:((backTo cpos (starEach (e::es) X.env)).all (fun x=> !x.1)&&(backToKw cpos (keywordEach [] X.env)).all (fun x=>x.1.isSome)
      && decide ((e::es).length+([]:List Keyword).length+(if ([]:List Keyword).isEmpty then 0 else 1)<30))=true:=by rfl)
    (hline:(apos.endLine == cpos.line)=true:=by rfl) (hs:starEach (e::es) X.env=(false,eval e X.env)::starEach es X.env:=by rfl) (hplain:(backTo cpos (starEach es X.env)).any (·.1)=false:=by rfl):
    PE X (.Call (.Attribute o name apos) (e::es) [] cpos) (tBM K T r to t):=by
  subst hK
  exact pe_bm pa slot hty hm ho ha hbase hfew hline hs hplain
end
end L2
namespace L2
open PySem PySem.Spec PyProof.Rows
section
variable {prog:Program} {w:World} {A:Around} {E:Value→Shared→Prop} {s:Shared}
end
section
variable {X:Cx} {K:PySem.W.Frag} {e o:Expr} {ta:TA} {to:TE} {p p2 pos pos2 apos cpos:Pos}
end
section
variable {X:Cx} {k:Nat} {e o:Expr} {es:List Expr} {t:TA} {to:TE} {pos:Pos} {S:Addr→Sp→Prop}
end
theorem arg1 {α:Type} {P:List α→Prop} (h:∀ a0,P [a0]):∀ us:List α,us.length=1→P us:=fun us hl=>match us,hl with | [a0],_=>h a0
theorem arg2 {α:Type} {P:List α→Prop} (h:∀ a0 a1,P [a0,a1]):∀ us:List α,us.length=2→P us:=fun us hl=>match us,hl with | [a0,a1],_=>h a0 a1
theorem arg3 {α:Type} {P:List α→Prop} (h:∀ a0 a1 a2,P [a0,a1,a2]):∀ us:List α,us.length=3→P us:=fun us hl=>match us,hl with | [a0,a1,a2],_=>h a0 a1 a2
theorem arg4 {α:Type} {P:List α→Prop} (h:∀ a0 a1 a2 a3,P [a0,a1,a2,a3]):∀ us:List α,us.length=4→P us:=fun us hl=>match us,hl with | [a0,a1,a2,a3],_=>h a0 a1 a2 a3
theorem arg5 {α:Type} {P:List α→Prop} (h:∀ a0 a1 a2 a3 a4,P [a0,a1,a2,a3,a4]):∀ us:List α,us.length=5→P us:=fun us hl=>match us,hl with | [a0,a1,a2,a3,a4],_=>h a0 a1 a2 a3 a4
theorem arg6 {α:Type} {P:List α→Prop} (h:∀ a0 a1 a2 a3 a4 a5,P [a0,a1,a2,a3,a4,a5]):∀ us:List α,us.length=6→P us:=fun us hl=>match us,hl with | [a0,a1,a2,a3,a4,a5],_=>h a0 a1 a2 a3 a4 a5
end L2
namespace L2
open PySem PySem.Spec PyProof.Rows
structure BlkScopeC (X:Cx) (scope:Scope) (cx:Str) (own:List Str) (fr:List (Str × Nat)):Prop where
  kind:scope.kind= .function
  onec:∀ y∈scope.names,y.2= .cell→y.1=cx
  isc:scope.names.lookup cx=some .cell
  lay:∀ n cl,cellsFrom n scope.names cl=(cx,n)::cl
  push:∀ h:Heap,pushCells h scope.names=h.push { cls:= .type "cell",data:= .cell none }
  loc:∀ y∈scope.names,y.2= .local→scope.names.lookup y.1=some .local
  free:∀ y∈scope.names,y.2= .free→(X.env.scope.names.lookup y.1=some .cell∨X.env.scope.names.lookup y.1=some .free)
  fr:∀ p∈fr,X.N[p.2]?=some p.1∧(p.1,NameKind.free)∈scope.names
  only:∀ x,(x,NameKind.free)∈scope.names→scope.names.lookup x=some .free
section
variable {X:Cx} {pins:List (Addr × Obj)} {σ:St} {H:Hp} {s:Shared} {scope:Scope} {cx:Str} {own:List Str} {fr:List (Str × Nat)} {fp:List Addr}
end
section
variable {X:Cx}
end
noncomputable def blkOkC (sc:Scope) (N:List Str) (scope:Scope) (cx:Str) (own:List Str) (fr:List (Str × Nat)):Bool:=
  decide (scope.kind= .function)&&
  (scope.names.all fun y=>(decide (y.2≠ .cell)||decide (y.1=cx))&&(decide (y.2≠ .local)||decide (scope.names.lookup y.1=some .local))&&
    (decide (y.2≠ .free)||((decide (sc.names.lookup y.1=some .cell)||decide (sc.names.lookup y.1=some .free))&&decide (scope.names.lookup y.1=some .free))))&&
  (fr.all fun p=>decide (N[p.2]?=some p.1)&&decide ((p.1,NameKind.free)∈scope.names))&&
  decide (scope.names.lookup cx=some .cell)&&decide ((own++fr.map (·.1)).Nodup)
section
variable {X:Cx} {scope:Scope} {cx:Str} {own:List Str} {fr:List (Str × Nat)}
theorem BlkScopeC.of (h:blkOkC X.env.scope X.N scope cx own fr=true) (lay:∀ n cl,cellsFrom n scope.names cl=(cx,n)::cl) (push:∀ h:Heap,pushCells h scope.names=h.push { cls:= .type "cell",data:= .cell none }):BlkScopeC X scope cx own fr:=by
  unfold blkOkC at h
  simp only [Bool.and_eq_true,List.all_eq_true,decide_eq_true_iff,Bool.or_eq_true] at h
  obtain ⟨⟨⟨⟨h1,h2⟩,h3⟩,h4⟩,h5⟩:=h
  exact ⟨h1,fun y hy e=>(h2 y hy).1.1.resolve_left (fun z=>z e),h4,lay,push,fun y hy e=>(h2 y hy).1.2.resolve_left (fun z=>z e),fun y hy e=>((h2 y hy).2.resolve_left (fun z=>z e)).1,fun p hp=>h3 p hp,fun x hx=>((h2 _ hx).2.resolve_left (fun z=>z rfl)).2⟩
end
end L2
namespace L2
open PySem PySem.Spec PyProof.Rows
section
variable {X:Cx} {K:PySem.W.Frag} {scope:Scope} {fr:List (Str × Nat)}
end
end L2
namespace L2
open PySem PySem.Spec PyProof.Rows
section
variable {X:Cx} {e o:Expr} {es:List Expr} {t:TA} {to:TE} {pos:Pos} {S:Addr→Sp→Prop}
end
end L2
namespace L2
open PySem PySem.Spec PyProof.Rows
section
variable {X:Cx} {K:PySem.W.Frag}
end
theorem cut_mid {xs:List V} {k l:Int} (h:0≤k) (h2:k≤l):cutV xs (some k) (some l)=(xs.take l.toNat).drop k.toNat:=by
  unfold cutV
  have e1:HT.sIx xs.length 0 (some k)=min k.toNat xs.length:=by
    unfold HT.sIx
    simp only
    split <;> omega
  have e2:HT.sIx xs.length xs.length (some l)=min l.toNat xs.length:=by
    unfold HT.sIx
    simp only
    split <;> omega
  rw [e1,e2]
  by_cases q:k.toNat≤xs.length
  · rw [Nat.min_eq_left q]
    by_cases q2:l.toNat≤xs.length
    · rw [Nat.min_eq_left q2,List.drop_take]
    · rw [Nat.min_eq_right (by omega),List.take_of_length_le (l:=xs) (by omega),List.take_of_length_le (by simp)]
  · rw [List.drop_of_length_le (by omega),List.drop_of_length_le (by simp;omega)]
    simp
end L2
namespace HT
open PySem PySem.Spec PyProof.Rows
variable {prog:Program} {w:World} {A:Around} {E:Value→Shared→Prop} {s:Shared}
theorem getItem_tuple_whole {t sl:Addr} {items:Array Value} {vl vu:Value} {lo hi:Option Int} {Q:Value→Shared→Prop} (ht:IsTup s.heap t items) (hs:s.heap.IsSliceOf sl vl vu .none) (pl:IsPart vl lo) (pu:IsPart vu hi)
    (w1:sIx items.size 0 lo=0) (w2:sIx items.size items.size hi=items.size) (h:Q (.ref t) s):wpAny (model prog w) A (getItem (.ref t) (.ref sl)) Q E s:=by
  obtain ⟨os,hos,hcs,hds⟩:=id hs
  have hTs:s.TypeIs (.ref sl) "slice":=⟨os,hos,hcs⟩
  unfold getItem
  try with_reducible refine wpAny_holding ?_
  first | refine wpAny_bind (wpAny_pure ?_) | skip
  refine wpAny_bind (wpAny_sequenceKey ht.typeIs (by decide) ?_)
  refine wpAny_bind (wpAny_callSpecial?_slot (name:=Str.ofString "__getitem__") ht.typeIs PyProof.Rows.slot_tuple_getitem
    (wpAny_call_entry PyProof.Rows.slot_tuple_getitem ht.typeIs entry_tuple_getitem ?_ (args_tuple_getitem _ _)))
  show wpAny _ _ (Builtin.Tuple.tupleItemsOf (.ref t) >>= _) _ _ s
  refine wpAny_bind (tupleItemsOf_ ht ?_)
  refine wpAny_bind (wpAny_typeOf hTs ?_)
  rw [if_pos (by decide)]
  refine wpAny_bind (sliceApplied_gen hs pl pu ?_)
  have hyes:(((sIx items.size 0 lo:Nat):Int) == 0&&(1:Int) == 1&&(sIx items.size items.size hi - sIx items.size 0 lo) == items.size)=true:=by
    rw [w1,w2]
    simp
  show wpAny _ _ (if (((sIx items.size 0 lo:Nat):Int) == 0&&(1:Int) == 1&&(sIx items.size items.size hi - sIx items.size 0 lo) == items.size)=true then _ else _) _ _ s
  rw [if_pos hyes]
  unfold Builtin.Tuple.tupleIsExact
  refine wpAny_bind (wpAny_bind (wpAny_typeOf ht.typeIs (wpAny_pure ?_)))
  rw [if_pos (by decide)]
  exact wpAny_bind (wpAny_rule (wpAny_pure ⟨_,rfl,wpAny_pure h⟩))
end HT
namespace L2
open PySem PySem.Spec PyProof.Rows
noncomputable def rSlN (K:PySem.W.Frag):V→Option Int→Option Int→Hp→VK→Prop:=fun x lo hi H Q=>∃ a xs,x= .ref a∧SqT K H a xs∧∀ H' p,Same H H'→SqT K H' p (cutV xs lo hi)→Q (.ref p) H'
theorem k_slt {X:Cx} {K:PySem.W.Frag} (hK:X.K=K:=by rfl):SlR X (rSlN K):=by
  subst hK
  intro pins s σ H x v vl vu lo hi sl Q I rx hs pl pu h
  obtain ⟨a,xs,rfl,hx,q⟩:=h
  by_cases hw:HT.sIx xs.length 0 lo=0∧HT.sIx xs.length xs.length hi=xs.length
  · cases rx
    obtain ⟨its,r,ht,hz⟩:=I.tuple hx
    have hlen:its.toArray.size=xs.length:=by rw [List.size_toArray];exact r.length.symm
    refine ⟨"tuple",_,PyProof.Rows.slot_tuple_getitem.lookup,ht.typeIs,?_⟩
    refine HT.getItem_tuple_whole ht hs pl pu (by rw [hlen];exact hw.1) (by rw [hlen];exact hw.2) ?_
    have e:cutV xs lo hi=xs:=by
      unfold cutV
      rw [hw.1,hw.2,List.drop_zero,Nat.sub_zero,List.take_of_length_le (Nat.le_refl _)]
    exact ⟨.ref a,H,I,rfl,q H a (Same.refl _) (by rw [e];exact hx)⟩
  · exact sl_tup pins s σ H _ v vl vu lo hi sl Q I rx hs pl pu ⟨a,xs,rfl,hx,hw,fun p hp=>q _ p (same_new hp) (SqT.of upd_same)⟩
theorem rd_slN {K:PySem.W.Frag} {H:Hp} {Q:VK} {a:Addr} {xs:List V} {lo hi:Option Int} (c:SqT K H a xs) (h:∀ H' p,Same H H'→SqT K H' p (cutV xs lo hi)→Q (.ref p) H'):rSlN K (.ref a) lo hi H Q:=⟨a,xs,rfl,c,h⟩
theorem cut_last {xs:List V} {v:V}:cutV (xs++[v]) (some (-1)) none=[v]:=by
  unfold cutV
  have e2:HT.sIx (xs++[v]).length (xs++[v]).length none=(xs++[v]).length:=rfl
  have e1:HT.sIx (xs++[v]).length 0 (some (-1))=xs.length:=by
    unfold HT.sIx
    simp
    omega
  rw [e1,e2]
  simp
theorem cut_init {xs:List V} {v:V}:cutV (xs++[v]) none (some (-1))=xs:=by
  unfold cutV
  have e2:HT.sIx (xs++[v]).length 0 none=0:=rfl
  have e1:HT.sIx (xs++[v]).length (xs++[v]).length (some (-1))=xs.length:=by
    unfold HT.sIx
    simp
    omega
  rw [e1,e2]
  simp
theorem eqDs_dN:∀ a b:List Nat,eqDs (a.map dN) (b.map dN)=decide (a=b)
  | [],[]=>by simp [eqDs]
  | [],_::_=>by simp [eqDs]
  | _::_,[]=>by simp [eqDs]
  | x::a,y::b=>by
    rw [List.map_cons,List.map_cons]
    unfold eqDs
    rw [eqDs_dN a b]
    have e:eqD (dN x) (dN y)=decide (x=y):=by
      show eqD (.int (x:Int)) (.int (y:Int))=_
      unfold eqD
      rw [Bool.eq_iff_iff,beq_iff_eq,decide_eq_true_iff]
      omega
    rw [e,Bool.eq_iff_iff]
    simp
theorem eqD_dT (a b:List Nat):eqD (dT a) (dT b)=decide (a=b):=by
  show eqD (.tup _) (.tup _)=_
  unfold eqD
  exact eqDs_dN a b
theorem eqVs_strs (as bs:List Str):eqVs (as.map V.str) (bs.map V.str)=decide (as=bs):=by
  rw [Bool.eq_iff_iff,decide_eq_true_iff]
  unfold eqVs
  simp only [Bool.and_eq_true,beq_iff_eq,List.length_map,List.all_eq_true,List.mem_range]
  constructor
  · rintro ⟨h1,h2⟩
    refine List.ext_getElem h1 fun i ha hb=> ?_
    have h3:=h2 i ha
    rw [getD_str (by simpa using ha),getD_str (by simpa using hb)] at h3
    have h4:(as.getD i Str.empty == bs.getD i Str.empty)=true:=h3
    rw [beq_iff_eq,getD_el ha,getD_el hb] at h4
    exact h4
  · rintro rfl
    refine ⟨rfl,fun i hi=> ?_⟩
    rw [getD_str (by simpa using hi)]
    show (as.getD i Str.empty == as.getD i Str.empty)=true
    rw [beq_iff_eq]
theorem rd_eqLS {K:PySem.W.Frag} {H:Hp} {Q:VK} {l p:Addr} {as bs:List Str} (c:SqL K H l (as.map V.str)) (d:SqL K H p (bs.map V.str)) (h:Q (.bl (decide (as=bs))) H):rEqL K false (.ref l) (.ref p) H Q:=
  ⟨l,p,_,_,rfl,rfl,c,d,by simp [flatV],by simp [flatV],by rw [eqVs_strs];exact h⟩
end L2
namespace L2
open PySem PySem.Spec PyProof.Rows
end L2
namespace L2
open PySem PySem.Spec PyProof.Rows
noncomputable def DK {α:Type}:Sem α→Prop
  | .rule _ k=>DK (k ())
  | .at _ k=>DK (k ())
  | .load _ _ k=>∀ o,DK (k o)
  | .update _ _ f k=>(∀ o,(f o).dict=o.dict)∧DK (k ())
  | .loadIfAlive _ k=>∀ o,DK (k o)
  | .point _ k=>DK (k ())
  | .alloc _ k=>∀ a,DK (k a)
  | .fresh k=>∀ t,DK (k t)
  | .ask k=>∀ t,DK (k t)
  | .choose _ _ k=>∀ t,DK (k t)
  | .os _ _ k=>∀ t,DK (k t)
  | .call .. => False
  | .handled _ k=>∀ t,DK (k t)
  | .genState _ k=>∀ t,DK (k t)
  | .newGen _ k=>∀ t,DK (k t)
  | .resume .. => False
  | .stack k=>∀ t,DK (k t)
  | .thread k=>∀ t,DK (k t)
  | _=>True
noncomputable def KD (h h':Heap):Prop:=∀ (b:Nat) (o:Obj),h.objs[b]?=some o→∃ o',h'.objs[b]?=some o'∧o'.dict=o.dict
theorem KD.refl (h:Heap):KD h h:=fun b o e=>⟨o,e,rfl⟩
theorem KD.trans {h h1 h2:Heap} (a:KD h h1) (b:KD h1 h2):KD h h2:=fun c o e=>by
  obtain ⟨o1,e1,d1⟩:=a c o e
  obtain ⟨o2,e2,d2⟩:=b c o1 e1
  exact ⟨o2,e2,d2.trans d1⟩
theorem raw_of {h:Heap} {b:Addr} {o:Obj} (e:h.get? b=some o):h.objs[b]?=some o:=by
  unfold Heap.get? at e
  split at e
  · cases e
  · exact e
theorem KD.at' {h h':Heap} (k:KD h h') {b:Addr} {o o':Obj} (e:h.get? b=some o) (e':h'.get? b=some o'):o'.dict=o.dict:=by
  obtain ⟨o1,e1,d1⟩:=k b o (raw_of e)
  rw [raw_of e'] at e1
  cases e1
  exact d1
theorem KD.push (h:Heap) (o:Obj):KD h (h.push o):=fun b u e=>by
  refine ⟨u,?_,rfl⟩
  show (h.objs.push o)[b]?=some u
  have hb:b<h.objs.size:=(Array.getElem?_eq_some_iff.mp e).1
  rw [Array.getElem?_push_lt hb]
  rw [Array.getElem?_eq_getElem hb] at e
  exact e
theorem KD.upd (h:Heap) (a:Addr) {f:Obj→Obj} (hf:∀ o,(f o).dict=o.dict):KD h (h.update a f):=fun b u e=>by
  have hb:b<h.objs.size:=(Array.getElem?_eq_some_iff.mp e).1
  show ∃ o',(h.objs.modify a f)[b]?=some o'∧_
  rw [Array.getElem?_modify,e]
  by_cases q:a=b
  · rw [if_pos q]
    exact ⟨f u,rfl,hf u⟩
  · rw [if_neg q]
    exact ⟨u,rfl,rfl⟩
theorem wp_dk {α:Type} {M:Model} {Γ:PySem.Ctx}:∀ (t:Sem α) (Q:α→Pos→Shared→Prop) (E:Value→Pos→Shared→Prop) (p:Pos) (s s0:Shared),DK t→KD s0.heap s.heap→Sem.wp M Γ t Q E p s→
    Sem.wp M Γ t (fun a p s'=>Q a p s'∧KD s0.heap s'.heap) (fun a p s'=>E a p s'∧KD s0.heap s'.heap) p s:=by
  intro t
  induction t with
  | pure a=>intro Q E p s s0 _ k h;rw [Sem.wp] at h ⊢;exact ⟨h,k⟩
  | raise e=>intro Q E p s s0 _ k h;rw [Sem.wp] at h ⊢;exact ⟨h,k⟩
  | unsupported w=>intro Q E p s s0 _ k h;rw [Sem.wp] at h;exact h.elim
  | finish e=>intro Q E p s s0 _ k h;rw [Sem.wp] at h;exact h.elim
  | rule t k ih=>intro Q E p s s0 d k h;rw [Sem.wp] at h ⊢;exact ih () Q E p s s0 d k h
  | «at» t k ih=>intro Q E p s s0 d k h;rw [Sem.wp] at h ⊢;exact ih () Q E _ s s0 d k h
  | load a part k ih=>
    intro Q E p s s0 d k h
    rw [Sem.wp] at h ⊢
    obtain ⟨o,e,h⟩:=h
    exact ⟨o,e,ih o Q E p s s0 (d o) k h⟩
  | update a part f k ih=>
    intro Q E p s s0 d k h
    rw [Sem.wp] at h ⊢
    exact ⟨h.1,ih () Q E p _ s0 d.2 (k.trans (KD.upd s.heap a d.1)) h.2⟩
  | alloc o k ih=>intro Q E p s s0 d k h;rw [Sem.wp] at h ⊢;exact ih _ Q E p _ s0 (d _) (k.trans (KD.push _ _)) h
  | loadIfAlive a k ih=>intro Q E p s s0 d k h;rw [Sem.wp] at h ⊢;exact ih _ Q E p _ s0 (d _) k h
  | point l k ih=>intro Q E p s s0 d k h;rw [Sem.wp] at h ⊢;exact ih _ Q E p _ s0 d k h
  | register a k ih=>intro Q E p s s0 d k h;rw [Sem.wp] at h;exact h.elim
  | fresh k ih=>intro Q E p s s0 d k h;rw [Sem.wp] at h ⊢;exact ih _ Q E p _ s0 (d _) k h
  | ask k ih=>intro Q E p s s0 d k h;rw [Sem.wp] at h ⊢;exact ih _ Q E p _ s0 (d _) k h
  | choose a n k ih=>intro Q E p s s0 d k h;rw [Sem.wp] at h ⊢;exact ⟨h.1,ih _ Q E p _ s0 (d _) k h.2⟩
  | os a n k ih=>intro Q E p s s0 d k h;rw [Sem.wp] at h ⊢;exact ih _ Q E p _ s0 (d _) k h
  | call c a b l k ih=>intro Q E p s s0 d k h;exact d.elim
  | handled a k ih=>intro Q E p s s0 d k h;rw [Sem.wp] at h ⊢;exact ih _ Q E p _ s0 (d _) k h
  | newGen c k ih=>intro Q E p s s0 d k h;rw [Sem.wp] at h ⊢;exact ih _ Q E p _ s0 (d _) k h
  | genState g k ih=>
    intro Q E p s s0 d k h
    rw [Sem.wp] at h ⊢
    obtain ⟨st,e,h⟩:=h
    exact ⟨st,e,ih _ Q E p s s0 (d _) k h⟩
  | resume g r l k ih=>intro Q E p s s0 d k h;exact d.elim
  | yield v g l k ih=>intro Q E p s s0 d k h;rw [Sem.wp] at h;exact h.elim
  | stack k ih=>intro Q E p s s0 d k h;rw [Sem.wp] at h ⊢;exact ih _ Q E p _ s0 (d _) k h
  | fork c k ih=>intro Q E p s s0 d k h;rw [Sem.wp] at h;exact h.elim
  | thread k ih=>intro Q E p s s0 d k h;rw [Sem.wp] at h ⊢;exact ih _ Q E p _ s0 (d _) k h
  | await a t b l k ih=>intro Q E p s s0 d k h;rw [Sem.wp] at h;exact h.elim
theorem wpAny_dk {α:Type} {M:Model} {A:Around} {t:Sem α} {Q:α→Shared→Prop} {E:Value→Shared→Prop} {s:Shared} (d:DK t) (h:wpAny M A t Q E s):wpAny M A t (fun a s'=>Q a s'∧KD s.heap s'.heap) (fun e s'=>E e s'∧KD s.heap s'.heap) s:=
  fun Γ p hΓ=>wp_dk t _ _ p s s d (KD.refl _) (h Γ p hΓ)
theorem DK.bind {α β:Type} {f:α→Sem β}:∀ {t:Sem α},DK t→(∀ a,DK (f a))→DK (t >>= f):=by
  intro t
  show _→_→DK (Sem.bind t f)
  induction t with
  | pure a=>intro _ h;exact h a
  | raise e=>intro _ _;trivial
  | unsupported w=>intro _ _;trivial
  | finish e=>intro _ _;trivial
  | rule t k ih=>intro d h;exact ih () d h
  | «at» t k ih=>intro d h;exact ih () d h
  | load a part k ih=>intro d h o;exact ih o (d o) h
  | update a part f k ih=>intro d h;exact ⟨d.1,ih () d.2 h⟩
  | alloc o k ih=>intro d h a;exact ih a (d a) h
  | loadIfAlive a k ih=>intro d h o;exact ih o (d o) h
  | point l k ih=>intro d h;exact ih () d h
  | register a k ih=>intro _ _;trivial
  | fresh k ih=>intro d h o;exact ih o (d o) h
  | ask k ih=>intro d h o;exact ih o (d o) h
  | choose a n k ih=>intro d h o;exact ih o (d o) h
  | os a n k ih=>intro d h o;exact ih o (d o) h
  | call c a b l k ih=>intro d h;exact d.elim
  | handled a k ih=>intro d h o;exact ih o (d o) h
  | newGen c k ih=>intro d h o;exact ih o (d o) h
  | genState g k ih=>intro d h o;exact ih o (d o) h
  | resume g r l k ih=>intro d h;exact d.elim
  | yield v g l k ih=>intro _ _;trivial
  | stack k ih=>intro d h o;exact ih o (d o) h
  | fork c k ih=>intro _ _;trivial
  | thread k ih=>intro d h o;exact ih o (d o) h
  | await a t b l k ih=>intro _ _;trivial
end L2
namespace L2
open PySem PySem.Spec PyProof.Rows
theorem dk_pure {α:Type} (a:α):DK (pure a:Sem α):=trivial
theorem dk_uns {α:Type} (w:String):DK (unsupported w:Sem α):=trivial
theorem dk_load (a:Addr):DK (load a):=fun _=>trivial
theorem dk_fieldsOf (v:Value):DK (fieldsOf v):=by
  unfold fieldsOf
  split
  · refine DK.bind (dk_load _) fun o=> ?_
    split
    · exact dk_pure _
    · exact dk_uns _
  · exact dk_uns _
theorem dk_field (v:Value) (i:Nat):DK (field v i):=by
  unfold field
  refine DK.bind (dk_fieldsOf v) fun vs=> ?_
  split
  · exact dk_pure _
  · exact dk_uns _
theorem dict_mapFields (f:Array Value→Array Value) (o:Obj):(Obj.mapFields f o).dict=o.dict:=by
  unfold Obj.mapFields
  split <;> rfl
theorem dk_update (a:Addr) {f:Obj→Obj} (h:∀ o,(f o).dict=o.dict):DK (update a f):=⟨h,trivial⟩
theorem dk_setField (v:Value) (i:Nat) (x:Value):DK (setField v i x):=by
  unfold setField
  split
  · unfold updateField
    refine DK.bind (dk_load _) fun o=> ?_
    split
    · split
      · exact dk_update _ (dict_mapFields _)
      · exact dk_uns _
    · exact dk_uns _
  · exact dk_uns _
theorem dk_stack:DK (stack):=fun _=>trivial
theorem dk_ite {α:Type} {c:Prop} [Decidable c] {x y:Sem α} (hx:DK x) (hy:DK y):DK (if c then x else y):=by
  split
  · exact hx
  · exact hy
theorem dk_setFlight (e:Value) (f:Option Addr):DK (setFlight e f):=by
  unfold setFlight
  refine DK.bind (dk_field _ _) fun tb=> ?_
  exact dk_ite (dk_setField _ _ _) (dk_pure _)
theorem dk_behind (env:Env) (outer:List Env):DK (behindIsImport env outer):=by
  unfold behindIsImport
  refine dk_ite (dk_pure _) (dk_ite (dk_pure _) ?_)
  exact DK.bind (dk_field _ _) fun _=>dk_pure _
theorem dk_kept (env:Env) (i:Bool) (l:List Env):DK (keptBack env i l):=by
  unfold keptBack
  split
  · refine dk_ite (dk_pure _) ?_
    unfold underTheClaimsCaller
    exact DK.bind (DK.bind dk_stack fun _=>dk_pure _) fun _=>dk_pure _
  · exact dk_pure _
theorem dk_ready:∀ l:List Env,DK (readyFrames l)
  | []=>trivial
  | env::outer=>by
    unfold readyFrames
    split
    · refine DK.bind (dk_load _) fun o=> ?_
      refine dk_ite (dk_pure _) ?_
      refine DK.bind (dk_behind _ _) fun _=>DK.bind (dk_kept _ _ _) fun _=>DK.bind (dk_update _ fun _=>rfl) fun _=>dk_ready outer
    · exact dk_uns _
theorem dk_frameOf (env:Env):DK (PySem.frameOf env):=by
  unfold PySem.frameOf
  refine DK.bind ?_ fun _=>DK.bind ?_ fun o=> ?_
  · unfold frameEnvs
    exact DK.bind dk_stack fun _=>dk_pure _
  · unfold frameObject
    split
    · exact dk_pure _
    · exact DK.bind (dk_ready _) fun _=>dk_pure _
  · split
    · exact dk_pure _
    · exact dk_uns _
theorem dk_newFields (ty:String) (vs:List Value):DK (newFields ty vs):=by
  unfold newFields newObj
  have hj:DK (newObjAsIs (.type ty) (.fields vs.toArray)):=by
    unfold newObjAsIs
    exact fun _=>trivial
  exact dk_ite (DK.bind (dk_uns _) fun _=>hj) hj
theorem dk_place (f:Addr) (b:Bool):DK (entryPlaceOf f b):=by
  unfold entryPlaceOf
  refine DK.bind dk_stack fun _=> ?_
  split
  · exact dk_pure _
  · exact dk_pure _
theorem dk_note (e:Value) (env:Env):DK (noteFrame e env):=by
  unfold noteFrame
  split
  · rename_i f _
    refine DK.bind (dk_field _ _) fun head=> ?_
    have hj:DK (do
        let fr ← PySem.frameOf env
        let pl ← entryPlaceOf f (head != Value.none)
        let b ← EntryCells.newEntry head fr Value.none (rawInt f) Value.none pl
        setField e 1 b):=DK.bind (dk_frameOf env) fun _=>DK.bind (dk_place _ _) fun _=>DK.bind (dk_newFields _ _) fun _=>dk_setField _ _ _
    refine dk_ite (DK.bind (dk_field _ _) fun _=>dk_ite (dk_pure _) (DK.bind (dk_setField _ _ _) fun _=>hj)) hj
  · exact dk_uns _
theorem dk_leaving (env:Env) (e:Value):DK (leaving env e):=by
  unfold leaving
  exact DK.bind (dk_note _ _) fun _=>dk_setFlight _ _
end L2
namespace L2
open PySem PySem.Spec PyProof.Rows
section
variable {M:Model} {A:Around} {E:Value→Shared→Prop} {s:Shared}
theorem leaves_onD {base:Heap} {env:Env} {outer:List Env} {L e:Addr} {cls a0:Value} {Q:Unit→Shared→Prop} (hfr:A.frames=some (env::outer)) (hf:env.frame=some L) (hfl:Heap.FlyingW base (env::outer) e cls a0 s.heap)
    (hQ:∀ h',Heap.FlyingW base outer e cls a0 h'→s.heap.UpToSlots h'→KD s.heap h'→Q () { s with heap:=h' }):wpAny M A (leaving env (.ref e)) Q E s:=
  wpAny_mono (wpAny_dk (dk_leaving env (.ref e)) (wpAny_leaves_onW (Q:=fun _ s'=>∃ h',s'={ s with heap:=h' }∧Heap.FlyingW base outer e cls a0 h'∧s.heap.UpToSlots h') hfr hf hfl fun h' a b=>⟨h',rfl,a,b⟩))
    (fun _ _ ⟨⟨h',e,a,b⟩,k⟩=>by subst e;exact hQ h' a b k) fun _ _ z=>z.1
theorem leaves_madeD {base h:Heap} {env:Env} {outer:List Env} {L e:Addr} {cls:Value} {args:List Value} {Q:Unit→Shared→Prop}
    (hfr:A.frames=some (env::outer)) (hf:env.frame=some L) (hkb:base.StaysIn h) (hl:h.FunFrames base (env::outer)) (hx:Heap.MadeExcOf h s.heap e cls args)
    (hQ:∀ h' t,Heap.FlyingW base outer e cls (.ref t) h'→s.heap.UpToSlots h'→KD s.heap h'→Q () { s with heap:=h' }):wpAny M A (leaving env (.ref e)) Q E s:=
  wpAny_mono (wpAny_dk (dk_leaving env (.ref e)) (wpAny_leaves_madeW (Q:=fun _ s'=>∃ h' t,s'={ s with heap:=h' }∧Heap.FlyingW base outer e cls (.ref t) h'∧s.heap.UpToSlots h') hfr hf hkb hl hx fun h' t a _ _ b=>⟨h',t,rfl,a,b⟩))
    (fun _ _ ⟨⟨h',t,e,a,b⟩,k⟩=>by subst e;exact hQ h' t a b k) fun _ _ z=>z.1
theorem looks_onD {base:Heap} {env:Env} {outer:List Env} {L e:Addr} {cls a0:Value} {Q:Unit→Shared→Prop} (hfr:A.frames=some (env::outer)) (hf:env.frame=some L) (hfl:Heap.FlyingW base (env::outer) e cls a0 s.heap)
    (hQ:∀ h',Heap.HeldW base (env::outer) e cls a0 L h'→s.heap.UpToSlots h'→KD s.heap h'→Q () { s with heap:=h' }):wpAny M A (noteFrame (.ref e) env) Q E s:=
  wpAny_mono (wpAny_dk (dk_note (.ref e) env) (wpAny_looks_onW (Q:=fun _ s'=>∃ h',s'={ s with heap:=h' }∧Heap.HeldW base (env::outer) e cls a0 L h'∧s.heap.UpToSlots h') hfr hf hfl fun h' a b=>⟨h',rfl,a,b⟩))
    (fun _ _ ⟨⟨h',e,a,b⟩,k⟩=>by subst e;exact hQ h' a b k) fun _ _ z=>z.1
theorem landsD {base:Heap} {l:List Env} {e L:Addr} {cls a0:Value} {Q:Unit→Shared→Prop} (hh:Heap.HeldW base l e cls a0 L s.heap)
    (hQ:∀ h',Heap.FlyingW base l e cls a0 h'→s.heap.UpToSlots h'→KD s.heap h'→Q () { s with heap:=h' }):wpAny M A (setFlight (.ref e) none) Q E s:=
  wpAny_mono (wpAny_dk (dk_setFlight (.ref e) none) (wpAny_landsW (Q:=fun _ s'=>∃ h',s'={ s with heap:=h' }∧Heap.FlyingW base l e cls a0 h'∧s.heap.UpToSlots h') hh fun h' a b=>⟨h',rfl,a,b⟩))
    (fun _ _ ⟨⟨h',e,a,b⟩,k⟩=>by subst e;exact hQ h' a b k) fun _ _ z=>z.1
theorem flightD {base:Heap} {l:List Env} {e:Addr} {cls a0 fl:Value} {Q:Unit→Shared→Prop} (hkb:base.StaysIn s.heap) (hl:s.heap.FunFrames base l) (ht:s.heap.TracedAtW base e cls a0 fl)
    (h:∀ h',base.StaysIn h'→h'.FunFrames base l→h'.TracedW base e cls a0→(∀ b o,s.heap.get? b=some o→(∀ vs,o.data≠ .fields vs)→h'.get? b=some o)→KD s.heap h'→Q () { s with heap:=h' }):
    wpAny M A (setFlight (.ref e) none) Q E s:=
  wpAny_mono (wpAny_dk (dk_setFlight (.ref e) none) (wpAny_setFlight_noneW (Q:=fun _ s'=>∃ h',s'={ s with heap:=h' }∧base.StaysIn h'∧h'.FunFrames base l∧h'.TracedW base e cls a0∧∀ b o,s.heap.get? b=some o→(∀ vs,o.data≠ .fields vs)→h'.get? b=some o) hkb hl ht fun h' a b c d=>⟨h',rfl,a,b,c,d⟩))
    (fun _ _ ⟨⟨h',e,a,b,c,d⟩,k⟩=>by subst e;exact h h' a b c d k) fun _ _ z=>z.1
noncomputable def DictIs (h:Heap) (a:Addr) (od:Option Addr):Prop:=∃ o,h.get? a=some o∧o.dict=od
theorem DictIs.on {h h':Heap} {a:Addr} {od:Option Addr} (x:DictIs h a od) (k:KD h h') (t:∃ o,h'.get? a=some o):DictIs h' a od:=by
  obtain ⟨o,e,d⟩:=x
  obtain ⟨o',e'⟩:=t
  exact ⟨o',e',(k.at' e e').trans d⟩
end
end L2
namespace L2
open PySem PySem.Spec PyProof.Rows
theorem HOk.on {P:Program} {w:World} {H:Hp} {h h':Heap} (x:HOk P w H h) (k:∀ b u,H b≠none→h.get? b=some u→h'.get? b=some u):HOk P w H h':=fun a o e=>
  (x a o e).stay (fun b u hb q=>k b u (by
    rcases hb with rfl | hb
    · rw [e];exact fun z=>by cases z
    · rw [hb];exact fun z=>by cases z) q) (fun _ q=>q) fun _ _ q=>q
theorem obj_some {P:Program} {w:World} {H:Hp} {h:Heap} {a:Addr} {o:HO} (x:ObjOk P w H h a o):∃ u,h.get? a=some u:=by
  cases o with
  | lst xs=>obtain ⟨_,_,_,_,e⟩:=x;exact ⟨_,e⟩
  | tup xs=>obtain ⟨_,_,_,o,e,_⟩:=x;exact ⟨_,e⟩
  | dK kvs=>obtain ⟨_,_,_,_,o,_,_,e,_⟩:=x;exact ⟨_,e⟩
  | dT kvs=>obtain ⟨_,_,_,_,o,_,_,e,_⟩:=x;exact ⟨_,e⟩
  | set S n=>obtain ⟨o,_,_,_,e,_⟩:=x;exact ⟨_,e⟩
  | ins C dx fs=>obtain ⟨_,_,_,e,_⟩:=x;exact ⟨_,e⟩
  | own y=>exact x
  | xd fs=>obtain ⟨_,⟨_,_,_,e,_⟩,_⟩:=x;exact ⟨_,e⟩
  | rng lo hi=>obtain ⟨_,_,_,e⟩:=x;exact ⟨_,e⟩
  | frz ob u=>obtain ⟨e,_⟩:=x;exact ⟨_,e⟩
  | tbl ps=>exact ⟨_,(show h.get? a=some _ from x)⟩
  | met f y=>exact ⟨_,(show h.get? a=some _ from x)⟩
  | ext φ=>obtain ⟨_,e,_⟩:=x;exact e
noncomputable def Flown (outer:List Env) (s:Shared) (H':Hp) (a C t:Addr) (s':Shared):Prop:=
  ∃ B:Heap,B.FlyingW outer a (.ref C) (.ref t) s'.heap∧∀ b,(H' b≠none∨∃ o,s.heap.get? b=some o)→b∉frs outer→∀ o,s'.heap.get? b=some o→B.get? b=some o
noncomputable def CXE (P:Program) (w:World):CXT:=fun outer H s E e s'=>
  ∃ a C t od H',e= .ref a∧s'.os=s.os∧AllBare s'.gens∧Un (frs outer) [] H H' s.heap s'.heap∧HOk P w H' s'.heap∧Flown outer s H' a C t s'∧DictIs s'.heap a od∧E (.ref C) od H'
theorem frs_cons {env:Env} {L:Addr} {outer:List Env} (h:env.frame=some L):frs (env::outer)=L::frs outer:=by
  unfold frs
  rw [List.filterMap_cons,h]
theorem funs_mem {h base:Heap}:∀ {l:List Env} {b:Addr},h.FunFrames base l→b∈frs l→base.get? b=none∧∃ o,h.get? b=some o∧∀ vs,o.data≠ .fields vs
  | [],b,_,hb=>by cases hb
  | env::l,b,⟨_,⟨L,o,e1,e2,e3,e4⟩,r⟩,hb=>by
    rw [frs_cons e1] at hb
    rcases List.mem_cons.mp hb with rfl | hb
    · exact ⟨e2,o,e3,e4⟩
    · exact funs_mem r hb
theorem passes_cx {P:Program} {w:World} {K:PySem.W.Frag} {mg:Str→Option Value} {base:Heap} {N:List Str} {qual:Str} {scope:Scope} {f:Addr} {cd:Value} {A:Around} {outer:List Env} {s₀:Shared} {H₀:Hp} {E E':XK}
    (hE:∀ c o H,E c o H→E' c o H):Passes (CXE P w) (cxOf (CXE P w) P w K mg base N qual scope f cd A outer s₀ H₀ E') E:=by
  intro pins σ H s e s' I h
  obtain ⟨a,C,t,od,H',rfl,os,bare,un,hok,⟨B,fl,cov⟩,di,q⟩:=h
  have hfr:(envOfC qual scope s₀.heap.objs.size f cd).frame=some s₀.heap.objs.size:=rfl
  have hfs:frs (envOfC qual scope s₀.heap.objs.size f cd::outer)=s₀.heap.objs.size::frs outer:=frs_cons hfr
  refine leaves_onD I.ok.frames hfr fl fun h' fl' ups kd=> ?_
  have ib:Un (frs outer) [] H₀ H s₀.heap s.heap:=I.base
  have nl:∀ b o,s₀.heap.get? b=some o→b≠s₀.heap.objs.size:=fun b o e=>Nat.ne_of_lt (Heap.lt_size e)
  have toB:∀ b,(H' b≠none∨∃ o,s.heap.get? b=some o)→b∉frs (envOfC qual scope s₀.heap.objs.size f cd::outer)→∀ o,s'.heap.get? b=some o→h'.get? b=some o:=fun b hb hn o e=>fl'.1 b o (cov b hb hn o e)
  have untr:∀ b,b∈frs (envOfC qual scope s₀.heap.objs.size f cd::outer)→H' b=none:=fun b hb=>by
    obtain ⟨_,o,e,_⟩:=funs_mem I.stack hb
    exact un.free b o e (I.stkFree b hb) (by simp)
  have hok':HOk P w H' h':=hok.on fun b u hb e=>by
    refine toB b (.inl hb) (fun z=>hb (untr b z)) u e
  refine ⟨a,C,t,od,H',rfl,os.trans I.os,bare,?_,hok',⟨B,fl',fun b hb hn o e=> ?_⟩,di.on kd (let ⟨o,e,_⟩:=fl'.there;⟨o,e⟩),hE _ _ _ q⟩
  · have notin:∀ b o,s₀.heap.get? b=some o→b∉frs outer→b∉frs (envOfC qual scope s₀.heap.objs.size f cd::outer):=fun b o e hn z=>by
      rw [hfs] at z
      rcases List.mem_cons.mp z with z | z
      · exact nl b o e z
      · exact hn z
    have isin:∀ b,b∈frs outer→b∈frs (envOfC qual scope s₀.heap.objs.size f cd::outer):=fun b hb=>by rw [hfs];exact List.mem_cons_of_mem _ hb
    refine ⟨fun b o e hH hn _=> ?_,fun b o e hH hb _=> ?_,fun b o e hH _=> ?_,fun b o e _=> ?_,fun b xs e=>un.tups b xs (ib.tups b xs e),fun b o u e=>un.frzs b o u (ib.frzs b o u e),fun b ps e=> ?_⟩
    · have e1:=ib.keep b o e hH hn (by simp)
      exact toB b (.inr ⟨o,e1⟩) (notin b o e hn) o (un.keep b o e1 (ib.free b o e hH (by simp)) (notin b o e hn) (by simp))
    · obtain ⟨sl,e1⟩:=ib.slot b o e hH hb (by simp)
      obtain ⟨sl2,e2⟩:=un.slot b _ e1 (ib.free b o e hH (by simp)) (isin b hb) (by simp)
      obtain ⟨_,o',e',nf⟩:=funs_mem fl.2.2.1 (isin b hb)
      rw [e2] at e'
      cases e'
      obtain ⟨sl3,e3⟩:=ups b _ e2 nf
      exact ⟨sl3,e3⟩
    · obtain ⟨o1,e1⟩:=ib.there b o e (by simp)
      exact un.free b o1 e1 (ib.free b o e hH (by simp)) (by simp)
    · obtain ⟨o1,e1⟩:=ib.there b o e (by simp)
      obtain ⟨o2,e2⟩:=un.there b o1 e1 (by simp)
      by_cases hb:b∈frs outer
      · obtain ⟨_,o',e',nf⟩:=funs_mem fl.2.2.1 (isin b hb)
        obtain ⟨sl3,e3⟩:=ups b _ e' nf
        exact ⟨_,e3⟩
      · exact ⟨o2,toB b (.inr ⟨o1,e1⟩) (notin b o e hb) o2 e2⟩
    · obtain ⟨m1,e1⟩:=ib.tbls b ps e
      obtain ⟨m2,e2⟩:=un.tbls b _ e1
      exact ⟨m1++m2,by rw [e2,Array.append_assoc]⟩
  · have hn2:b∉frs (envOfC qual scope s₀.heap.objs.size f cd::outer):=fun z=>by
      have z0:=z
      rw [hfs] at z
      rcases List.mem_cons.mp z with z | z
      · rcases hb with hb | ⟨o1,e1⟩
        · exact hb (untr b z0)
        · exact nl b o1 e1 z
      · exact hn z
    obtain ⟨o2,e2,hb2⟩:∃ o2,s'.heap.get? b=some o2∧(H' b≠none∨∃ o,s.heap.get? b=some o):=by
      rcases hb with hb | ⟨o1,e1⟩
      · cases hx:H' b with
        | none=>exact absurd hx hb
        | some u=>
          obtain ⟨o2,e2⟩:=obj_some (hok b u hx)
          exact ⟨o2,e2, .inl (fun z=>by cases z)⟩
      · obtain ⟨o3,e3⟩:=ib.there b o1 e1 (by simp)
        obtain ⟨o2,e2⟩:=un.there b o3 e3 (by simp)
        exact ⟨o2,e2, .inr ⟨o3,e3⟩⟩
    have e3:=cov b hb2 hn2 o2 e2
    have e4:=fl'.1 b o2 e3
    rw [show h'.get? b=some o from e] at e4
    cases e4
    exact e3
end L2
namespace L2
open PySem PySem.Spec PyProof.Rows
theorem funs_base {h base B:Heap}:∀ {l:List Env},h.FunFrames base l→(∀ b∈frs l,B.get? b=none)→h.FunFrames B l
  | [],_,_=>trivial
  | env::l,⟨k,⟨L,o,e1,e2,e3,e4⟩,r⟩,hb=>by
    rw [frs_cons e1] at hb
    exact ⟨k,⟨L,o,e1,hb L (List.mem_cons_self ..),e3,e4⟩,funs_base r fun b h'=>hb b (List.mem_cons_of_mem _ h')⟩
section
variable {P:Program} {w:World} {K:PySem.W.Frag} {mg:Str→Option Value} {base:Heap} {N:List Str} {qual:Str} {scope:Scope} {f:Addr} {cd:Value} {A:Around} {outer:List Env} {s₀:Shared} {H₀:Hp} {E:XK}
theorem raise_cx {pins:List (Addr × Obj)} {σ:St} {H:Hp} {s:Shared} {e C:Addr} {vs:List Value} {h':Heap} (I:Inv (cxOf (CXE P w) P w K mg base N qual scope f cd A outer s₀ H₀ E) pins σ H s) (mk:Heap.MadeExcOf s.heap h' e (.ref C) vs) (q:E (.ref C) none H):
    (cxOf (CXE P w) P w K mg base N qual scope f cd A outer s₀ H₀ E).xe (.ref e) { s with heap:=h' }:=by
  have hfr:(envOfC qual scope s₀.heap.objs.size f cd).frame=some s₀.heap.objs.size:=rfl
  have hfs:frs (envOfC qual scope s₀.heap.objs.size f cd::outer)=s₀.heap.objs.size::frs outer:=frs_cons hfr
  refine leaves_madeD (base:=PySem.W.hideAll s.heap (frs (envOfC qual scope s₀.heap.objs.size f cd::outer))) (h:=s.heap) I.ok.frames hfr (fun b o e=>PySem.W.of_hideAll _ e) (funs_base I.stack fun b hb=>PySem.W.hideAll_none _ hb) mk fun h2 t fl ups kd=> ?_
  have ib:Un (frs outer) [] H₀ H s₀.heap s.heap:=I.base
  have nl:∀ b o,s₀.heap.get? b=some o→b≠s₀.heap.objs.size:=fun b o e=>Nat.ne_of_lt (Heap.lt_size e)
  have inB:∀ b o,s.heap.get? b=some o→b∉frs (envOfC qual scope s₀.heap.objs.size f cd::outer)→h2.get? b=some o:=fun b o e hn=>fl.1 b o (PySem.W.hideAll_get _ e hn)
  have notin:∀ b o,s₀.heap.get? b=some o→b∉frs outer→b∉frs (envOfC qual scope s₀.heap.objs.size f cd::outer):=fun b o e hn z=>by
    rw [hfs] at z
    rcases List.mem_cons.mp z with z | z
    · exact nl b o e z
    · exact hn z
  have isin:∀ b,b∈frs outer→b∈frs (envOfC qual scope s₀.heap.objs.size f cd::outer):=fun b hb=>by rw [hfs];exact List.mem_cons_of_mem _ hb
  refine ⟨e,C,t,none,H,rfl,I.os,I.bare,?_,I.hok.on fun b u hb e=>inB b u e (fun z=>hb (I.stkFree b z)),⟨_,fl,fun b hb hn o e=> ?_⟩,DictIs.on (let ⟨_,e,_⟩:=mk.there;⟨_,e,rfl⟩) kd (let ⟨o,e,_⟩:=fl.there;⟨o,e⟩),q⟩
  · refine ⟨fun b o e hH hn _=> ?_,fun b o e hH hb _=> ?_,fun b o e hH _=>ib.free b o e hH (by simp),fun b o e _=> ?_,fun b xs e=>ib.tups b xs e,fun b o u e=>ib.frzs b o u e,fun b ps e=>ib.tbls b ps e⟩
    · exact inB b o (ib.keep b o e hH hn (by simp)) (notin b o e hn)
    · obtain ⟨sl,e1⟩:=ib.slot b o e hH hb (by simp)
      obtain ⟨_,o',e',nf⟩:=funs_mem I.stack (isin b hb)
      rw [e1] at e'
      cases e'
      obtain ⟨sl3,e3⟩:=ups b _ (mk.keeps b _ e1) nf
      exact ⟨sl3,e3⟩
    · obtain ⟨o1,e1⟩:=ib.there b o e (by simp)
      by_cases hb:b∈frs outer
      · obtain ⟨_,o',e',nf⟩:=funs_mem I.stack (isin b hb)
        obtain ⟨sl3,e3⟩:=ups b _ (mk.keeps b _ e') nf
        exact ⟨_,e3⟩
      · exact ⟨o1,inB b o1 e1 (notin b o e hb)⟩
  · have hn2:b∉frs (envOfC qual scope s₀.heap.objs.size f cd::outer):=fun z=>by
      rcases hb with hb | ⟨o1,e1⟩
      · exact hb (I.stkFree b z)
      · exact notin b o1 e1 hn z
    obtain ⟨o2,e2⟩:∃ o2,s.heap.get? b=some o2:=by
      rcases hb with hb | ⟨o1,e1⟩
      · cases hx:H b with
        | none=>exact absurd hx hb
        | some u=>exact obj_some (I.hok b u hx)
      · exact ib.there b o1 e1 (by simp)
    have e3:=inB b o2 e2 hn2
    have e:h2.get? b=some o:=e
    rw [e] at e3
    cases e3
    exact PySem.W.hideAll_get _ e2 hn2
noncomputable def tRaise (E:XK) (C:Addr) (ta:TA):TS:=fun _ σ H=>ta σ H fun vs H1=>vs.length≤1000∧E (.ref C) none H1
theorem ps_raise {x:Str} {C:Addr} {B newId initId:String} {bm:List Value} {e₀:Expr} {rest:List Expr} {np cpos pos:Pos} {ta:TA} (O:OwnCls x C bm newId mg base) (FB:ExcBaseFacts B newId initId bm)
    (ha:PA (cxOf (CXE P w) P w K mg base N qual scope f cd A outer s₀ H₀ E) (e₀::rest) ta)
    (he:starEach (e₀::rest) (envOfC qual scope s₀.heap.objs.size f cd)=(false,eval e₀ (envOfC qual scope s₀.heap.objs.size f cd))::starEach rest (envOfC qual scope s₀.heap.objs.size f cd):=by rfl)
    (hplain:(backTo cpos (starEach rest (envOfC qual scope s₀.heap.objs.size f cd))).any (·.1)=false:=by rfl)
    (hg:Gl (cxOf (CXE P w) P w K mg base N qual scope f cd A outer s₀ H₀ E) x:=by rfl) (hd:(x == ("__debug__":Str))=false:=by decide):
    PS (cxOf (CXE P w) P w K mg base N qual scope f cd A outer s₀ H₀ E) (.Raise (some (.Call (.Name x np) (e₀::rest) [] cpos)) none pos) (tRaise E C ta):=by
  intro pins s σ H D I h
  obtain ⟨tl,Nn,nm,q,bs,hdct,sn,sub,ab,col,dd,k0,k1,k2,k3,k5,mN,hC,hN,hni,T⟩:=O.obj
  have hw:=ha cpos pins s σ H _ I h
  refine wpAny_Raise_call_subT (C:=C) (nm:=nm) (q:=q) (N:=Nn) (bs:=bs) (bm:=tl) (hdct:=hdct) (sn:=sn) (sub:=sub) (ab:=ab) (col:=col) (dd:=dd) (k0:=k0) (k1:=k1) (k2:=k2) (k3:=k3) (k5:=k5)
    FB (mN:=mN) (T.hasType FB.hasBase) (I.ok.hd rfl) (by
      show (backTo cpos (starEach (e₀::rest) (envOfC qual scope s₀.heap.objs.size f cd))).any (·.1)=false
      rw [he]
      show (false||(backTo cpos (starEach rest (envOfC qual scope s₀.heap.objs.size f cd))).any (·.1))=false
      rw [hplain];rfl) hni (ld_glob I hg O.bound ⟨rfl,?_⟩ hd)
  have he':starEach (e₀::rest) (cxOf (CXE P w) P w K mg base N qual scope f cd A outer s₀ H₀ E).env=(false,eval e₀ (envOfC qual scope s₀.heap.objs.size f cd))::starEach rest (envOfC qual scope s₀.heap.objs.size f cd):=he
  rw [he'] at hw ⊢
  refine Calls.evalArgs_plain (thn hw fun us s2 ⟨vs,H1,I1,r,hl,hq⟩=> ?_)
  have bk:∀ b o,base.get? b=some o→s2.heap.get? b=some o:=I1.bk
  refine ⟨rfl,?_,bk _ _ hC,hN.keeps bk,T.keeps bk,fun h' e mk=>raise_cx I1 mk hq⟩
  rw [← r.length]
  exact Nat.le_trans hl (by decide)
end
end L2
namespace L2
open PySem PySem.Spec PyProof.Rows
theorem upto_trans {h h1 h2:Heap} (a:h.UpToSlots h1) (b:h1.UpToSlots h2):h.UpToSlots h2:=fun c o e nf=>by
  obtain ⟨sl,e1⟩:=a c o e nf
  obtain ⟨sl2,e2⟩:=b c _ e1 nf
  exact ⟨sl2,e2⟩
theorem flown_on {P:Program} {w:World} {l:List Env} {s s₁:Shared} {H H':Hp} {a C t:Addr} {B h3:Heap} (un:Un (frs l) [] H H' s.heap s₁.heap) (hok:HOk P w H' s₁.heap) (fl:B.FlyingW l a (.ref C) (.ref t) s₁.heap)
    (cov:∀ b,(H' b≠none∨∃ o,s.heap.get? b=some o)→b∉frs l→∀ o,s₁.heap.get? b=some o→B.get? b=some o) (untr:∀ b∈frs l,H' b=none) (fl3:B.FlyingW l a (.ref C) (.ref t) h3) (ups:s₁.heap.UpToSlots h3):
    Un (frs l) [] H H' s.heap h3∧HOk P w H' h3:=by
  have inB:∀ b,(H' b≠none∨∃ o,s.heap.get? b=some o)→b∉frs l→∀ o,s₁.heap.get? b=some o→h3.get? b=some o:=fun b hb hn o e=>fl3.1 b o (cov b hb hn o e)
  refine ⟨⟨fun b o e hH hn hx=>inB b (.inr ⟨o,e⟩) hn o (un.keep b o e hH hn hx),fun b o e hH hb hx=> ?_,un.free,fun b o e hx=> ?_,un.tups,un.frzs,un.tbls⟩,hok.on fun b u hb e=>inB b (.inl hb) (fun z=>hb (untr b z)) u e⟩
  · obtain ⟨sl,e1⟩:=un.slot b o e hH hb hx
    obtain ⟨_,o',e',nf⟩:=funs_mem fl.2.2.1 hb
    rw [e1] at e'
    cases e'
    obtain ⟨sl3,e3⟩:=ups b _ e1 nf
    exact ⟨sl3,e3⟩
  · obtain ⟨o1,e1⟩:=un.there b o e hx
    by_cases hb:b∈frs l
    · obtain ⟨_,o',e',nf⟩:=funs_mem fl.2.2.1 hb
      obtain ⟨sl,e2⟩:=ups b _ e' nf
      exact ⟨_,e2⟩
    · exact ⟨o1,inB b (.inr ⟨o,e⟩) hb o1 e1⟩
noncomputable def excO (a C:Addr) (od:Option Addr):HO:= .ext fun h=>∃ o,h.get? a=some o∧o.cls= .ref C∧o.dict=od∧∃ vs,o.data= .fields vs
theorem exc_ok {P:Program} {w:World} {H:Hp} {h:Heap} {a C:Addr} {o:Obj} {vs:Array Value} (e:h.get? a=some o) (c:o.cls= .ref C) (d:o.data= .fields vs):ObjOk P w H h a (excO a C o.dict):=
  ⟨⟨o,e,c,rfl,vs,d⟩,⟨o,e⟩,fun _ _ ⟨o,e,c⟩ k=>⟨o,k o e,c⟩⟩
theorem track_ok {P:Program} {w:World} {H:Hp} {h:Heap} {a:Addr} {u:HO} (hok:HOk P w H h) (n:H a=none) (new:ObjOk P w (upd H a u) h a u):HOk P w (upd H a u) h:=fun b o e=>by
  by_cases z:b=a
  · subst z
    rw [upd_same] at e
    cases e
    exact new
  · rw [upd_ne z] at e
    have ne:∀ c v,H c=some v→c≠a:=fun c v q z=>by rw [z,n] at q;cases q
    exact (hok b o e).stay (fun c v _ q=>q) (fun c q=>(upd_ne (ne c _ q)).trans q) fun c xs q=>(upd_ne (ne c _ q)).trans q
theorem track_un {fs ex:List Addr} {H H':Hp} {h h':Heap} {a:Addr} {u:HO} (un:Un fs ex H H' h h') (n:H' a=none) (na:h.get? a=none):Un fs ex H (upd H' a u) h h':=by
  have ne:∀ c v,H' c=some v→c≠a:=fun c v q z=>by rw [z,n] at q;cases q
  refine ⟨un.keep,un.slot,fun b o e hH hx=> ?_,un.there,fun b xs e=> ?_,fun b o v e=> ?_,fun b ps e=> ?_⟩
  · have z:b≠a:=fun z=>by rw [z,na] at e;cases e
    rw [upd_ne z]
    exact un.free b o e hH hx
  · have:=un.tups b xs e
    exact (upd_ne (ne _ _ this)).trans this
  · have:=un.frzs b o v e
    exact (upd_ne (ne _ _ this)).trans this
  · obtain ⟨m,this⟩:=un.tbls b ps e
    exact ⟨m,(upd_ne (ne _ _ this)).trans this⟩
section
variable {X:Cx} {pins:List (Addr × Obj)} {σ:St} {H:Hp} {s s₁:Shared} {E:XK} {e:Value}
theorem land {E1 E2:Value→Shared→Prop} {R:Shared→Prop} (I:Inv X pins σ H s) (hst:X.stack=X.env::X.outer) (hf:X.env.frame=some X.env.locals) (h:CXE X.prog X.w X.stack H s E e s₁)
    (k:∀ (a C t:Addr) (od:Option Addr) (H':Hp) (B h3:Heap),e= .ref a→B.FlyingW X.stack a (.ref C) (.ref t) h3→s₁.heap.UpToSlots h3→DictIs h3 a od→(∀ h4:Heap,B.FlyingW X.stack a (.ref C) (.ref t) h4→s₁.heap.UpToSlots h4→DictIs h4 a od→Inv X pins σ H' { s₁ with heap:=h4 }∧Inv X pins σ (upd H' a (excO a C od)) { s₁ with heap:=h4 })→H' a=none→E (.ref C) od H'→R { s₁ with heap:=h3 }):
    wpAny (model X.prog X.w) X.A (noteFrame e X.env) (fun _ s₂=>wpAny (model X.prog X.w) X.A (setFlight e none) (fun _ s₃=>R s₃) E2 s₂) E1 s₁:=by
  obtain ⟨a,C,t,od,H',rfl,os,bare,un,hok,⟨B,fl,cov⟩,di,q⟩:=h
  have untr:∀ b∈frs X.stack,H' b=none:=fun b hb=>by
    obtain ⟨_,o,e,_⟩:=funs_mem I.stack hb
    exact un.free b o e (I.stkFree b hb) (by simp)
  obtain ⟨oa,hoa,hca⟩:=fl.there
  have af:a∉frs X.stack:=fun z=>by
    obtain ⟨_,_,_,oe,vs,T,oT,ts,he,hcls,hd,_⟩:=id fl
    obtain ⟨_,o',e',nf⟩:=funs_mem fl.2.2.1 z
    rw [he] at e'
    cases e'
    exact nf _ hd
  have an:H' a=none:=by
    cases hx:H' a with
    | none=>rfl
    | some u=>
      have:=cov a (.inl (by rw [hx];exact fun z=>by cases z)) af oa hoa
      rw [fl.2.1] at this
      cases this
  have as:s.heap.get? a=none:=by
    cases hx:s.heap.get? a with
    | none=>rfl
    | some o=>
      have:=cov a (.inr ⟨o,hx⟩) af oa hoa
      rw [fl.2.1] at this
      cases this
  have fl':=fl
  rw [hst] at fl'
  refine looks_onD (by rw [I.ok.frames,hst]) hf fl' fun h2 hh u2 kd2=>landsD (s:={ s₁ with heap:=h2 }) hh fun h3 fl3 u3 kd3=> ?_
  rw [← hst] at fl3
  refine k a C t od H' B h3 rfl fl3 (upto_trans u2 u3) (di.on (kd2.trans kd3) (let ⟨o,e,_⟩:=fl3.there;⟨o,e⟩)) (fun h4 fl4 u4 di4=> ?_) an q
  obtain ⟨un4,hok4⟩:=flown_on un hok fl cov untr fl4 u4
  obtain ⟨_,_,_,o4,vs4,_,_,_,e4,⟨c4,_⟩,dd4,_⟩:=id fl4
  have d4:o4.dict=od:=by
    obtain ⟨o5,e5,d5⟩:=di4
    rw [e4] at e5
    cases e5
    exact d5
  subst d4
  exact ⟨I.call' (s':={ s₁ with heap:=h4 }) (ch:=[]) os un4 hok4 bare (fun _ z=>by cases z),I.call' (s':={ s₁ with heap:=h4 }) (ch:=[]) os (track_un un4 an as) (track_ok hok4 an (exc_ok e4 c4 dd4)) bare (fun _ z=>by cases z)⟩
end
end L2
namespace L2
open PySem PySem.Spec PyProof.Rows
noncomputable def Cx.tryC (X:Cx) (pn:List (Addr × Obj)) (xe:Value→Shared→Prop):Cx:={ X with pn:=pn,xe:=xe }
noncomputable def Cx.markC (X:Cx) (a:Addr) (xe:Value→Shared→Prop):Cx:={ X with A:=X.A.mark (some (.ref a)),calm:=false,xe:=xe }
section
variable {X:Cx} {pins pins0:List (Addr × Obj)} {σ:St} {H:Hp} {s:Shared} {xe:Value→Shared→Prop}
theorem Inv.tryC (I:Inv X pins σ H s):Inv (X.tryC (X.pn++pins) xe) [] σ H s:=
  ⟨⟨I.ok.mod,I.ok.kind,I.ok.glob,I.ok.blt,I.ok.above,I.ok.inj,I.ok.has,I.ok.cab,I.ok.hd,I.ok.frames,I.ok.stk,I.ok.exf,I.ok.bs,I.ok.bsz,I.ok.noex,I.ok.exfs,I.ok.funs,I.ok.frf⟩,
    I.os,I.bare,I.base,I.loc,I.cell,I.free,I.freeC,fun p hp=>I.pin p (by simpa [Cx.tryC] using hp),I.hok,I.len⟩
theorem Inv.untry (ok:X.Ok) (I:Inv (X.tryC (X.pn++pins0) xe) pins σ H s):Inv X pins0 σ H s:=
  ⟨ok,I.os,I.bare,I.base,I.loc,I.cell,I.free,I.freeC,fun p hp=>I.pin p (List.mem_append_left _ hp),I.hok,I.len⟩
theorem Inv.markC {a:Addr} (I:Inv X pins σ H s):Inv (X.markC a xe) pins σ H s:=
  ⟨⟨I.ok.mod,I.ok.kind,I.ok.glob,I.ok.blt,I.ok.above,I.ok.inj,I.ok.has,I.ok.cab,fun z=>(by cases z),I.ok.frames,I.ok.stk,I.ok.exf,I.ok.bs,I.ok.bsz,I.ok.noex,I.ok.exfs,I.ok.funs,I.ok.frf⟩,
    I.os,I.bare,I.base,I.loc,I.cell,I.free,I.freeC,I.pin,I.hok,I.len⟩
theorem Inv.unmark {a:Addr} (ok:X.Ok) (I:Inv (X.markC a xe) pins σ H s):Inv X pins σ H s:=
  ⟨ok,I.os,I.bare,I.base,I.loc,I.cell,I.free,I.freeC,I.pin,I.hok,I.len⟩
theorem unbind_ok {M:Model} {A:Around} {E:Value→Shared→Prop} {i:Nat} {x:Str} {v:V} {Q:Unit→Shared→Prop} (I:Inv X pins σ H s) (hN:X.N.Nodup) (hi:X.N[i]?=some x) (hx:X.env.scope.names.lookup x=some .local) (hv:σ[i]?=some (some v))
    (h:∀ s',Inv X pins (σ.set i none) H s'→Q () s'):wpAny M A (unbindName X.env x) Q E s:=by
  obtain ⟨m,hn,hl⟩:=id I.loc
  have hcls:(X.env.scope.kind == .class||(X.env.scope.kind == .module&&X.env.locals != X.env.globals))=false:=by rw [I.ok.kind];rfl
  obtain ⟨u0,_,q0⟩:=hl i x v hi hv (.inl hx)
  have hm:m x=some u0:=by
    rcases q0 with ⟨_,e⟩ | ⟨k,_⟩
    · exact e
    · rcases k with k | k
      · rw [show X.env.kindOf x=some .local from hx] at k;cases k
      · rw [show X.env.kindOf x=some .local from hx] at k;cases k
  have hiσ:i<σ.length:=by rw [I.len];exact (List.getElem?_eq_some_iff.mp hi).1
  have cne:=I.cne
  refine wpAny_unbindName_local hx hn hm hcls fun h' u hn' hs=> ?_
  obtain ⟨oL,_,_,hoL,_⟩:=id hn
  have neL:∀ b o,X.s₀.heap.get? b=some o→b≠X.env.locals:=fun b o e=>Nat.ne_of_lt (Nat.lt_of_lt_of_le (Heap.lt_size e) I.ok.above)
  refine h _ ⟨I.ok,I.os,I.bare,⟨fun b o e n hb hx=> ?_,fun b o e n hb hx=> ?_,I.base.free,fun b o e hx=> ?_,I.base.tups,I.base.frzs,I.base.tbls⟩,⟨_,hn',fun j y v' e1 e2 e3=> ?_⟩,fun y c e=> ?_,I.free,I.freeC,fun p hp=> ?_,fun b ob e=> ?_,by simpa using I.len⟩
  · exact (hs.2 b (neL b o e)).trans (I.base.keep b o e n hb hx)
  · obtain ⟨sl,e1⟩:=I.base.slot b o e n hb hx
    exact ⟨sl,(hs.2 b (neL b o e)).trans e1⟩
  · obtain ⟨o',e1⟩:=I.base.there b o e hx
    exact ⟨o',(hs.2 b (neL b o e)).trans e1⟩
  · by_cases hj:j=i
    · subst hj
      rw [List.getElem?_set_self hiσ] at e2
      cases e2
    · rw [List.getElem?_set_ne (Ne.symm hj)] at e2
      obtain ⟨u',r',q⟩:=hl j y v' e1 e2 e3
      refine ⟨u',r',?_⟩
      rcases q with ⟨k,e⟩ | ⟨k,c,e,z⟩
      · refine .inl ⟨k,?_⟩
        have:y≠x:=fun e=>hj (nodup_ix hN e1 (e▸hi))
        simp [this,e]
      · exact .inr ⟨k,c,e,z.sameBut hs (cne y c e)⟩
  · obtain ⟨w',z⟩:=I.cell y c e
    exact ⟨w',z.sameBut hs (cne y c e)⟩
  · obtain ⟨e,n,ne,nf,d⟩:=I.pin p hp
    exact ⟨(hs.2 p.1 ne).trans e,n,ne,nf,d⟩
  · refine (I.hok b ob e).stay (fun c w' hc q=>(hs.2 c ?_).trans q) (fun _ q=>q) fun _ _ q=>q
    rintro rfl
    rcases hc with rfl | hc
    · rw [I.free] at e;cases e
    · rw [I.free] at hc;cases hc
end
noncomputable def dTry (j:Nat) (D:Ends):Ends:={ nx:=fun σ H=>D.nx (σ.set j none) H,rt:=D.rt,bk:=fun σ H=>D.bk (σ.set j none) H,ct:=fun σ H=>D.ct (σ.set j none) H }
noncomputable def eTry (K:PySem.W.Frag) (CL:Addr) (len j:Nat) (ts:TS) (D:Ends):XK:=fun cls od H'=>∃ C,cls= .ref C∧PySem.W.exmOne K cls (.ref CL)=some true∧
  ∀ (a:Addr) (σ:St),H' a=none→σ.length=len→ts (dTry j D) (σ.set j (some (.ref a))) (upd H' a (excO a C od))
noncomputable def tTry (K:PySem.W.Frag) (CL:Addr) (len j:Nat) (tb:XK→TS) (ts:TS):TS:=fun D σ H=>tb (eTry K CL len j ts D) D σ H
end L2
namespace L2
open PySem PySem.Spec PyProof.Rows PySem.W
theorem ps_try {X:Cx} {x n:Str} {CL:Addr} {j:Nat} {body:List Stmt} {b₀:Stmt} {suite:List Stmt} {tb:XK→TS} {ts:TS} {xp hp pos:Pos} (hst:X.stack=X.env::X.outer) (hf:X.env.frame=some X.env.locals) (hm:X.mg x=some (.ref CL))
    (hN:X.N.Nodup) (hj:X.N[j]?=some n) (hx:X.env.scope.names.lookup n=some .local)
    (hb:∀ (pn:List (Addr × Obj)) (xe:Value→Shared→Prop) (E:XK),Passes (CXE X.prog X.w) (X.tryC pn xe) E→PSs (X.tryC pn xe) body (tb E)) (hs:∀ (a:Addr) (xe:Value→Shared→Prop),PSs (X.markC a xe) (b₀::suite) ts)
    (hg:Gl X x:=by rfl) (hd:(x == ("__debug__":Str))=false:=by decide):
    PS X (.Try body [.ExceptHandler (some (.Name x xp)) (some n) (b₀::suite) hp] [] [] pos) (tTry X.K CL X.N.length j tb ts):=by
  intro pins s σ H D I h
  refine wpAny_Try_except ?_
  have pass:Passes (CXE X.prog X.w) (X.tryC (X.pn++pins) (fun e s₁=>wpAny (model X.prog X.w) X.A (noteFrame e X.env) (fun _ s₂=>wpAny (model X.prog X.w) X.A (setFlight e none) (fun _ s₃=>wpAny (model X.prog X.w) X.A (handleBy e X.env [.ExceptHandler (some (.Name x xp)) (some n) (b₀::suite) hp]) (SP X pins D) X.xe s₃) X.xe s₂) X.xe s₁)) (eTry X.K CL X.N.length j ts D):=by
    intro pins' σ' H1 s1 e s' I1 hc
    have I1':Inv X pins σ' H1 s1:=I1.untry I.ok
    refine land I1' hst hf hc fun a C t od H' B h3 e0 fl3 u3 di3 inv an q=> ?_
    subst e0
    obtain ⟨C',eC,hx',hr⟩:=q
    cases eC
    have I3:=(inv h3 fl3 u3 di3).1
    obtain ⟨oa,hoa,hca⟩:=fl3.there
    refine wpAny_handleBy_cons (codeAny_handlers_test ?_) (by intro q;cases q)
    refine Calls.Name_function_global I.ok.kind hg (Calls.loadGlobal_global (by rw [I.ok.glob];exact I.mod.glob.keeps I3.bk) hm ?_) hd
    have lt:Looks (model X.prog X.w) h3 (typeOf (.ref a)) (.ref C):=hca▸(Looks.ld hoa).andThen .now
    refine Looks.here (s:={ s' with heap:=h3 }) (PySem.W.exm_one (K:=X.K) I3.kIn lt hx') ?_
    show codeAny _ _ (.handlers (.ref a) [.ExceptHandler none (some n) (b₀::suite) hp] X.env) _ _
    refine codeAny_handlers_suite_as ?_
    refine flightD (base:=B) (l:=X.stack) (s:={ s' with heap:=h3 }) fl3.1 fl3.2.2.1 fl3.2.2.2 fun h4 k1 k2 k3 k4 kd4=> ?_
    have fl4:B.FlyingW X.stack a (.ref C) (.ref t) h4:=⟨k1,fl3.2.1,k2,k3⟩
    have u4:s'.heap.UpToSlots h4:=upto_trans u3 fun b o e nf=>⟨o.slots,k4 b o e nf⟩
    have I4:=(inv h4 fl4 u4 (di3.on kd4 (let ⟨o,e,_⟩:=fl4.there;⟨o,e⟩))).2
    refine store_ok (v:= .ref a) I4 hN hj (.inl hx) rfl (fun s5 I5=> ?_) (.inr hx)
    refine wpAny_mono (hs a _ pins s5 _ _ (dTry j D) I5.markC (hr a σ' an I1'.len)) (fun f s6 hq=> ?_) fun _ _ y=>y
    have fin:∀ σ6 H6,Inv X pins σ6 H6 s6→∀ Qf:Shared→Prop,(∀ s7,Inv X pins (σ6.set j none) H6 s7→Qf s7)→wpAny (model X.prog X.w) X.A (do bindName X.env n .none;unbindBehindTheSuite X.env n hp) (fun _ s₃=>Qf s₃) X.xe s6:=fun σ6 H6 I6 Qf hQ=>by
      refine wpAny_bind (bindName_ (store_ok (v:= .non) I6 hN hj (.inl hx) rfl (fun s7 I7=> ?_) (.inr hx)))
      unfold unbindBehindTheSuite
      have hl6:j<σ6.length:=by rw [I6.len];exact (List.getElem?_eq_some_iff.mp hj).1
      refine wpAny_onRaise (unbind_ok (v:= .non) I7 hN hj hx (by rw [List.getElem?_set_self hl6]) fun s8 I8=> ?_)
      rw [List.set_set] at I8
      exact hQ s8 I8
    show wpAny (model X.prog X.w) X.A (do bindName X.env n .none;unbindBehindTheSuite X.env n hp) (fun _ s₃=>SP X pins D f s₃) X.xe s6
    cases f with
    | next=>
      obtain ⟨σ6,H6,I6,q6⟩:=hq
      exact fin σ6 H6 (I6.unmark I.ok) _ fun s7 I7=>⟨_,_,I7,q6⟩
    | brk=>
      obtain ⟨σ6,H6,I6,q6⟩:=hq
      exact fin σ6 H6 (I6.unmark I.ok) _ fun s7 I7=>⟨_,_,I7,q6⟩
    | cont=>
      obtain ⟨σ6,H6,I6,q6⟩:=hq
      exact fin σ6 H6 (I6.unmark I.ok) _ fun s7 I7=>⟨_,_,I7,q6⟩
    | ret u=>
      obtain ⟨v6,σ6,H6,I6,r6,q6⟩:=hq
      exact fin σ6 H6 (I6.unmark I.ok) _ fun s7 I7=>⟨v6,_,_,I7,r6,q6⟩
  refine wpAny_mono (hb _ _ _ pass [] s σ H D I.tryC h) (fun f s₁ hq=> ?_) fun _ _ y=>y
  cases f with
  | next=>
    obtain ⟨σ',H',I',q'⟩:=hq
    exact wpAny_execs_nil ⟨σ',H',I'.untry I.ok,q'⟩
  | brk=>
    obtain ⟨σ',H',I',q'⟩:=hq
    exact ⟨σ',H',I'.untry I.ok,q'⟩
  | cont=>
    obtain ⟨σ',H',I',q'⟩:=hq
    exact ⟨σ',H',I'.untry I.ok,q'⟩
  | ret u=>
    obtain ⟨v',σ',H',I',r',q'⟩:=hq
    exact ⟨v',σ',H',I'.untry I.ok,r',q'⟩
end L2
namespace HT
open PySem PySem.Spec PyProof.Rows PySem.W PySem.Calls PySem.Builtin PySem.Builtin.ObjectAttr PySem.Builtin.Getset_descriptor
noncomputable def ExcAt (a C:Addr) (h:Heap):Prop:=∃ o,h.get? a=some o∧o.cls= .ref C
structure ExcKind (K:Frag) (C:Addr):Prop where
  cl:(clsIn K C).isSome=true
  ga:findIn K (.ref C) "__getattribute__"=some (some (.builtin "BaseException.__getattribute__"))
  ng:findIn K (.ref C) "__getattr__"=some none
  hb:mroIn K C (.type "BaseException")=some true
  ha:findIn K (.ref C) "__class__"=some (some (.builtin "object.__class__"))
  hn:specialIn K (.builtin "object.__class__") "__get__"=some (some (.builtin "getset_descriptor.__get__"))
  htk:takesIn K (.builtin "object.__class__")=some true
  hm:mroIn K C (.type "object")=some true
theorem ExcAt.type {M:Model} {h:Heap} {a C:Addr} (x:ExcAt a C h):Looks M h (typeOf (.ref a)) (.ref C):=by
  obtain ⟨o,e,c⟩:=x
  exact c▸(Looks.ld e).andThen .now
theorem exc_find {K:Frag} {M:Model} {h:Heap} {a C:Addr} (k:ExcKind K C) (X:K.In h):Looks M h (find (.ref a) (.ref C) "__class__") (.bind (.builtin "getset_descriptor.__get__") (.builtin "object.__class__")):=by
  have L1:=looks_findIn (M:=M) X k.ha
  have L2:Looks M h (getOf (some (.builtin "object.__class__"))) (some (.builtin "getset_descriptor.__get__")):=looks_specialIn X k.hn
  have L3:=looks_takesIn (M:=M) X k.htk
  exact L1.andThen (L2.andThen ((show Looks M h (dataDescriptor? (some (.builtin "object.__class__")) (some (.builtin "getset_descriptor.__get__"))) (some (.builtin "getset_descriptor.__get__", .builtin "object.__class__")) from L3.andThen .now).andThen (Looks.tag .now)))
section
variable {prog:Program} {w:World} {A:Around} {E:Value→Shared→Prop} {s:Shared} {K:Frag} {a C:Addr}
theorem exc_get {R:Result→Shared→Prop} {tp:Value} (X:K.In s.heap) (x:ExcAt a C s.heap) (hm:mroIn K C (.type "object")=some true) (h:R (.ok (.ret (.ref C))) s):
    codeAny (model prog w) A (.call (.builtin "getset_descriptor.__get__") ⟨[.builtin "object.__class__", .ref a,tp],[]⟩) R s:=by
  obtain ⟨hh,g,dr,t,os⟩:=s
  have L0:=x.type (M:=model prog w)
  have L1:=looks_mroIn (M:=model prog w) X hm
  refine codeAny_call_builtin KF.slot_gs.plain KF.entry_gs (KF.slot_gs.check _ _ _ _ _ _ _ _ KF.type_class (KF.args_gs _ _ _) ?_)
  unfold Builtin.«getset_descriptor.__get__» descrGet
  rw [dga_obj]
  refine wpAny_bind (wpAny_pure ?_)
  unfold descrGetter descrCheckInstance descrNameAndClass isInstance
  simp only [KF.owner_class]
  repeat lk
  refine ⟨Code.quiet_builtin _ (by decide +kernel),codeAny_builtin KF.entry_class ?_⟩
  unfold Builtin.«object.__class__» shownTypeOf
  repeat lk
  exact h
theorem exc_check {Q:Unit→Shared→Prop} {nameV:Value} (k:ExcKind K C) (X:K.In s.heap) (x:ExcAt a C s.heap) (h:Q () s):wpAny (model prog w) A (checkBuiltinCall "BaseException.__getattribute__" ⟨[.ref a,nameV],[]⟩) Q E s:=by
  have hk:builtinKind "BaseException.__getattribute__"=some .slot:=by decide +kernel
  have hsplit:splitId "BaseException.__getattribute__"=some ("BaseException","__getattribute__"):=by decide +kernel
  have ha:=PySem.F.args_bexc_ga (.ref a) nameV
  have L0:=x.type (M:=model prog w)
  have L1:=looks_mroIn (M:=model prog w) X k.hb
  simp only [checkBuiltinCall,hk,hsplit]
  refine wpAny_bind ?_
  unfold isInstance
  repeat lk
  exact h
theorem exc_class {Q:Option Value→Shared→Prop} (k:ExcKind K C) (X:K.In s.heap) (x:ExcAt a C s.heap) (h:Q (some (.ref C)) { s with toks:=s.toks+1 }):wpAny (model prog w) A (getAttr? (.ref a) "__class__") Q E s:=by
  obtain ⟨hh,g,d,t,os⟩:=s
  have L0:=x.type (M:=model prog w)
  have L1:=looks_findIn (M:=model prog w) X k.ga
  have L2:=looks_findIn (M:=model prog w) X k.ng
  have L3:=exc_find (M:=model prog w) (a:=a) k X
  unfold getAttr? getAttrBy? getAttrBy
  refine wpAny_bind (wpAny_mkText (wpAny_bind (wpAny_attempt (wpAny_holding (wpAny_bind (L0.at (wpAny_bind (L1.at ?_))))))))
  show wpAny _ _ (getAttrByItsOwn (.ref a) _ (.ref C) (.builtin "BaseException.__getattribute__") false false) _ _ _
  unfold getAttrByItsOwn
  refine wpAny_bind (L2.at ?_)
  refine wpAny_bind (wpAny_attempt (wpAny_holding ?_))
  show wpAny _ _ (boundAndCalled (.builtin "BaseException.__getattribute__") (.ref a) _) _ _ _
  unfold boundAndCalled
  rw [PySem.F.excAttr_ValueError.ga.bind (.ref a)]
  refine wpAny_bind (wpAny_pure ?_)
  refine wpAny_call (codeAny_call_builtin PySem.F.excAttr_ValueError.ga.plain PySem.F.entry_bexc_ga (exc_check (s:=⟨hh,g,d,t+1,os⟩) k X x ?_))
  unfold Builtin.«object.__getattribute__»
  iterate 22 lk
  refine wpAny_call (exc_get (s:=⟨hh,g,d,t+1,os⟩) X x k.hm ?_)
  repeat lk
  exact h
theorem kitx_exc (k:ExcKind K C):KitX K (.ref a) (.ref C) (ExcAt a C) where
  ty:=fun _ _ _ x=>x.type
  it:=fun _ _ X _=>by
    obtain ⟨cd,hc⟩:=Option.isSome_iff_exists.mp k.cl
    unfold clsIn at hc
    split at hc
    · rename_i c' d' cd' sl' ho
      intro A' Q' E' s' kk q
      unfold isType loadHead
      exact wpAny_bind (wpAny_loadPart (kk _ _ (X _ _ ho)) (wpAny_pure q))
    · cases hc
  ne:=fun h tp dd its n sl X htp=>by
    obtain ⟨cd,hc⟩:=Option.isSome_iff_exists.mp k.cl
    refine Bool.eq_false_iff.mpr fun q=> ?_
    have e:C=tp:=Value.ref.inj (beq_iff_eq.mp q)
    subst e
    unfold clsIn at hc
    split at hc
    · rename_i c' d' cd' sl' ho
      have z:=(X _ _ ho).symm.trans htp
      cases z
    · cases hc
  ca:=fun X x h=>exc_class k X x h
end
end HT
namespace L2
open PySem PySem.Spec PyProof.Rows
theorem isexc_ok {X:Cx} {pins:List (Addr × Obj)} {σ:St} {H:Hp} {s:Shared} {A:Around} {E:Value→Shared→Prop} {Q:Value→Shared→Prop} {a C:Addr} {od:Option Addr} {c:Value} {b:Bool} (I:Inv X pins σ H s) (e:H a=some (excO a C od)) (k:HT.ExcKind X.K C)
    (h:PySem.W.kitOne X.K (.ref C) c=some b) (hq:∀ tk,Q (.bool b) { s with toks:=tk }):wpAny (model X.prog X.w) A (call (.builtin "isinstance") [.ref a,c]) Q E s:=
  PySem.W.kia_one (HT.kitx_exc k) I.kIn (show HT.ExcAt a C s.heap from let ⟨o,h1,h2,_⟩:=(show ObjOk X.prog X.w H s.heap a (excO a C od) from I.hok a _ e).1;⟨o,h1,h2⟩) h (fun z=>nomatch z) hq
noncomputable def rIsinE (K:PySem.W.Frag):List V→Hp→VK→Prop:=fun xs H Q=>∃ (y c:V) (cv t:Value) (b:Bool),xs=[y,c]∧((∃ D,c= .ref D∧cv= .ref D)∨∃ T,c= .ty T∧cv= .type T)∧PySem.W.kitOne K t cv=some b∧
  (TyOf K H y t∨∃ a C od,y= .ref a∧H a=some (excO a C od)∧t= .ref C∧HT.ExcKind K C)∧Q (.bl b) H
theorem k_isinE {X:Cx} {K:PySem.W.Frag} (hK:X.K=K:=by rfl):CallR X (.builtin "isinstance") (rIsinE K):=by
  subst hK
  intro pins s σ H xs us Q I r h
  obtain ⟨y,c,cv,t,b,rfl,hc,e,hy,q⟩:=h
  obtain ⟨u,c',rfl,rx,rc⟩:=vals2 r
  have ec:c'=cv:=by
    rcases hc with ⟨D,rfl,rfl⟩ | ⟨T,rfl,rfl⟩
    · exact rc
    · exact rc
  subst ec
  rcases hy with ty | ⟨a,C,od,rfl,ha,rfl,k⟩
  · exact isinst_ok I rx ty e fun tk=>⟨.bl b,H,I.tok tk,rfl,q⟩
  · cases rx
    exact isexc_ok I ha k e fun tk=>⟨.bl b,H,I.tok tk,rfl,q⟩
theorem rd_isinE {K:PySem.W.Frag} {H:Hp} {Q:VK} {a C D:Addr} {od:Option Addr} {b:Bool} (ha:H a=some (excO a C od)) (k:HT.ExcKind K C) (e:PySem.W.kitOne K (.ref C) (.ref D)=some b) (h:Q (.bl b) H):rIsinE K [.ref a, .ref D] H Q:=
  ⟨_,_,_,_,b,rfl, .inl ⟨D,rfl,rfl⟩,e, .inr ⟨a,C,od,rfl,ha,rfl,k⟩,h⟩
theorem rd_isinET {K:PySem.W.Frag} {H:Hp} {Q:VK} {a C:Addr} {od:Option Addr} {T:String} {b:Bool} (ha:H a=some (excO a C od)) (k:HT.ExcKind K C) (e:PySem.W.kitOne K (.ref C) (.type T)=some b) (h:Q (.bl b) H):rIsinE K [.ref a, .ty T] H Q:=
  ⟨_,_,_,_,b,rfl, .inr ⟨T,rfl,rfl⟩,e, .inr ⟨a,C,od,rfl,ha,rfl,k⟩,h⟩
end L2
namespace HT
open PySem PySem.Spec PyProof.Rows PySem.W
theorem own_mk {K:Frag} {base:Heap} {mg:Str→Option Value} {x:Str} {C:Addr} {bmB:List Value} {newId:String} (X:K.In base) (hm:mg x=some (.ref C)) (q:excIn K C bmB newId=true):OwnCls x C bmB newId mg base:=by
  refine ⟨hm,?_⟩
  unfold excIn at q
  split at q
  · rename_i dd cd sl ho
    split at q
    · rename_i C' bm k0 k1 k2 k3 n k5 hm' hs
      simp only [Bool.and_eq_true,beq_iff_eq,Bool.not_eq_true'] at q
      obtain ⟨⟨⟨⟨⟨rfl,rfl⟩,hdel⟩,ht⟩,hok⟩,hni⟩:=q
      obtain ⟨nm,bs,mro,ns,qn,hd,sn,sub,ab,col,del⟩:=cd
      dsimp only at hm' hdel hok hni
      subst hm' hdel
      obtain ⟨l⟩:=sl
      have hsl:l=[k0,k1,k2,k3,some (.builtin n),k5]:=hs
      subst hsl
      exact ⟨bm,ns,nm,qn,bs,hd,sn,sub,ab,col,dd,k0,k1,k2,k3,k5,_,X _ _ ho, .of_isNs (isNs_of_in X hok),nsMap_none_of_in X hok hni,tail_of_in X ht⟩
    · cases q
  · cases q
end HT
namespace L2
open PySem PySem.Spec PyProof.Rows
noncomputable def CallE (P:Program) (w:World) (K:PySem.W.Frag) (mg:Str→Option Value) (base:Heap) (x:Str) (k:Nat) (ps:List Str) (sp:Sp):Prop:=
  ∃ f fd,mg x=some (.ref f)∧PySem.W.keepIn K (.ref f)=true∧FnOk P w K mg base (CXE P w) k f fd ps sp∧Binds K fd ps []
noncomputable def MakeE (P:Program) (w:World) (K:PySem.W.Frag) (mg:Str→Option Value) (base:Heap) (x:Str) (C:Addr) (k:Nat) (ps:List Str) (sp:Sp):Prop:=
  ∃ f fd,mg x=some (.ref C)∧Mk K C f∧FnOk P w K mg base (CXE P w) k f fd ps sp∧Binds K fd ps []
theorem DefAt.callE {P:Program} {w:World} {K:PySem.W.Frag} {mg:Str→Option Value} {base:Heap} {x:Str} {st:Stmt} {ps:List Str} {f:Addr} {fd:FuncData} {k:Nat} {sp:Sp} (d:DefAt K mg x st ps f fd)
    (F:FnOk P w K mg base (CXE P w) k f fd ps sp):CallE P w K mg base x k ps sp:=⟨f,fd,d.at',d.fn.kp,F,d.bi⟩
section
variable {X:Cx} {x:Str} {C:Addr} {k:Nat} {ps:List Str} {sp:Sp} {E:XK} {e:Expr} {es:List Expr} {t:TA} {p pos:Pos}
theorem pe_callE (h:CallE X.prog X.w X.K X.mg X.base x k ps sp) (hr:Room k X.A) (hx:Passes (CXE X.prog X.w) X E) (ha:PA X (e::es) t) (hg:Gl X x:=by rfl) (hdb:(x == ("__debug__":Str))=false:=by decide)
    (he:starEach (e::es) X.env=(false,eval e X.env)::starEach es X.env:=by rfl) (hpl:(backTo pos (starEach es X.env)).any (·.1)=false:=by rfl):
    PE X (.Call (.Name x p) (e::es) [] pos) (tCall sp [] E t):=by
  obtain ⟨f,fd,hm,hk,F,hb⟩:=h
  exact pe_call F hr hg hm hk hb .nil hx ha hdb he hpl
theorem pe_makeE (h:MakeE X.prog X.w X.K X.mg X.base x C k ps sp) (hr:Room (k+1) X.A) (hx:Passes (CXE X.prog X.w) X E) (ha:PA X (e::es) t) (hg:Gl X x:=by rfl) (hdb:(x == ("__debug__":Str))=false:=by decide)
    (he:starEach (e::es) X.env=(false,eval e X.env)::starEach es X.env:=by rfl) (hpl:(backTo pos (starEach es X.env)).any (·.1)=false:=by rfl):
    PE X (.Call (.Name x p) (e::es) [] pos) (tMake C sp [] E t):=by
  obtain ⟨f,fd,hm,M,F,hb⟩:=h
  exact pe_make M F hr hg hm hb .nil hx ha hdb he hpl
end
theorem passE {P:Program} {w:World} {K:PySem.W.Frag} {mg:Str→Option Value} {base:Heap} {N:List Str} {qual:Str} {scope:Scope} {f:Addr} {cd:Value} {A:Around} {outer:List Env} {s₀:Shared} {H₀:Hp} {E:XK}:
    Passes (CXE P w) (cxOf (CXE P w) P w K mg base N qual scope f cd A outer s₀ H₀ E) E:=passes_cx fun _ _ _ h=>h
end L2
namespace L2
open PySem PySem.Spec PyProof.Rows
section
variable {P:Program} {w:World} {K:PySem.W.Frag} {mg:Str→Option Value} {base:Heap}
theorem Fun.okE {x qual:Str} {st:Stmt} {f:Addr} {fd:FuncData} {N ps:List Str} {k:Nat} {sp:Sp} (F:Fun K x qual st f fd) (S:FnScope N ps (defScope st)) (len:∀ vs H Q E,sp vs H Q E→vs.length=ps.length)
    (hbody:∀ (cdv:Value) (A:Around) (outer:List Env) (s:Shared) (H:Hp) (vs:List V) (Q:VK) (E:XK),Room k (A.deeper (envOfC qual (defScope st) s.heap.objs.size f cdv))→sp vs H Q E→
      ∃ t,PSs (cxOf (CXE P w) P w K mg base N qual (defScope st) f cdv A outer s H E) (defBody st) t∧t { nx:=fun _ H'=>Q .non H',rt:=Q } (start N vs) H):FnOk P w K mg base (CXE P w) (k+1) f fd ps sp:=by
  obtain ⟨oc,od,kV,doc,pm,an,cdv,ct,osl,rfl,lk,hcd⟩:=F.ex
  refine fn_of lk hcd S len fun A outer s H vs Q E hr hsp=> ?_
  exact hbody cdv A outer s H vs Q E hr hsp
theorem ps_raiseK {N:List Str} {qual:Str} {scope:Scope} {f:Addr} {cd:Value} {A:Around} {outer:List Env} {s₀:Shared} {H₀:Hp} {E:XK} {x:Str} {C:Addr} {e₀:Expr} {rest:List Expr} {np cpos pos:Pos} {ta:TA} (hm:mg x=some (.ref C))
    (q:PySem.W.excIn K C [.type "ValueError", .type "Exception", .type "BaseException", .type "object"] "ValueError.__new__"=true) (ha:PA (cxOf (CXE P w) P w K mg base N qual scope f cd A outer s₀ H₀ E) (e₀::rest) ta)
    (he:starEach (e₀::rest) (envOfC qual scope s₀.heap.objs.size f cd)=(false,eval e₀ (envOfC qual scope s₀.heap.objs.size f cd))::starEach rest (envOfC qual scope s₀.heap.objs.size f cd):=by rfl)
    (hplain:(backTo cpos (starEach rest (envOfC qual scope s₀.heap.objs.size f cd))).any (·.1)=false:=by rfl)
    (hg:Gl (cxOf (CXE P w) P w K mg base N qual scope f cd A outer s₀ H₀ E) x:=by rfl) (hd:(x == ("__debug__":Str))=false:=by decide):
    PS (cxOf (CXE P w) P w K mg base N qual scope f cd A outer s₀ H₀ E) (.Raise (some (.Call (.Name x np) (e₀::rest) [] cpos)) none pos) (tRaise E C ta):=fun pins s σ H D I h=>
  ps_raise (HT.own_mk I.mod.kin hm q) PySem.F.excBase_ValueError ha he hplain hg hd pins s σ H D I h
end
end L2
namespace L2
open PySem PySem.Spec PyProof.Rows
theorem boot_ValueError:bootBuiltins "ValueError"=some (.type "ValueError"):=by decide +kernel
theorem passN {X:Cx}:Passes (CXE X.prog X.w) X E0:=by
  intro pins σ H s e s' I h
  obtain ⟨_,_,_,_,_,_,_,_,_,_,_,_,q⟩:=h
  exact False.elim q
theorem TyOf.same {K:PySem.W.Frag} {H H':Hp} {x:V} {t:Value} (h:TyOf K H x t) (s:Same H H'):TyOf K H' x t:=by
  cases h with
  | non=>exact .non
  | bl x=>exact .bl x
  | int i=>exact .int i
  | str x=>exact .str x
  | flt x=>exact .flt x
  | lst e=>exact .lst (s _ _ e)
  | frz e=>exact .frz (s _ _ e)
  | tup e=>exact .tup (s _ _ e)
  | dK e=>exact .dK (s _ _ e)
  | dT e=>exact .dT (s _ _ e)
  | ins e cl ha hn htk hm=>exact .ins (s _ _ e) cl ha hn htk hm
theorem Ty.same {K:PySem.W.Frag} {H H':Hp} {x:V} (h:Ty K H x) (s:Same H H'):Ty K H' x:=let ⟨n,t⟩:=h;⟨n,t.same s⟩
theorem rd_makeE {C:Addr} {sp:Sp} {t:TA} {σ:St} {H:Hp} {Q:VK} {E:XK} (h:t σ H fun vs H1=>∀ x dx,H1 x=none→H1 dx=none→dx≠x→sp (.ref x::vs) (upd (upd H1 dx (.own x)) x (.ins C dx [])) (fun v H2=>v= .non∧Q (.ref x) H2) E):tMake C sp [] E t σ H Q:=by
  unfold tMake
  simpa using h
theorem rd_end {j:Nat} {D:Ends} {σ:St} {H:Hp} (h:D.nx (σ.set j none) H):(dTry j D).nx σ H:=h
theorem rd_try {K:PySem.W.Frag} {CL:Addr} {len j:Nat} {tb:XK→TS} {ts:TS} {D:Ends} {σ:St} {H:Hp} (h:tb (eTry K CL len j ts D) D σ H):tTry K CL len j tb ts D σ H:=h
end L2
namespace HT
open PySem PySem.Spec PyProof.Rows PySem.SeqAt
open PySem.AutoSeq1 (wpAny_loadPart')
open PySem.MeetsSeq PySem.MeetsSeq2 PySem.MeetsSeq3
section
variable {A:Around} {s:Shared}
end
end HT
namespace L2
open PySem PySem.Spec PyProof.Rows
inductive DX where
  | d (d:Dt) | dic | tdic (rest:List Dt)
inductive Rx (H:Hp) (n:Nat):V→DX→Prop
  | d {v:V} {d:Dt} (r:Rp H FT n v d):Rx H n v (.d d)
  | dic {a:Addr} (h:H a=some (.dK [])):Rx H n (.ref a) .dic
  | tdic {t a:Addr} {ws:List V} {ds:List Dt} (ht:H t=some (.tup (.ref a::ws))) (h:H a=some (.dK [])) (l:ws.length=ds.length) (e:∀ (i:Nat) (v:V) (d:Dt),ws[i]?=some v→ds[i]?=some d→Rp H FT n v d):Rx H n (.ref t) (.tdic ds)
section
variable {X:Cx} {pins:List (Addr × Obj)} {σ:St} {H:Hp} {s:Shared}
end
theorem teJ {t:TE} {σ:St} {H:Hp} {R:VK} (P:V→Hp→Prop) (h1:∀ v H',P v H'→R v H') (h2:∀ R':VK,(∀ v H',P v H'→R' v H')→t σ H R'):t σ H R:=h2 R h1
end L2
namespace L2
open PySem PySem.Spec PyProof.Rows PySem.W
noncomputable def exO (a:Addr) (o:Obj):HO:= .ext fun h=>h.get? a=some o
theorem exO_ok {P:Program} {w:World} {H:Hp} {h:Heap} {a:Addr} {o:Obj} (e:h.get? a=some o):ObjOk P w H h a (exO a o):=⟨e,⟨o,e⟩,fun _ _ x k=>k o x⟩
theorem exO_get {P:Program} {w:World} {H:Hp} {h:Heap} {a:Addr} {o:Obj} (x:ObjOk P w H h a (exO a o)):h.get? a=some o:=x.1
noncomputable def cxL (P:Program) (w:World) (K:PySem.W.Frag) (mg:Str→Option Value) (base:Heap) (N:List Str) (qual:Str) (scope:Scope) (f:Addr) (cd:Value) (cl:List (Str × Addr)) (A:Around) (outer:List Env) (s:Shared) (H:Hp) (E:XK):Cx where
  prog:=P
  w:=w
  K:=K
  mg:=mg
  base:=base
  A:=A.deeper (envX qual scope s.heap.objs.size f cd cl)
  N:=N
  s₀:=s
  H₀:=H
  env:=envX qual scope s.heap.objs.size f cd cl
  outer:=outer
  stack:=envX qual scope s.heap.objs.size f cd cl::outer
  ex:=[]
  calm:=true
  fn:=fun _=>false
  pn:=[]
  xe:=fun e s'=>wpAny (model P w) (A.deeper (envX qual scope s.heap.objs.size f cd cl)) (leaving (envX qual scope s.heap.objs.size f cd cl) e) (fun _ s''=>CXE P w outer H s E e s'') (fun e' s''=>CXE P w outer H s E e' s'') s'
section
variable {P:Program} {w:World} {K:PySem.W.Frag} {mg:Str→Option Value} {base:Heap} {N:List Str} {qual:Str} {scope:Scope} {f:Addr} {cd:Value} {cl:List (Str × Addr)} {A:Around} {outer:List Env} {s:Shared} {H:Hp} {E:XK}
structure ClOkL (N:List Str) (scope:Scope) (cl:List (Str × Addr)) (h:Heap) (H:Hp) (vs:List V):Prop where
  len:vs.length=N.length
  inj:∀ x y c,cl.lookup x=some c→cl.lookup y=some c→x=y
  has:∀ x,(scope.names.lookup x=some .cell∨scope.names.lookup x=some .free)→∃ c,cl.lookup x=some c
  val:∀ (i:Nat) (x:Str) (v:V),N[i]?=some x→vs[i]?=some v→∃ c u,scope.names.lookup x=some .free∧cl.lookup x=some c∧RelV v u∧h.IsCell c (some u)
  cell:∀ x c,cl.lookup x=some c→(∃ v,h.IsCell c v)∧H c=none
theorem inv_startL {vs:List V} {h':Heap} {tk:Nat} (hk:scope.kind= .function) (hd:A.handled=none) (e0:Env0 P w K mg base A outer s H) (C:ClOkL N scope cl s.heap H vs) (hns:h'.Ns s.heap.objs.size fun _=>none) (kp:∀ b o,s.heap.get? b=some o→h'.get? b=some o):
    Inv (cxL P w K mg base N qual scope f cd cl A outer s H E) [] (vs.map some) H { s with heap:=h',toks:=tk }:=by
  have noA:∀ b:Addr,b∉(cxL P w K mg base N qual scope f cd cl A outer s H E).ex:=fun b z=>absurd (show b∈([]:List Addr) from z) (by simp)
  have ic:∀ c v,s.heap.IsCell c v→h'.IsCell c v:=fun c v ⟨o,e,d⟩=>⟨o,kp _ _ e,d⟩
  refine ⟨⟨e0.mod,hk,rfl,rfl,Nat.le_refl _,C.inj,C.has,fun y c z _=>(by cases z),fun _=>hd,Around.frames_deeper e0.frames, .inr ⟨rfl,rfl⟩,fun b z=>absurd z (noA b),e0.bs,e0.bsz,fun b _ _=>noA b,fun b z=>absurd z (noA b),e0.funs,e0.frf⟩,
    rfl,e0.bare,Un.kept kp,⟨_,hns,fun i y v h1 h2 h3=> ?_⟩,fun y c h=> ?_,e0.hok.fresh (Nat.le_refl _),fun y c h=>(C.cell y c h).2,fun p hp=>absurd (show p∈([]:List (Addr × Obj)) from hp) (by simp),e0.hok.kept kp,by rw [List.length_map];exact C.len⟩
  · have h2':vs[i]?=some v:=by
      rw [List.getElem?_map] at h2
      cases e:vs[i]? with
      | none=>rw [e] at h2;cases h2
      | some a=>rw [e] at h2;cases h2;rfl
    obtain ⟨c,u,k,l,r,ce⟩:=C.val i y v h1 h2'
    exact ⟨u,r, .inr ⟨.inr k,c,l,ic _ _ ce⟩⟩
  · obtain ⟨v,z⟩:=(C.cell y c h).1
    exact ⟨v,ic _ _ z⟩
theorem passL {s₀:Shared} {H₀:Hp} {E':XK}
    (hE:∀ c o H,E c o H→E' c o H):Passes (CXE P w) (cxL P w K mg base N qual scope f cd cl A outer s₀ H₀ E') E:=by
  intro pins σ H s e s' I h
  obtain ⟨a,C,t,od,H',rfl,os,bare,un,hok,⟨B,fl,cov⟩,di,q⟩:=h
  have hfr:(envX qual scope s₀.heap.objs.size f cd cl).frame=some s₀.heap.objs.size:=rfl
  have hfs:frs (envX qual scope s₀.heap.objs.size f cd cl::outer)=s₀.heap.objs.size::frs outer:=frs_cons hfr
  refine leaves_onD I.ok.frames hfr fl fun h' fl' ups kd=> ?_
  have ib:Un (frs outer) [] H₀ H s₀.heap s.heap:=I.base
  have nl:∀ b o,s₀.heap.get? b=some o→b≠s₀.heap.objs.size:=fun b o e=>Nat.ne_of_lt (Heap.lt_size e)
  have toB:∀ b,(H' b≠none∨∃ o,s.heap.get? b=some o)→b∉frs (envX qual scope s₀.heap.objs.size f cd cl::outer)→∀ o,s'.heap.get? b=some o→h'.get? b=some o:=fun b hb hn o e=>fl'.1 b o (cov b hb hn o e)
  have untr:∀ b,b∈frs (envX qual scope s₀.heap.objs.size f cd cl::outer)→H' b=none:=fun b hb=>by
    obtain ⟨_,o,e,_⟩:=funs_mem I.stack hb
    exact un.free b o e (I.stkFree b hb) (by simp)
  have hok':HOk P w H' h':=hok.on fun b u hb e=>by
    refine toB b (.inl hb) (fun z=>hb (untr b z)) u e
  refine ⟨a,C,t,od,H',rfl,os.trans I.os,bare,?_,hok',⟨B,fl',fun b hb hn o e=> ?_⟩,di.on kd (let ⟨o,e,_⟩:=fl'.there;⟨o,e⟩),hE _ _ _ q⟩
  · have notin:∀ b o,s₀.heap.get? b=some o→b∉frs outer→b∉frs (envX qual scope s₀.heap.objs.size f cd cl::outer):=fun b o e hn z=>by
      rw [hfs] at z
      rcases List.mem_cons.mp z with z | z
      · exact nl b o e z
      · exact hn z
    have isin:∀ b,b∈frs outer→b∈frs (envX qual scope s₀.heap.objs.size f cd cl::outer):=fun b hb=>by rw [hfs];exact List.mem_cons_of_mem _ hb
    refine ⟨fun b o e hH hn _=> ?_,fun b o e hH hb _=> ?_,fun b o e hH _=> ?_,fun b o e _=> ?_,fun b xs e=>un.tups b xs (ib.tups b xs e),fun b o u e=>un.frzs b o u (ib.frzs b o u e),fun b ps e=> ?_⟩
    · have e1:=ib.keep b o e hH hn (by simp)
      exact toB b (.inr ⟨o,e1⟩) (notin b o e hn) o (un.keep b o e1 (ib.free b o e hH (by simp)) (notin b o e hn) (by simp))
    · obtain ⟨sl,e1⟩:=ib.slot b o e hH hb (by simp)
      obtain ⟨sl2,e2⟩:=un.slot b _ e1 (ib.free b o e hH (by simp)) (isin b hb) (by simp)
      obtain ⟨_,o',e',nf⟩:=funs_mem fl.2.2.1 (isin b hb)
      rw [e2] at e'
      cases e'
      obtain ⟨sl3,e3⟩:=ups b _ e2 nf
      exact ⟨sl3,e3⟩
    · obtain ⟨o1,e1⟩:=ib.there b o e (by simp)
      exact un.free b o1 e1 (ib.free b o e hH (by simp)) (by simp)
    · obtain ⟨o1,e1⟩:=ib.there b o e (by simp)
      obtain ⟨o2,e2⟩:=un.there b o1 e1 (by simp)
      by_cases hb:b∈frs outer
      · obtain ⟨_,o',e',nf⟩:=funs_mem fl.2.2.1 (isin b hb)
        obtain ⟨sl3,e3⟩:=ups b _ e' nf
        exact ⟨_,e3⟩
      · exact ⟨o2,toB b (.inr ⟨o1,e1⟩) (notin b o e hb) o2 e2⟩
    · obtain ⟨m1,e1⟩:=ib.tbls b ps e
      obtain ⟨m2,e2⟩:=un.tbls b _ e1
      exact ⟨m1++m2,by rw [e2,Array.append_assoc]⟩
  · have hn2:b∉frs (envX qual scope s₀.heap.objs.size f cd cl::outer):=fun z=>by
      have z0:=z
      rw [hfs] at z
      rcases List.mem_cons.mp z with z | z
      · rcases hb with hb | ⟨o1,e1⟩
        · exact hb (untr b z0)
        · exact nl b o1 e1 z
      · exact hn z
    obtain ⟨o2,e2,hb2⟩:∃ o2,s'.heap.get? b=some o2∧(H' b≠none∨∃ o,s.heap.get? b=some o):=by
      rcases hb with hb | ⟨o1,e1⟩
      · cases hx:H' b with
        | none=>exact absurd hx hb
        | some u=>
          obtain ⟨o2,e2⟩:=obj_some (hok b u hx)
          exact ⟨o2,e2, .inl (fun z=>by cases z)⟩
      · obtain ⟨o3,e3⟩:=ib.there b o1 e1 (by simp)
        obtain ⟨o2,e2⟩:=un.there b o3 e3 (by simp)
        exact ⟨o2,e2, .inr ⟨o3,e3⟩⟩
    have e3:=cov b hb2 hn2 o2 e2
    have e4:=fl'.1 b o2 e3
    rw [show h'.get? b=some o from e] at e4
    cases e4
    exact e3
theorem runL {k:Nat} {params:Arguments} {body:Expr} {pm ctv:Value} {c':Addr} {vs:List V} {Q:VK} {tb:TE} (ho:s.heap.get? f=some (kla_obj "<lambda>" qual params body scope cl pm c' ctv)) (hcd:s.heap.CodeRec (.ref c') qual) (hr:Room (k+1) A) (e0:Env0 P w K mg base A outer s H)
    (hk:scope.kind= .function) (hco:scope.isCoroutine=false) (hgen:scope.isGenerator=false) (hcell:∀ x∈scope.names,x.2≠ .cell) (hbind:bindArgs (kla_fn "<lambda>" qual params body scope cl pm (.ref c') ctv) ⟨[],[]⟩=pure []) (C:ClOkL N scope cl s.heap H vs)
    (hb:PE (cxL P w K mg base N qual scope f (.ref c') cl A outer s H E) body tb) (h:tb (vs.map some) H Q):codeAny (model P w) A (.call (.ref f) ⟨[],[]⟩) (CR (CXE P w) outer P w H s Q E) s:=by
  have lim:s.heap.NoLimit:=e0.mod.nolimit.keeps fun b o e=>(e0.bs b o e).1
  refine kla_callFunE hr.depth ho rfl hco hgen rfl hcd ?_
  rw [hbind]
  refine wpAny_pure (wpAny_newFunctionEnv hcell (fun x hx=>by cases hx) (fun h₁ hns hsb=>⟨lim.fresh _ hsb,?_⟩) hk)
  have kp:∀ b o,s.heap.get? b=some o→h₁.get? b=some o:=fun b o e=>hsb.extBut b o (Nat.ne_of_lt (Heap.lt_size e)) (Heap.get?_push_of_some _ e)
  show codeAny _ _ (.expr body (envX qual scope s.heap.objs.size f (.ref c') cl)) _ _
  refine kla_codeExpr ?_
  have I:Inv (cxL P w K mg base N qual scope f (.ref c') cl A outer s H E) [] (vs.map some) H { s with heap:=h₁,toks:=s.toks+0 }:=inv_startL hk hr.hd e0 C hns kp
  refine wpAny_mono (hb [] _ _ H Q I h) (fun u s' hs=> ?_) fun e s' hs=>hs
  obtain ⟨v,H',J,rv,q⟩:=hs
  exact ⟨v,H',J.os,J.bare,J.base,J.hok,rv,q⟩
end
theorem ClOkL.on {N:List Str} {scope:Scope} {cl:List (Str × Addr)} {h h':Heap} {H H':Hp} {vs:List V} (C:ClOkL N scope cl h H vs) (k:∀ x c o,cl.lookup x=some c→h.get? c=some o→h'.get? c=some o∧H' c=none):ClOkL N scope cl h' H' vs:=by
  refine ⟨C.len,C.inj,C.has,fun i x v h1 h2=> ?_,fun x c e=> ?_⟩
  · obtain ⟨c,u,k1,l,r,o,e,d⟩:=C.val i x v h1 h2
    exact ⟨c,u,k1,l,r,o,(k x c o l e).1,d⟩
  · obtain ⟨⟨v,o,e1,d⟩,_⟩:=C.cell x c e
    exact ⟨⟨v,o,(k x c o e e1).1,d⟩,(k x c o e e1).2⟩
noncomputable def codeO (qual:Str) (oc:Obj):Prop:=∃ vs t,oc.data= .fields vs∧vs[1]?=some (.str qual t)
noncomputable def tThunk (f c':Addr) (oc:Obj) (vs:List V) (to tb:TE):TE:=fun σ H Q=>to σ H fun v H1=>v= .ref f∧H1 c'=some (exO c' oc)∧tb (vs.map some) H1 Q
theorem pe_thunk {X:Cx} {k:Nat} {E:XK} {N:List Str} {qual:Str} {scope:Scope} {f c':Addr} {oc:Obj} {cl:List (Str × Addr)} {params:Arguments} {body:Expr} {pm ctv:Value} {vs:List V} {o:Expr} {to tb:TE} {pos:Pos}
    (ho:PE X o to) (hx:Passes (CXE X.prog X.w) X E) (hr:Room (k+1) X.A) (hex:X.ex=[]) (hf:X.s₀.heap.get? f=some (kla_obj "<lambda>" qual params body scope cl pm c' ctv)) (hf0:X.H₀ f=none) (nf:f∉X.fs) (hoc:codeO qual oc)
    (C:ClOkL N scope cl X.s₀.heap X.H₀ vs) (nc:∀ x c,cl.lookup x=some c→c∉X.fs)
    (hk:scope.kind= .function) (hco:scope.isCoroutine=false) (hgen:scope.isGenerator=false) (hcell:∀ x∈scope.names,x.2≠ .cell) (hbind:bindArgs (kla_fn "<lambda>" qual params body scope cl pm (.ref c') ctv) ⟨[],[]⟩=pure [])
    (hb:∀ (s:Shared) (H:Hp),PE (cxL X.prog X.w X.K X.mg X.base N qual scope f (.ref c') cl X.A X.stack s H E) body tb)
    (ht:eval (.Call o [] [] pos) X.env=(do callWith pos (← eval o X.env) [] (backTo pos (starEach [] X.env)) (backToKw pos (keywordEach [] X.env))):=by rfl):
    PE X (.Call o [] [] pos) (tThunk f c' oc vs to tb):=by
  intro pins s σ H Q I h
  rw [ht]
  refine wpAny_bind (thn (ho pins s σ H _ I h) fun u s1 ⟨x,H1,I1,rx,ex,hc,q⟩=> ?_)
  subst ex
  obtain rfl:u=Value.ref f:=rx
  have nex:∀ b:Addr,b∉X.ex:=fun b=>by rw [hex];simp
  have hf1:=I1.base.keep f _ hf hf0 nf (nex f)
  obtain ⟨vs',t,d,e1⟩:=hoc
  have hcd:s1.heap.CodeRec (.ref c') qual:=⟨c',oc,vs',t,rfl,exO_get (I1.hok c' _ hc),d,e1⟩
  have C1:ClOkL N scope cl s1.heap H1 vs:=C.on fun y c o l e=>⟨I1.base.keep c o e (C.cell y c l).2 (nc y c l) (nex c),I1.base.free c o e (C.cell y c l).2 (nex c)⟩
  refine callWith_F0 ⟨_,_,_,_,hf1⟩ ?_
  refine wpAny_call (codeAny_mono (runL (tb:=tb) (E:=E) hf1 hcd hr I1.env0 hk hco hgen hcell hbind C1 (hb s1 H1) q) fun r s' hq=> ?_)
  cases r with
  | error e=>exact hx pins σ H1 s1 e s' I1 hq
  | ok fl=>
    cases fl with
    | ret u=>exact I1.after hq
    | next=>exact False.elim hq
    | brk=>exact False.elim hq
    | cont=>exact False.elim hq
theorem fn_run {CX:CXT} {P:Program} {w:World} {K:PySem.W.Frag} {mg:Str→Option Value} {base:Heap} {k:Nat} {f:Addr} {name qual:Str} {params:Arguments} {body:List Stmt} {scope:Scope} {dV kV doc pm cdv ct oc:Value} {an od:Option Addr}
    {osl:Array (Option Value)} {N ps:List Str} (lk:K.lookup f=some ⟨oc,od, .func (PySem.W.fnOf name qual params body scope dV kV doc pm an cdv ct),osl⟩) (hcd:PySem.W.codeIn K cdv qual=true) (S:FnScope N ps scope)
    {A:Around} {outer:List Env} {s:Shared} {H:Hp} {args:Args} {us:List Value} {vs:List V} {Q:VK} {E:XK} {t:TS} (hr:Room (k+1) A) (e0:Env0 P w K mg base A outer s H) (hb:BindsTo s (PySem.W.fnOf name qual params body scope dV kV doc pm an cdv ct) args (ps.zip us)) (r:Vals vs us) (hl:vs.length=ps.length)
    (ht:PSs (cxOf CX P w K mg base N qual scope f cdv A outer s H E) body t) (hq:t { nx:=fun _ H'=>Q .non H',rt:=Q } (start N vs) H):codeAny (model P w) A (.call (.ref f) args) (CR CX outer P w H s Q E) s:=by
  have kin:=e0.mod.kin.keeps fun b o e=>(e0.bs b o e).1
  have kinds:∀ y∈ps.zip us,scope.names.lookup y.1=some .local∨(scope.names.lookup y.1=some .cell∧((cellsFrom (s.heap.objs.size+1) scope.names []).lookup y.1).isSome=true):=by
    intro y hy
    exact (S.par y.1 (List.of_mem_zip hy).1).imp id fun z=>⟨z,PySem.W.cellsFrom_some _ _ _ (.inl z)⟩
  refine codeAny_call_function hr.depth (kin _ _ lk) rfl S.co S.gen rfl (PySem.W.codeRec_of kin hcd) (hb _ _ _ _ (wpAny_newFunctionEnv_cells S.kind kinds ?_))
  rintro _ rfl s1 x
  refine ⟨(e0.mod.nolimit.keeps fun b o e=>(e0.bs b o e).1).keeps x.toInCall.keep,codeAny_func (wpAny_mono (ht [] s1 (start N vs) H _ (inv_start S hr.hd e0 hl r x) hq) ?_ fun _ _ z=>z)⟩
  intro fl s' z
  match fl,z with
  | .ret u,⟨v,_,H',J,rv,q⟩=>exact ⟨v,H',J.os,J.bare,J.base,J.hok,rv,q⟩
  | .next,⟨_,H',J,q⟩=>exact ⟨V.non,H',J.os,J.bare,J.base,J.hok,rfl,q⟩
  | .brk,⟨_,_,_,q⟩=>exact False.elim q
  | .cont,⟨_,_,_,q⟩=>exact False.elim q
end L2
namespace L2
open PySem PySem.Spec PyProof.Rows PySem.W
theorem among_app {p:Pos} {c cv:Value} {a b:Int} {t u:Tok}:∀ (l:List Value),TriplesOk l→codeAmong p (l++[.int a t, .int b u,c])=some cv→codeAmong p l=some cv∨cv=c
  | [],_,h=>by
    right
    simp only [List.nil_append,codeAmong] at h
    split at h
    · exact (Option.some.inj h).symm
    · cases h
  | .int x tx:: .int y ty::z::rest,ok,h=>by
    have h:codeAmong p (.int x tx:: .int y ty::z::(rest++[.int a t, .int b u,c]))=some cv:=h
    simp only [codeAmong] at h ⊢
    split at h
    · rename_i hc
      rw [if_pos hc]
      exact .inl h
    · rename_i hc
      rw [if_neg hc]
      exact among_app rest ok h
noncomputable def LamT (H:Hp) (P:Addr) (qual:Str):Prop:=∃ ps:Array Value,H P=some (.tbl ps)∧TriplesOk ps.toList∧∀ pos cv,codeAmong pos ps.toList=some cv→∃ c' oc,cv= .ref c'∧H c'=some (exO c' oc)∧codeO qual oc
structure LamX (X:Cx) (c P:Addr):Prop where
  code:X.env.code= .ref c
  hd:CodeHd X.base c P
  blt:X.base.BuiltinsAt X.mg P
section
variable {X:Cx} {pins:List (Addr × Obj)} {σ:St} {H:Hp} {s:Shared}
theorem mkL {c P:Addr} {params:Arguments} {body:Expr} {scope:Scope} {pos:Pos} {Q:Value→Shared→Prop} {E:Value→Shared→Prop} (L:LamX X c P) (hfree:∀ y∈scope.names,y.2= .free→X.env.kindOf y.1=some .cell) (hdef:defaultsOf params X.env=([],[]))
    (I:Inv X pins σ H s) (hT:LamT H P (X.env.qual++"<lambda>"))
    (h:∀ f c' oc pm ctv H' s',Inv X pins σ H' s'→s'.heap.get? f=some (kla_obj "<lambda>" (X.env.qual++"<lambda>") params body scope (closOf X.env.cells scope.names []) pm c' ctv)→H' f=none→s.heap.objs.size≤f→H' c'=some (exO c' oc)→codeO (X.env.qual++"<lambda>") oc→
      LamT H' P (X.env.qual++"<lambda>")→(∀ b o,b≠P→H b=some o→H' b=some o)→Q (.ref f) s'):
    wpAny (model X.prog X.w) X.A (eval (.Lambda params body scope pos) X.env) Q E s:=by
  obtain ⟨ps,hP,ok,hit⟩:=hT
  have hPh:s.heap.get? P=some (tabObj ps):=I.hok P _ hP
  have hcl:closureFor scope X.env=pure (closOf X.env.cells scope.names []):=closureFor_eq fun y hy e=>I.ok.has y.1 (.inl (hfree y hy e))
  have hg:s.heap.Ns mainGlobals X.mg:=I.mod.glob.keeps I.bk
  have C:=L.hd.keeps I.bk
  have nP:∀ b,H b=none→b≠P:=fun b n z=>by rw [z,hP] at n;cases n
  have hgP:mainGlobals≠P:=fun q=>by
    obtain ⟨o,es,ep,e,d,_⟩:=hg
    rw [q,hPh] at e;cases e;cases d
  have hb:s.heap.BuiltinsAt X.mg P:=by
    obtain ⟨bm,o,a1,a2,a3,a4,a5,r⟩:=L.blt
    exact ⟨bm,o,a1,a2,a3,a4,I.bk _ _ a5,r⟩
  refine kla_eval hdef ?_
  cases hc:codeAmong pos ps.toList with
  | some cv=>
    obtain ⟨c',oc,rfl,hc',hoc⟩:=hit pos cv hc
    refine kla_makeFunctionHit hcl I.ok.glob hg L.code C hPh ok hc hb fun ctv h' tk kp sz=> ?_
    have kp2:∀ b o,s.heap.get? b=some o→(h'.push (kla_obj "<lambda>" (X.env.qual++"<lambda>") params body scope (closOf X.env.cells scope.names []) ((X.mg "__name__").getD .none) c' ctv)).get? b=some o:=fun b o e=>Heap.get?_push_of_some _ (kp b o e)
    refine h h'.objs.size c' oc _ ctv H _ (I.un (Un.kept kp2) (I.hok.kept kp2)) (Heap.get?_push_size _ rfl) (I.hok.fresh sz) sz hc' hoc ⟨ps,hP,ok,hit⟩ fun b o _ e=>e
  | none=>
    refine kla_makeFunction hcl I.ok.glob hg L.code C hPh ok hc hgP hb fun c' ctv h' tk hx hge hlt hrec htb=> ?_
    obtain ⟨c2,oc,vs,t,e2,hoc,hd,hv⟩:=hrec
    cases e2
    generalize hps:ps++ #[rawInt pos.line,rawInt pos.col, .ref c']=ps' at htb
    have hcn:H c'=none:=I.hok.fresh hge
    have ncP:c'≠P:=fun z=>by rw [z,hP] at hcn;cases hcn
    generalize hfo:kla_obj "<lambda>" (X.env.qual++"<lambda>") params body scope (closOf X.env.cells scope.names []) ((X.mg "__name__").getD .none) c' ctv=fo
    have kp:∀ b o,b≠P→s.heap.get? b=some o→(h'.push fo).get? b=some o:=fun b o hb e=>Heap.get?_push_of_some _ (hx b o hb e)
    have fz:s.heap.objs.size≤h'.objs.size:=Nat.le_of_lt (Nat.lt_of_le_of_lt hge hlt)
    have nc:∀ b u,H b=some u→b≠c':=fun b u q z=>by rw [z,hcn] at q;cases q
    have nT:∀ b u,H b=some u→(∀ qs,u≠ .tbl qs)→b≠P:=fun b u q n z=>by rw [z,hP] at q;cases q;exact n _ rfl
    have old:∀ b u,b≠P→H b=some u→upd (upd H c' (exO c' oc)) P (.tbl ps') b=some u:=fun b u hb q=>by rw [upd_ne hb,upd_ne (nc b u q)];exact q
    have hok':HOk X.prog X.w (upd (upd H c' (exO c' oc)) P (.tbl ps')) (h'.push fo):=fun a o e=>by
      by_cases ha:a=P
      · subst ha
        rw [upd_same] at e
        cases e
        exact Heap.get?_push_of_some _ htb
      · rw [upd_ne ha] at e
        by_cases ha2:a=c'
        · subst ha2
          rw [upd_same] at e
          cases e
          exact exO_ok (Heap.get?_push_of_some _ hoc)
        · rw [upd_ne ha2] at e
          refine (I.hok a o e).stay (fun b u hb q=>kp b u ?_ q) (fun b q=>old b _ (nT b _ q fun _ z=>by cases z) q) fun b xs q=>old b _ (nT b _ q fun _ z=>by cases z) q
          rcases hb with rfl | hb
          · exact ha
          · exact nT b _ hb fun _ z=>by cases z
    have I':Inv X pins σ (upd (upd H c' (exO c' oc)) P (.tbl ps')) { s with heap:=h'.push fo,toks:=tk }:=by
      refine I.step (g':=s.gens) (d':=s.drawn) (ch:=[]) (fun _ z=>nomatch z) (fun b o _ _ _ e n=>kp b o (nP b n) e) (fun b o _ _ _ e n=>⟨o.slots,kp b o (nP b n) e⟩) (fun b o _ e n=> ?_) (fun b o _ e=> ?_) (fun b xs q=>old b _ (nT b _ q fun _ z=>by cases z) q) (fun b o u q=>old b _ (nT b _ q fun _ z=>by cases z) q) (fun b qs q=> ?_) (fun m hm=> ?_) hok' I.bare
      · rw [upd_ne (nP b n),upd_ne (Nat.ne_of_lt (Nat.lt_of_lt_of_le (Heap.lt_size e) hge))]
        exact n
      · by_cases hb:b=P
        · subst hb
          exact ⟨_,Heap.get?_push_of_some _ htb⟩
        · exact ⟨o,kp b o hb e⟩
      · by_cases hb:b=P
        · subst hb
          rw [hP] at q
          cases q
          exact ⟨_,by rw [upd_same, ← hps]⟩
        · exact ⟨#[],by rw [old b _ hb q];simp⟩
      · exact (hm.extBut hx (nP _ I.free)).push _
    subst hfo
    refine h h'.objs.size c' oc _ ctv _ _ I' (Heap.get?_push_size _ rfl) ?_ fz ?_ ⟨vs,t,hd,hv⟩ ⟨ps',upd_same,?_,fun p cv q=> ?_⟩ fun b o hb q=>old b o hb q
    · have hn:H h'.objs.size=none:=I.hok.fresh fz
      rw [upd_ne (nP _ hn),upd_ne (Nat.ne_of_gt hlt)]
      exact hn
    · rw [upd_ne ncP,upd_same]
    · rw [← hps,Array.toList_append]
      exact TriplesOk_snoc _ _ _ _ ok
    · rw [← hps,Array.toList_append] at q
      rcases among_app ps.toList ok q with z | rfl
      · obtain ⟨c1,oc1,e1,e2,e3⟩:=hit p cv z
        exact ⟨c1,oc1,e1,old c1 _ (nT c1 _ e2 fun _ z=>by cases z) e2,e3⟩
      · exact ⟨c',oc,rfl,by rw [upd_ne ncP,upd_same],vs,t,hd,hv⟩
end
structure LamOk (params:Arguments) (scope:Scope):Prop where
  kind:scope.kind= .function
  co:scope.isCoroutine=false
  gen:scope.isGenerator=false
  cell:∀ x∈scope.names,x.2≠ .cell
  bind:∀ (qual:Str) (body:Expr) (cl:List (Str × Addr)) (pm cdv ctv:Value),bindArgs (kla_fn "<lambda>" qual params body scope cl pm cdv ctv) ⟨[],[]⟩=pure []
noncomputable def CaughtAt (P:Program) (w:World) (K:PySem.W.Frag) (mg:Str→Option Value) (base:Heap) (fc:Addr) (k kb:Nat) (sp:(XK→TE)→List V→Hp→VK→Prop):Prop:=
  keepIn K (.ref fc)=true∧∀ (A:Around) (outer:List Env) (s:Shared) (H:Hp) (f c':Addr) (oc:Obj) (N:List Str) (qual:Str) (scope:Scope) (cl:List (Str × Addr)) (params:Arguments) (body:Expr) (pm ctv:Value) (vs:List V) (tb:XK→TE) (Q:VK),
    Room k A→Env0 P w K mg base A outer s H→s.heap.get? f=some (kla_obj "<lambda>" qual params body scope cl pm c' ctv)→H f=none→f∉frs outer→H c'=some (exO c' oc)→codeO qual oc→ClOkL N scope cl s.heap H vs→(∀ x c,cl.lookup x=some c→c∉frs outer)→LamOk params scope→
    (∀ (A':Around) (outer':List Env) (s':Shared) (H':Hp) (E':XK),Room kb (A'.deeper (envX qual scope s'.heap.objs.size f (.ref c') cl))→PE (cxL P w K mg base N qual scope f (.ref c') cl A' outer' s' H' E') body (tb E'))→
    sp tb vs H Q→codeAny (model P w) A (.call (.ref fc) ⟨[.ref f],[]⟩) (CR CX0 outer P w H s Q E0) s
noncomputable def tCaught (P:Addr) (qual:Str) (idx:List Nat) (sp:(XK→TE)→List V→Hp→VK→Prop) (tb:XK→TE):TE:=fun σ H Q=>LamT H P qual∧∃ vs:List V,vs.length=idx.length∧(∀ (i j:Nat),idx[i]?=some j→∃ v,vs[i]?=some v∧σ[j]?=some (some v))∧
  ∀ H',LamT H' P qual→(∀ b o,b≠P→H b=some o→H' b=some o)→sp tb vs H' Q
theorem pe_caught {X:Cx} {x:Str} {fc c P:Addr} {k kb:Nat} {sp:(XK→TE)→List V→Hp→VK→Prop} {params:Arguments} {body:Expr} {scope:Scope} {p lpos pos:Pos} {N:List Str} {idx:List Nat} {tb:XK→TE}
    (hm:X.mg x=some (.ref fc)) (hC:CaughtAt X.prog X.w X.K X.mg X.base fc k kb sp) (hr:Room k X.A) (L:LamX X c P) (hst:X.stack=X.env::X.outer) (hfm:X.env.frame=some X.env.locals) (hfn:∀ y,X.fn y=true) (lo:LamOk params scope) (hdef:defaultsOf params X.env=([],[]))
    (hfree:∀ y∈scope.names,y.2= .free→X.env.kindOf y.1=some .cell) (hmem:∀ y,(scope.names.lookup y=some .cell∨scope.names.lookup y=some .free)→(y,NameKind.free)∈scope.names) (hlen:N.length=idx.length)
    (hN:∀ (i:Nat) (y:Str),N[i]?=some y→∃ j,idx[i]?=some j∧X.N[j]?=some y∧scope.names.lookup y=some .free∧X.env.kindOf y=some .cell)
    (hb:∀ (f c':Addr) (cl:List (Str × Addr)) (A':Around) (outer':List Env) (s':Shared) (H':Hp) (E':XK),Room kb (A'.deeper (envX (X.env.qual++"<lambda>") scope s'.heap.objs.size f (.ref c') cl))→PE (cxL X.prog X.w X.K X.mg X.base N (X.env.qual++"<lambda>") scope f (.ref c') cl A' outer' s' H' E') body (tb E'))
    (hg:Gl X x:=by rfl) (hdb:(x == ("__debug__":Str))=false:=by decide) (he:starEach [.Lambda params body scope lpos] X.env=(false,eval (.Lambda params body scope lpos) X.env)::starEach [] X.env:=by rfl):
    PE X (.Call (.Name x p) [.Lambda params body scope lpos] [] pos) (tCaught P (X.env.qual++"<lambda>") idx sp tb):=by
  intro pins s σ H Q I h
  obtain ⟨hT,vs,lv,hv,h⟩:=h
  refine wpAny_Call_Name_kw (ld_glob I hg hm ?_ hdb)
  refine PySem.W.callWith_K (h₀:=X.base) I.ok.mod.kin hC.1 ?_ he rfl
  rw [he]
  show wpAny _ _ (spliced ((false,eval (.Lambda params body scope lpos) X.env)::backTo pos (starEach [] X.env))) _ _ s
  refine Calls.spliced_cons (mkL L hfree hdef I hT fun f c' oc pm ctv H' s' I' hf hf0 fz hc' hoc hT' old=> ?_)
  refine Calls.spliced_nil ⟨I'.kIn,?_⟩
  have sub:∀ y a,(closOf X.env.cells scope.names []).lookup y=some a→X.env.cells.lookup y=some a:=closOf_sub scope.names [] fun y a z=>by cases z
  have hfs:frs X.stack=X.env.locals::frs X.outer:=by rw [hst];exact frs_cons hfm
  have C:ClOkL N scope (closOf X.env.cells scope.names []) s'.heap H' vs:=by
    refine ⟨by rw [lv,hlen],fun y z a h1 h2=>I.ok.inj y z a (sub y a h1) (sub z a h2),fun y hy=> ?_,fun i y v h1 h2=> ?_,fun y a e=>⟨I'.cell y a (sub y a e),I'.freeC y a (sub y a e)⟩⟩
    · exact closOf_has scope.names [] y (.inl ⟨hmem y hy,I.ok.has y (.inl (hfree _ (hmem y hy) rfl))⟩)
    · obtain ⟨j,hj,hXN,hk,hcell⟩:=hN i y h1
      obtain ⟨v',hv',hσ⟩:=hv i j hj
      have ev:v'=v:=Option.some.inj (hv'.symm.trans h2)
      subst ev
      obtain ⟨m,hn,hl⟩:=id I'.loc
      obtain ⟨u,r,lk⟩:=hl j y v' hXN hσ (.inr (.inl hcell))
      obtain ⟨a,ha⟩:=closOf_has (cells:=X.env.cells) scope.names [] y (.inl ⟨hmem y (.inr hk),I.ok.has y (.inl hcell)⟩)
      rcases lk with ⟨kk,_⟩ | ⟨_,a',e',ce⟩
      · rw [hcell] at kk;cases kk
      · have:=sub y a ha
        rw [e'] at this
        cases this
        exact ⟨a,u,hk,ha,r,ce⟩
  have nc:∀ y a,(closOf X.env.cells scope.names []).lookup y=some a→a∉frs X.stack:=fun y a e z=>by
    have e:=sub y a e
    rw [hfs] at z
    rcases List.mem_cons.mp z with z | z
    · exact I.cne y a e z
    · obtain ⟨_,o,ho,_⟩:=funs_mem I.ok.funs z
      have:=I.ok.cab y a (hfn y) e
      exact absurd (Nat.lt_of_lt_of_le (Heap.lt_size ho) this) (Nat.lt_irrefl _)
  have nf:f∉frs X.stack:=fun z=>by
    obtain ⟨_,o,ho,_⟩:=funs_mem I.stack z
    exact absurd (Nat.lt_of_lt_of_le (Heap.lt_size ho) fz) (Nat.lt_irrefl _)
  refine wpAny_call (codeAny_mono (hC.2 X.A X.stack s' H' f c' oc N _ scope _ params body pm ctv vs tb Q hr I'.env0 hf hf0 nf hc' hoc C nc lo (fun A' outer' s2 H2 E' hr'=>hb f c' _ A' outer' s2 H2 E' hr') (h H' hT' old)) fun r s2 hq=> ?_)
  cases r with
  | error e=>exact False.elim hq
  | ok fl=>
    cases fl with
    | ret u=>exact I'.after hq
    | next=>exact False.elim hq
    | brk=>exact False.elim hq
    | cont=>exact False.elim hq
end L2
namespace L2
open PySem PySem.Spec PyProof.Rows PySem.W
theorem blt_at {p:Program} {loose:List Str} {mean:ExcName→Option Value} {mg mb:Str→Option Value} {h:Heap} {T:Addr} (t:Top p loose mean mg mb h) (hT:h.get? T=some (tabObj #[])):h.BuiltinsAt mg T:=by
  obtain ⟨bm,ob,b1,b2,b3,b4,b5,b6⟩:=t.bmain
  refine ⟨bm,ob,b1,b2,fun q=> ?_,fun q=> ?_,b3,b4,b5,b6⟩
  · obtain ⟨o,es,ep,e,hd,_⟩:=t.g
    rw [q,e] at b3;cases b3;rw [hd] at b6;cases b6
  · rw [q,hT] at b3;cases b3;cases b4
theorem lam_start {H:Hp} {T:Addr} {qual:Str} (h:H T=some (.tbl #[])):LamT H T qual:=⟨#[],h,trivial,fun _ _ z=>by cases z⟩
section
variable {P:Program} {w:World} {K:PySem.W.Frag} {mg:Str→Option Value} {base:Heap}
theorem Fun.okL {x qual:Str} {st:Stmt} {f c:Addr} {fd:FuncData} {N ps:List Str} {k:Nat} {sp:Sp} (F:Fun K x qual st f fd) (hc:fd.code= .ref c) (S:FnScope N ps (defScope st)) (len:∀ vs H Q E,sp vs H Q E→vs.length=ps.length)
    (hbody:∀ (A:Around) (outer:List Env) (s:Shared) (H:Hp) (vs:List V) (Q:VK) (E:XK),Room k (A.deeper (envOfC qual (defScope st) s.heap.objs.size f (.ref c)))→sp vs H Q E→
      ∃ t,PSs (cxOf CX0 P w K mg base N qual (defScope st) f (.ref c) A outer s H E).nox (defBody st) t∧t { nx:=fun _ H'=>Q .non H',rt:=Q } (start N vs) H):FnOk P w K mg base CX0 (k+1) f fd ps sp:=by
  obtain ⟨oc,od,kV,doc,pm,an,cdv,ct,osl,rfl,lk,hcd⟩:=F.ex
  obtain rfl:cdv= .ref c:=hc
  refine fn_of lk hcd S len fun A outer s H vs Q E hr hsp=> ?_
  obtain ⟨t,h,q⟩:=hbody A outer s H vs Q E hr hsp
  exact ⟨t,h.nox,q⟩
structure ThAt (s:Shared) (H:Hp) (outer:List Env) (f c':Addr) (oc:Obj) (N:List Str) (qual:Str) (scope:Scope) (cl:List (Str × Addr)) (params:Arguments) (body:Expr) (pm ctv:Value) (vs:List V):Prop where
  hf:s.heap.get? f=some (kla_obj "<lambda>" qual params body scope cl pm c' ctv)
  hf0:H f=none
  nf:f∉frs outer
  hc:H c'=some (exO c' oc)
  hoc:codeO qual oc
  C:ClOkL N scope cl s.heap H vs
  nc:∀ x c,cl.lookup x=some c→c∉frs outer
  lo:LamOk params scope
theorem pe_th {X:Cx} {kb:Nat} {E:XK} {N:List Str} {qual:Str} {scope:Scope} {f c':Addr} {oc:Obj} {cl:List (Str × Addr)} {params:Arguments} {body:Expr} {pm ctv:Value} {vs:List V} {o:Expr} {to:TE} {tb:XK→TE} {pos:Pos} (th:ThAt X.s₀ X.H₀ X.outer f c' oc N qual scope cl params body pm ctv vs)
    (ho:PE X o to) (hx:Passes (CXE X.prog X.w) X E) (hr:Room (kb+1) X.A) (hex:X.ex=[])
    (hb:∀ (A':Around) (outer':List Env) (s':Shared) (H':Hp) (E':XK),Room kb (A'.deeper (envX qual scope s'.heap.objs.size f (.ref c') cl))→PE (cxL X.prog X.w X.K X.mg X.base N qual scope f (.ref c') cl A' outer' s' H' E') body (tb E'))
    (ht:eval (.Call o [] [] pos) X.env=(do callWith pos (← eval o X.env) [] (backTo pos (starEach [] X.env)) (backToKw pos (keywordEach [] X.env))):=by rfl):
    PE X (.Call o [] [] pos) (tThunk f c' oc vs to (tb E)):=
  pe_thunk ho hx hr hex th.hf th.hf0 th.nf th.hoc th.C th.nc th.lo.kind th.lo.co th.lo.gen th.lo.cell (th.lo.bind _ _ _ _ _ _) (fun s' H'=>hb _ _ s' H' _ (hr.deeper _)) ht
theorem Fun.caught {x qual y:Str} {st:Stmt} {fc:Addr} {fd:FuncData} {N:List Str} {kb:Nat} {sp:(XK→TE)→List V→Hp→VK→Prop} (F:Fun K x qual st fc fd) (B:Binds K fd [y] []) (S:FnScope N [y] (defScope st))
    (hbody:∀ (cdv:Value) (A:Around) (outer:List Env) (s:Shared) (H:Hp) (f c':Addr) (oc:Obj) (N':List Str) (qual':Str) (scope:Scope) (cl:List (Str × Addr)) (params:Arguments) (body:Expr) (pm ctv:Value) (vs:List V) (tb:XK→TE) (Q:VK),Room (kb+1) (A.deeper (envOfC qual (defScope st) s.heap.objs.size fc cdv))→
      ThAt s H outer f c' oc N' qual' scope cl params body pm ctv vs→
      (∀ (A':Around) (outer':List Env) (s':Shared) (H':Hp) (E':XK),Room kb (A'.deeper (envX qual' scope s'.heap.objs.size f (.ref c') cl))→PE (cxL P w K mg base N' qual' scope f (.ref c') cl A' outer' s' H' E') body (tb E'))→sp tb vs H Q→
      ∃ t,PSs (cxOf CX0 P w K mg base N qual (defScope st) fc cdv A outer s H E0).nox (defBody st) t∧t { nx:=fun _ H'=>Q .non H',rt:=Q } (start N [.ref f]) H):CaughtAt P w K mg base fc (kb+2) kb sp:=by
  obtain ⟨oc0,od,kV,doc,pm0,an,cdv,ct,osl,rfl,lk,hcd⟩:=F.ex
  refine ⟨F.kp,fun A outer s H f c' oc N' qual' scope cl params body pm ctv vs tb Q hr e0 hf hf0 nf hc hoc C nc lo hb h=> ?_⟩
  obtain ⟨t,ht,hq⟩:=hbody cdv A outer s H f c' oc N' qual' scope cl params body pm ctv vs tb Q (hr.deeper _) ⟨hf,hf0,nf,hc,hoc,C,nc,lo⟩ hb h
  have kin:=e0.mod.kin.keeps fun b o e=>(e0.bs b o e).1
  exact fn_run (us:=[.ref f]) (vs:=[.ref f]) lk hcd S hr e0 (by have:=B s [.ref f] kin rfl;simpa using this) (.cons rfl .nil) rfl ht.nox hq
end
theorem src_pairs {K:PySem.W.Frag} {H:Hp} {a:Addr} {xs:List V} {σ0:St} {ps:List (V × V)} (h:SqL K H a xs) (hp:∀ i,i<xs.length→∃ b,xs.getD i .non= .ref b∧H b=some (.tup [(ps.getD i (.non, .non)).1,(ps.getD i (.non, .non)).2])) (h0:σ0[0]?=some none) (h1:σ0[1]?=some none):
    SrcOk (Itl K a) (gTup K 2 (gCons (gName 0) (gCons (gName 1) gNil))) σ0 H xs.length (fun i=>(σ0.set 0 (some (ps.getD i (.non, .non)).1)).set 1 (some (ps.getD i (.non, .non)).2)) where
  go:=fun i H' hi s=>⟨xs,xs[i],s.seq h,by simp [hi]⟩
  stop:=fun H' s=>⟨xs,s.seq h,Nat.le_refl _⟩
  yld:=fun i H' x H'' R hi s y k=>by
    obtain ⟨e,hv⟩:=y
    subst e
    have e:x=xs.getD i .non:=by
      have:=hv xs (s.seq h)
      rw [List.getD_eq_getElem?_getD,this]
      rfl
    subst e
    obtain ⟨b,eb,hb⟩:=hp i hi
    rw [eb]
    exact ⟨b,_,rfl,SqT.of (s _ _ hb),rfl,_,_,rfl,_,_,rfl,rfl,k _ (Same.refl _)⟩
  kp:=fun i hi=>((Kp.refl _).set h0).set h1
end L2
namespace L2
open PySem PySem.Spec PyProof.Rows PySem.W
noncomputable def isFree:NameKind→Bool | .free=>true | _=>false
noncomputable def isCell:NameKind→Bool | .cell=>true | _=>false
noncomputable def isCellO:Option NameKind→Bool | some .cell=>true | _=>false
noncomputable def isFreeO:Option NameKind→Bool | some .free=>true | _=>false
noncomputable def lamChk (N:List Str) (idx:List Nat) (sc:List (Str × NameKind)) (XN:List Str) (Xsc:List (Str × NameKind)):Bool:=
  sc.all (fun y=> !(isCell y.2)&&(!(isFree y.2)||isCellO (Xsc.lookup y.1)))&&(N.length == idx.length)&&(N.zip idx).all fun p=>(XN[p.2]? == some p.1)&&isFreeO (sc.lookup p.1)&&isCellO (Xsc.lookup p.1)
theorem lookup_mem {α:Type} {x:Str} {v:α}:∀ {l:List (Str × α)},l.lookup x=some v→(x,v)∈l
  | (y,u)::l,h=>by
    rw [List.lookup_cons] at h
    cases e:x == y with
    | true=>
      rw [e] at h
      cases h
      rw [eq_of_beq e]
      exact List.mem_cons_self
    | false=>
      rw [e] at h
      exact List.mem_cons_of_mem _ (lookup_mem h)
theorem isFreeO_eq {k:Option NameKind} (h:isFreeO k=true):k=some .free:=by
  unfold isFreeO at h
  split at h
  · rfl
  · cases h
theorem isCellO_eq {k:Option NameKind} (h:isCellO k=true):k=some .cell:=by
  unfold isCellO at h
  split at h
  · rfl
  · cases h
theorem chk_cell {N:List Str} {idx:List Nat} {sc:List (Str × NameKind)} {XN:List Str} {Xsc:List (Str × NameKind)} (h:lamChk N idx sc XN Xsc=true):∀ y∈sc,y.2≠ .cell:=fun y hy e=>by
  simp only [lamChk,Bool.and_eq_true,List.all_eq_true] at h
  have:=(h.1.1 y hy).1
  rw [e] at this
  cases this
theorem chk_free {N:List Str} {idx:List Nat} {sc:List (Str × NameKind)} {XN:List Str} {Xsc:List (Str × NameKind)} (h:lamChk N idx sc XN Xsc=true):∀ y∈sc,y.2= .free→Xsc.lookup y.1=some .cell:=fun y hy e=>by
  simp only [lamChk,Bool.and_eq_true,List.all_eq_true] at h
  have:=(h.1.1 y hy).2
  rw [e] at this
  exact isCellO_eq (by simpa [isFree] using this)
theorem chk_len {N:List Str} {idx:List Nat} {sc:List (Str × NameKind)} {XN:List Str} {Xsc:List (Str × NameKind)} (h:lamChk N idx sc XN Xsc=true):N.length=idx.length:=by
  simp only [lamChk,Bool.and_eq_true] at h
  exact eq_of_beq h.1.2
theorem chk_N {N:List Str} {idx:List Nat} {sc:List (Str × NameKind)} {XN:List Str} {Xsc:List (Str × NameKind)} (h:lamChk N idx sc XN Xsc=true) (i:Nat) (y:Str) (hy:N[i]?=some y):∃ j,idx[i]?=some j∧XN[j]?=some y∧sc.lookup y=some .free∧Xsc.lookup y=some .cell:=by
  have hl:=chk_len h
  simp only [lamChk,Bool.and_eq_true,List.all_eq_true] at h
  obtain ⟨hi,e⟩:=List.getElem?_eq_some_iff.mp hy
  have hi2:i<idx.length:=by omega
  have hm:(y,idx[i])∈N.zip idx:=by
    refine List.mem_iff_getElem.mpr ⟨i,by rw [List.length_zip];omega,?_⟩
    rw [List.getElem_zip,e]
  obtain ⟨⟨h1,h2⟩,h3⟩:=h.2 _ hm
  exact ⟨idx[i],by simp [hi2],eq_of_beq h1,isFreeO_eq h2,isCellO_eq h3⟩
noncomputable def CaughtF (P:Program) (w:World) (K:PySem.W.Frag) (mg:Str→Option Value) (base:Heap) (x:Str) (k kb:Nat) (sp:(XK→TE)→List V→Hp→VK→Prop):Prop:=∃ fc,mg x=some (.ref fc)∧CaughtAt P w K mg base fc k kb sp
theorem DefAt.caught {P:Program} {w:World} {K:PySem.W.Frag} {mg:Str→Option Value} {base:Heap} {x:Str} {st:Stmt} {ps:List Str} {f:Addr} {fd:FuncData} {k kb:Nat} {sp:(XK→TE)→List V→Hp→VK→Prop} (d:DefAt K mg x st ps f fd)
    (F:CaughtAt P w K mg base f k kb sp):CaughtF P w K mg base x k kb sp:=⟨f,d.at',F⟩
theorem pe_caughtF {X:Cx} {x:Str} {c P:Addr} {k kb:Nat} {sp:(XK→TE)→List V→Hp→VK→Prop} {params:Arguments} {body:Expr} {scope:Scope} {p lpos pos:Pos} {tb:XK→TE}
    (hC:CaughtF X.prog X.w X.K X.mg X.base x k kb sp) (hr:Room k X.A) (L:LamX X c P) (N:List Str) (idx:List Nat)
    (hb:∀ (f c':Addr) (cl:List (Str × Addr)) (A':Around) (outer':List Env) (s':Shared) (H':Hp) (E':XK),Room kb (A'.deeper (envX (X.env.qual++"<lambda>") scope s'.heap.objs.size f (.ref c') cl))→PE (cxL X.prog X.w X.K X.mg X.base N (X.env.qual++"<lambda>") scope f (.ref c') cl A' outer' s' H' E') body (tb E'))
    (hchk:lamChk N idx scope.names X.N X.env.scope.names=true) (hst:X.stack=X.env::X.outer:=by rfl) (hfm:X.env.frame=some X.env.locals:=by rfl) (hfn:∀ y,X.fn y=true:=by intro _;rfl)
    (hk:scope.kind= .function:=by rfl) (hco:scope.isCoroutine=false:=by rfl) (hgen:scope.isGenerator=false:=by rfl) (hbd:∀ (qual:Str) (body:Expr) (cl:List (Str × Addr)) (pm cdv ctv:Value),bindArgs (kla_fn "<lambda>" qual params body scope cl pm cdv ctv) ⟨[],[]⟩=pure []:=by intros;rfl)
    (hdef:defaultsOf params X.env=([],[]):=by rfl) (hg:Gl X x:=by rfl) (hdb:(x == ("__debug__":Str))=false:=by decide) (he:starEach [.Lambda params body scope lpos] X.env=(false,eval (.Lambda params body scope lpos) X.env)::starEach [] X.env:=by rfl):
    PE X (.Call (.Name x p) [.Lambda params body scope lpos] [] pos) (tCaught P (X.env.qual++"<lambda>") idx sp tb):=by
  obtain ⟨fc,hm,hA⟩:=hC
  refine pe_caught hm hA hr L hst hfm hfn ⟨hk,hco,hgen,chk_cell hchk,hbd⟩ hdef (chk_free hchk) (fun y hy=> ?_) (chk_len hchk) (chk_N hchk) hb hg hdb he
  rcases hy with hy | hy
  · exact absurd rfl (chk_cell hchk _ (lookup_mem hy))
  · exact lookup_mem hy
noncomputable def bar (T:Addr) (H:Hp):Hp:=fun b=>if b=T then none else H b
theorem bar_some {T:Addr} {H:Hp} {b:Addr} {o u:HO} (h:H b=some o) (hT:H T=some u) (n:u≠o):bar T H b=some o:=by
  refine (if_neg fun z=> ?_).trans h
  rw [z,hT] at h
  cases h
  exact n rfl
theorem bar_same {T:Addr} {H:Hp}:Same (bar T H) H:=fun b o e=>by
  by_cases hb:b=T
  · have e':=(if_pos hb).symm.trans e
    cases e'
  · exact (if_neg hb).symm.trans e
theorem bar_go {T:Addr} {H H' H'':Hp} (s:Same (bar T H) H') (k:∀ b o,b≠T→H' b=some o→H'' b=some o):Same (bar T H) H'':=fun b o e=>by
  by_cases hb:b=T
  · have e':=(if_pos hb).symm.trans e
    cases e'
  · exact k b o hb (s b o e)
theorem LamT.same {H H':Hp} {T:Addr} {q:Str} (h:LamT H T q) (s:Same H H'):LamT H' T q:=by
  obtain ⟨ps,h1,h2,h3⟩:=h
  refine ⟨ps,s _ _ h1,h2,fun p cv e=> ?_⟩
  obtain ⟨c',oc,e1,e2,e3⟩:=h3 p cv e
  exact ⟨c',oc,e1,s _ _ e2,e3⟩
theorem rd_caught {T:Addr} {q:Str} {idx:List Nat} {sp:(XK→TE)→List V→Hp→VK→Prop} {tb:XK→TE} {σ:St} {H:Hp} {Q:VK} (hT:LamT H T q) (vs:List V) (hl:vs.length=idx.length) (hv:∀ (i j:Nat),idx[i]?=some j→∃ v,vs[i]?=some v∧σ[j]?=some (some v))
    (k:∀ H',LamT H' T q→(∀ b o,b≠T→H b=some o→H' b=some o)→sp tb vs H' Q):tCaught T q idx sp tb σ H Q:=⟨hT,vs,hl,hv,k⟩
theorem rd_thunk {f c':Addr} {oc:Obj} {vs:List V} {to tb:TE} {σ:St} {H:Hp} {Q:VK} (h:to σ H fun v H1=>v= .ref f∧H1 c'=some (exO c' oc)∧tb (vs.map some) H1 Q):tThunk f c' oc vs to tb σ H Q:=h
end L2
namespace L2
open PySem PySem.Spec PyProof.Rows
section
variable {X:Cx} {K:PySem.W.Frag} {e lo st:Expr} {te tl ts:TE} {pos p2:Pos}
end
section
variable {J:It} {g:TG} {σ0:St} {H:Hp} {n:Nat} {st:Nat→St} {te:TE} {Q:VK} {D:Addr}
end
end L2
namespace L2
open PySem PySem.Spec PyProof.Rows PySem.W
structure LamV (P:Program) (w:World) (K:PySem.W.Frag) (mg:Str→Option Value) (base:Heap) (k:Nat) (f:Addr) (sp:Sp):Prop where
  obj:FnAt f base
  run:∀ (A:Around) (outer:List Env) (s:Shared) (H:Hp) (u:Value) (v:V) (Q:VK),Room k A→Env0 P w K mg base A outer s H→RelV v u→sp [v] H Q E0→codeAny (model P w) A (.call (.ref f) ⟨[u],[]⟩) (CR CX0 outer P w H s Q E0) s
section
variable {P:Program} {w:World} {K:PySem.W.Frag} {mg:Str→Option Value} {base:Heap} {N:List Str} {qual x:Str} {scope:Scope} {f:Addr} {cd:Value} {cl:List (Str × Addr)} {A:Around} {outer:List Env} {s:Shared} {H:Hp} {E:XK}
end
end L2
namespace HT
open PySem PySem.Spec PyProof.Rows PySem.W PySem.Calls PySem.Builtin PySem.Builtin.ObjectAttr PySem.Builtin.Getset_descriptor
section
variable {prog:Program} {w:World} {A:Around} {E:Value→Shared→Prop} {s:Shared} {K:Frag} {a C dx:Addr} {o:Obj} {f:Str} {mA:Str→Option Value} {u:Value} {vs:Array Value}
theorem exc_own {M:Model} (X:K.In s.heap) (hd:(clsIn K C).any (·.hasDict)=true) (he:s.heap.get? a=some o) (hc:o.cls= .ref C) (hf:o.data= .fields vs) (ho:o.dict=some dx) (hn:s.heap.Ns1 dx mA) (hu:mA f=some u):
    Looks M s.heap (inOwnDict f (.ref a)) (some u):=by
  obtain ⟨cd,hcd,hhd⟩:=any_some hd
  obtain ⟨oc,od,dat,sl⟩:=o
  dsimp only at hc hf ho
  subst hc hf ho
  have L1:Looks M s.heap (ObjectAttr.ownDict a) (some dx):=by
    unfold ObjectAttr.ownDict loadHead
    refine (Looks.ld he).andThen ?_
    unfold instanceDict
    refine (Looks.ld he).andThen ?_
    refine ((looks_clsIn X hcd).andThen ?_)
    rw [hhd]
    exact .now
  unfold inOwnDict inDict
  refine L1.andThen ?_
  exact fun A' Q' E' s' k q=>wpAny_nsGet ((hn.ns).keeps k) (by rw [hu];exact q)
theorem exc_attr {expr:Bool} {Q:Value→Shared→Prop} (k:ExcKind K C) (nf:findIn K (.ref C) f=some none) (X:K.In s.heap) (hd:(clsIn K C).any (·.hasDict)=true) (he:s.heap.get? a=some o) (hc:o.cls= .ref C) (hf:o.data= .fields vs) (ho:o.dict=some dx) (hn:s.heap.Ns1 dx mA) (hu:mA f=some u) (hho:handedIn u=true)
    (h:Q u { s with toks:=s.toks+1 }):wpAny (model prog w) A (getAttr (.ref a) f expr) Q E s:=by
  obtain ⟨hh,g,d,t,os⟩:=s
  have x:ExcAt a C hh:=⟨o,he,hc⟩
  have L0:=x.type (M:=model prog w)
  have L1:=looks_findIn (M:=model prog w) X k.ga
  have L2:=looks_findIn (M:=model prog w) X k.ng
  have L3:Looks (model prog w) hh (find (.ref a) (.ref C) f) (.value u):=by
    unfold find
    refine (looks_findIn X nf).andThen ?_
    refine Looks.andThen (a:=none) .now (Looks.andThen (a:=none) .now ?_)
    unfold ownThenClass
    exact (exc_own (s:=⟨hh,g,d,t,os⟩) X hd he hc hf ho hn hu).andThen (Looks.tag .now)
  unfold getAttr getAttrBy
  refine wpAny_bind (wpAny_mkText (wpAny_holding (wpAny_bind (L0.at (wpAny_bind (L1.at ?_))))))
  show wpAny _ _ (getAttrByItsOwn (.ref a) _ (.ref C) (.builtin "BaseException.__getattribute__") true expr) _ _ _
  unfold getAttrByItsOwn
  refine wpAny_bind (L2.at ?_)
  refine wpAny_bind (wpAny_attempt (wpAny_holding ?_))
  have hx0:(expr&&onTheHeap (Value.builtin "BaseException.__getattribute__"))=false:=by cases expr <;> rfl
  unfold callGetattribute
  rw [hx0]
  show wpAny _ _ (boundAndCalled (.builtin "BaseException.__getattribute__") (.ref a) _) _ _ _
  unfold boundAndCalled
  rw [PySem.F.excAttr_ValueError.ga.bind (.ref a)]
  refine wpAny_bind (wpAny_pure ?_)
  refine wpAny_call (codeAny_call_builtin PySem.F.excAttr_ValueError.ga.plain PySem.F.entry_bexc_ga (exc_check (s:=⟨hh,g,d,t+1,os⟩) k X x ?_))
  unfold Builtin.«object.__getattribute__»
  repeat lk
  show wpAny _ _ (handedOut u) _ _ _
  exact handed_on (s:=⟨hh,g,d,t+1,os⟩) hho h
end
end HT
namespace L2
open PySem PySem.Spec PyProof.Rows PySem.W
structure XKind (K:PySem.W.Frag) (C:Addr):Prop extends HT.ExcKind K C where
  hd:(clsIn K C).any (·.hasDict)=true
noncomputable def xdO (d:Addr) (fs:List (Str × V)):HO:= .ext fun h=>∃ mA,h.Ns1 d mA∧(∀ f,RelO (fs.lookup f) (mA f))∧PySem.Within mA (fs.map (·.1))
theorem xd_ok {P:Program} {w:World} {H:Hp} {h:Heap} {d:Addr} {fs:List (Str × V)} {mA:Str→Option Value} (hn:h.Ns1 d mA) (hm:∀ f,RelO (fs.lookup f) (mA f)) (hw:PySem.Within mA (fs.map (·.1))):ObjOk P w H h d (xdO d fs):=
  ⟨⟨mA,hn,hm,hw⟩,let ⟨o,_,_,e,_⟩:=hn;⟨o,e⟩,fun _ _ ⟨mA,hn,hm,hw⟩ k=>⟨mA,hn.at k,hm,hw⟩⟩
noncomputable def tXFld (K:PySem.W.Frag) (f:Str) (to:TE):TE:=fun σ H Q=>to σ H fun v H1=>∃ a C dx fs y,v= .ref a∧H1 a=some (excO a C (some dx))∧H1 dx=some (xdO dx fs)∧fs.lookup f=some y∧XKind K C∧findIn K (.ref C) f=some none∧Q y H1
theorem pe_xfld {X:Cx} {K:PySem.W.Frag} {o:Expr} {f:Str} {to:TE} {pos:Pos} (ho:PE X o to) (hb:attributeBase o f X.env (eval o X.env)=eval o X.env) (hK:X.K=K:=by rfl):PE X (.Attribute o f pos) (tXFld K f to):=by
  subst hK
  intro pins s σ H Q I h
  refine attr_of hb (thn (ho pins s σ H _ I h) fun u s1 ⟨v,H1,I1,rv,a,C,dx,fs,y,ev,ha,hdx,hl,k,nf,q⟩=> ?_)
  subst ev
  obtain rfl:u=Value.ref a:=rv
  obtain ⟨⟨ob,he,hc,hod,vs,hdat⟩,_⟩:=(show ObjOk X.prog X.w H1 s1.heap a (excO a C (some dx)) from I1.hok a _ ha)
  obtain ⟨⟨mA,hn,hm,_⟩,_⟩:=(show ObjOk X.prog X.w H1 s1.heap dx (xdO dx fs) from I1.hok dx _ hdx)
  obtain ⟨w',hw,rw'⟩:=RelO.some_of (v:=y) (o:=mA f) (by rw [← hl];exact hm f)
  exact HT.exc_attr k.toExcKind nf I1.kIn k.hd he hc hdat hod hn hw (handed_of rw') ⟨y,H1,I1.tok _,rw',q⟩
end L2
namespace HT
open PySem PySem.Spec PyProof.Rows PySem.W PySem.Calls PySem.Builtin PySem.Builtin.ObjectAttr PySem.Builtin.Getset_descriptor
noncomputable def excTail:List Value:=[.type "ValueError", .type "Exception", .type "BaseException", .type "object"]
noncomputable def onlyExc:List Value→Bool
  | .ref _::r=>onlyExc r
  | l=>l == excTail
theorem refuse_exc (self:Value):refuseLoop self "__setattr__" excTail=pure ():=by kernel_rfl
theorem onlyE_split:∀ {l:List Value},onlyExc l=true→l=excTail∨∃ c r,l= .ref c::r∧onlyExc r=true
  | [],e=> .inl (beq_iff_eq.mp e)
  | v::r,e=>by
    cases v with
    | ref c=>exact .inr ⟨c,r,rfl,e⟩
    | _=>exact .inl (beq_iff_eq.mp e)
theorem refuse_onlyE (self:Value):∀ (n:Nat) (l:List Value),l.length≤n→onlyExc l=true→refuseLoop self "__setattr__" l=pure ()
  | 0,l,h,e=>by
    have z:=List.length_eq_zero_iff.mp (Nat.le_zero.mp h)
    subst z
    cases e
  | n+1,l,h,e=>by
    rcases onlyE_split e with rfl | ⟨c,r,rfl,e'⟩
    · exact refuse_exc self
    · rw [refuseLoop_ref]
      exact refuse_onlyE self n r (by simp at h;omega) e'
theorem onlyE_has {l:List Value} (n:Nat) (h:l.length≤n) (e:onlyExc l=true):l.contains (.type "object")=true:=by
  induction n generalizing l with
  | zero=>
    have z:=List.length_eq_zero_iff.mp (Nat.le_zero.mp h)
    subst z
    cases e
  | succ n ih=>
    rcases onlyE_split e with rfl | ⟨c,r,rfl,e'⟩
    · decide
    · rw [List.contains_cons,ih (by simp at h;omega) e',Bool.or_true]
noncomputable def exOver (K:Frag) (C:Addr):Bool:=(clsIn K C).any fun cd=>onlyExc cd.mro
section
variable {prog:Program} {w:World} {A:Around} {E:Value→Shared→Prop} {s:Shared} {K:Frag} {a C dx:Addr} {o:Obj} {f:Str} {mA:Str→Option Value} {v:Value} {vs:Array Value}
theorem exc_osa {Q:Unit→Shared→Prop} (X:K.In s.heap) (hs:findIn K (.ref C) "__setattr__"=some (some (.builtin "object.__setattr__"))) (hp:exOver K C=true) (ht:takerIn K C f=some none) (x:ExcAt a C s.heap)
    (h:∀ b,wpAny (model prog w) A.in1 (storeInOwnDict (.ref a) (.ref C) (.str f s.toks) f v b) (fun fin s'=>match fin with | .done (.ret _)=>Q () s' | _=>False) E { s with toks:=s.toks+1 }):
    wpAny (model prog w) A (setAttr (.ref a) f v) Q E s:=by
  have SF:=PySem.F.store_object
  obtain ⟨cd,hc,ho⟩:=any_some hp
  have ne:cd.mro.isEmpty=false:=by cases q:cd.mro with | nil=>rw [q] at ho;cases ho | cons _ _=>rfl
  have L0:=x.type (M:=model prog w)
  have sub:Looks (model prog w) s.heap (isInstance (.ref a) (.type "object")) true:=L0.andThen (looks_mroIn X (by unfold mroIn;rw [hc,Option.bind_some,if_neg (by rw [ne];decide),onlyE_has _ (Nat.le_refl _) ho]))
  obtain ⟨attr,ha,hr⟩:=Option.bind_eq_some_iff.mp ht
  have hm:Looks (model prog w) s.heap (mroOf (.ref C)) cd.mro:=(looks_clsIn X hc).andThen .now
  have L3:Looks (model prog w) s.heap (storeTaker? attr) none:=by
    cases attr with
    | none=>cases hr;exact .now
    | some a=>
      obtain ⟨b,hb,hbb⟩:=Option.map_eq_some_iff.mp hr
      refine (looks_takesIn X hb).andThen ?_
      cases b with
      | true=>cases hbb
      | false=>exact .now
  refine wpAny_bind (wpAny_mkText (wpAny_bind (wpAny_bind (wpAny_bind (L0 _ _ _ _ (fun _ _ e=>e) (looks_findIn X hs _ _ _ _ (fun _ _ e=>e) (wpAny_holding ?_)))))))
  rw [SF.slot.bind]
  refine wpAny_bind (wpAny_pure (wpAny_bind (wpAny_call (codeAny_call_builtin SF.slot.plain SF.entry (@check_slot (model prog w) _ _ { s with toks:=s.toks+1 } "object.__setattr__" "object" "__setattr__" (.ref a) [.str f s.toks,v] [] _ SF.kind SF.split sub (SF.args (.ref a) (.str f s.toks) v) ?_)))))
  show wpAny _ _ (Builtin.«object.__setattr__» ⟨[.ref a, .str f s.toks,v],[]⟩) _ _ _
  rw [osa_eq,refuse_eq]
  refine wpAny_bind (wpAny_bind (Looks.here (s:={ s with toks:=s.toks+1 }) L0 (wpAny_bind (Looks.here (s:={ s with toks:=s.toks+1 }) hm ?_))))
  rw [refuse_onlyE _ _ _ (Nat.le_refl _) ho]
  refine wpAny_pure (wpAny_bind (Looks.here (s:={ s with toks:=s.toks+1 }) L0 (wpAny_bind (Looks.here (s:={ s with toks:=s.toks+1 }) (looks_findIn X ha) (wpAny_bind (Looks.here (s:={ s with toks:=s.toks+1 }) L3 ?_))))))
  refine wpAny_mono (h _) (fun fin s' z=> ?_) fun e s' z=>z
  cases fin with
  | again c'=>exact False.elim z
  | done f=>
    cases f with
    | ret u=>exact wpAny_pure (wpAny_pure z)
    | next=>exact False.elim z
    | brk=>exact False.elim z
    | cont=>exact False.elim z
theorem exc_set {ns:List Str} {Q:Unit→Shared→Prop} (X:K.In s.heap) (hs:findIn K (.ref C) "__setattr__"=some (some (.builtin "object.__setattr__"))) (hp:exOver K C=true) (ht:takerIn K C f=some none) (hd:(clsIn K C).any (·.hasDict)=true)
    (he:s.heap.get? a=some o) (hc:o.cls= .ref C) (ho:o.dict=some dx) (hn:s.heap.Ns1 dx mA) (hw:PySem.Within mA ns) (hsz:ns.length≤1000)
    (h:∀ h',h'.Ns1 dx (fun y=>if y=f then some v else mA y)→Heap.SameBut dx s.heap h'→Q () { s with heap:=h',toks:=s.toks+2 }):wpAny (model prog w) A (setAttr (.ref a) f v) Q E s:=by
  refine exc_osa X hs hp ht ⟨o,he,hc⟩ fun b=> ?_
  obtain ⟨cd,hcd,hhd⟩:=any_some hd
  obtain ⟨oc,od,dat,sl⟩:=o
  dsimp only at hc ho
  subst hc ho
  refine wpAny_bind (wpAny_pure (wpAny_bind (wpAny_bind (wpAny_loadPart he (wpAny_bind (Looks.here (s:={ s with toks:=s.toks+1 }) (looks_clsIn X hcd) ?_))))))
  rw [hhd]
  refine wpAny_pure (a:=some dx) (wpAny_bind (wpAny_pure (wpAny_bind ?_)))
  refine wpAny_nsSet1 (s:={ s with toks:=s.toks+1 }) hn fun h' hn2 hs2=> ?_
  obtain ⟨oD,esD,epD,hoD,hdD,hcD⟩:=hn2.count (PySem.Within.cons f v hw)
  refine wpAny_bind (wpAny_lookBehind hoD (by rw [hdD];exact pastItsLine_dict (Nat.le_trans hcD (by rw [List.length_cons,sizeLine_eq];omega))) ?_)
  exact wpAny_pure (h _ hn2 hs2)
theorem instDict0 {M:Model} {sl:Array (Option Value)} {cd:ClassData} {Q:Option Addr→Shared→Prop} (X:K.In s.heap) (hcd:clsIn K C=some cd) (hhd:cd.hasDict=true) (he:s.heap.get? a=some ⟨.ref C,none, .fields vs,sl⟩)
    (h:Q (some s.heap.objs.size) { s with heap:=(s.heap.push { cls:= .type "dict",data:= .dict #[] }).update a (fun o=>{ o with dict:=some s.heap.objs.size }) }):wpAny M A (instanceDict a true) Q E s:=by
  unfold instanceDict
  refine wpAny_bind (wpAny_loadPart he ?_)
  refine wpAny_bind (Looks.here (looks_clsIn X hcd) ?_)
  rw [hhd]
  dsimp only [Bool.not_true]
  rw [if_neg (show ¬ ((!true)=true) from Bool.false_ne_true)]
  have ht:(!true|| !typeHasDict (.ref C))=false:=rfl
  rw [ht,if_neg Bool.false_ne_true]
  have he1:=Heap.get?_push_of_some { cls:= .type "dict",data:= .dict #[] } he
  refine wpAny_bind (wpAny_alloc ?_)
  refine wpAny_bind (wpAny_update (s:={ s with heap:=s.heap.push { cls:= .type "dict",data:= .dict #[] } }) he1 ?_)
  unfold dictMade
  exact wpAny_pure h
theorem strKeys_nil:StrKeys (#[]:Array DictEntry):=fun e he=>absurd he (by simp)
theorem uniqKeys_nil:UniqKeys (#[]:Array DictEntry):=List.Pairwise.nil
theorem exc_set0 {Q:Unit→Shared→Prop} (X:K.In s.heap) (hs:findIn K (.ref C) "__setattr__"=some (some (.builtin "object.__setattr__"))) (hp:exOver K C=true) (ht:takerIn K C f=some none) (hd:(clsIn K C).any (·.hasDict)=true)
    (he:s.heap.get? a=some o) (hc:o.cls= .ref C) (hf:o.data= .fields vs) (ho:o.dict=none)
    (h:∀ h',h'.get? a=some { o with dict:=some s.heap.objs.size }→h'.Ns1 s.heap.objs.size (fun y=>if y=f then some v else none)→(∀ b ob,b≠a→s.heap.get? b=some ob→h'.get? b=some ob)→Q () { s with heap:=h',toks:=s.toks+2 }):
    wpAny (model prog w) A (setAttr (.ref a) f v) Q E s:=by
  refine exc_osa X hs hp ht ⟨o,he,hc⟩ fun b=> ?_
  obtain ⟨cd,hcd,hhd⟩:=any_some hd
  obtain ⟨oc,od,dat,sl⟩:=o
  dsimp only at hc ho hf
  subst hc ho hf
  have na:a≠s.heap.objs.size:=Nat.ne_of_lt (Heap.lt_size he)
  have he1:=Heap.get?_push_of_some { cls:= .type "dict",data:= .dict #[] } he
  refine wpAny_bind (wpAny_pure (wpAny_bind (instDict0 (s:={ s with toks:=s.toks+1 }) X hcd hhd he ?_)))
  have hn1:((s.heap.push { cls:= .type "dict",data:= .dict #[] }).update a (fun o=>{ o with dict:=some s.heap.objs.size })).Ns1 s.heap.objs.size (fun _=>none):=by
    refine ⟨{ cls:= .type "dict",data:= .dict #[] }, #[],0,?_,rfl,strKeys_nil,uniqKeys_nil,fun name=>rfl⟩
    rw [Heap.get?_update_other _ _ na]
    exact Heap.get?_push_size _ rfl
  have ha1:((s.heap.push { cls:= .type "dict",data:= .dict #[] }).update a (fun o=>{ o with dict:=some s.heap.objs.size })).get? a=some ⟨.ref C,some s.heap.objs.size, .fields vs,sl⟩:=Heap.get?_update_self _ he1 rfl
  have hk:∀ b ob,b≠a→s.heap.get? b=some ob→((s.heap.push { cls:= .type "dict",data:= .dict #[] }).update a (fun o=>{ o with dict:=some s.heap.objs.size })).get? b=some ob:=fun b ob hb e=>by
    rw [Heap.get?_update_other _ _ (Ne.symm hb)]
    exact Heap.get?_push_of_some _ e
  generalize (s.heap.push { cls:= .type "dict",data:= .dict #[] }).update a (fun o=>{ o with dict:=some s.heap.objs.size })=h1 at hn1 ha1 hk ⊢
  show wpAny _ _ (storeInDict s.heap.objs.size (.str f s.toks) f v) _ _ _
  unfold storeInDict
  refine wpAny_bind (wpAny_pure (wpAny_bind ?_))
  refine wpAny_nsSet1 (s:={ s with heap:=h1,toks:=s.toks+1 }) hn1 fun h' hn2 hs2=> ?_
  obtain ⟨oD,esD,epD,hoD,hdD,hcD⟩:=hn2.count (PySem.Within.cons f v PySem.Within.nil)
  refine wpAny_bind (wpAny_lookBehind hoD (by rw [hdD];exact pastItsLine_dict (Nat.le_trans hcD (by rw [List.length_cons,sizeLine_eq];simp))) ?_)
  exact wpAny_pure (h _ ((hs2.2 _ na).trans ha1) hn2 fun b ob hb e=>(hs2.2 b (Nat.ne_of_lt (Heap.lt_size e))).trans (hk b ob hb e))
end
end HT
namespace L2
open PySem PySem.Spec PyProof.Rows PySem.W
structure XSet (K:PySem.W.Frag) (C:Addr):Prop where
  sa:findIn K (.ref C) "__setattr__"=some (some (.builtin "object.__setattr__"))
  ov:HT.exOver K C=true
  hd:(clsIn K C).any (·.hasDict)=true
noncomputable def xnO (a C:Addr) (od:Option Addr):HO:= .ext fun h=>∃ t,h.get? a=some ⟨.ref C,od, .fields #[.ref t, .none, .none, .none, .bool false, .none], #[]⟩
theorem xn_ok {P:Program} {w:World} {H:Hp} {h:Heap} {a C t:Addr} {od:Option Addr} (e:h.get? a=some ⟨.ref C,od, .fields #[.ref t, .none, .none, .none, .bool false, .none], #[]⟩):ObjOk P w H h a (xnO a C od):=
  ⟨⟨t,e⟩,⟨_,e⟩,fun _ _ ⟨t,e⟩ k=>⟨t,k _ e⟩⟩
noncomputable def sXFld (K:PySem.W.Frag) (f:Str) (to tv:TE):TS:=fun D σ H=>tv σ H fun y H1=>to σ H1 fun x H2=>∃ a C od,x= .ref a∧H2 a=some (xnO a C od)∧XSet K C∧takerIn K C f=some none∧
  ((od=none∧∀ dx,H2 dx=none→D.nx σ (upd (upd H2 dx (xdO dx [(f,y)])) a (xnO a C (some dx))))∨∃ dx fs,od=some dx∧H2 dx=some (xdO dx fs)∧fs.length<1000∧D.nx σ (upd H2 dx (xdO dx (putF f y fs))))
theorem ps_xfld {X:Cx} {K:PySem.W.Frag} {o value:Expr} {f:Str} {to tv:TE} {pos pos':Pos} (ha:PE X o to) (hv:PE X value tv) (hs:swapsWith value (some (.Attribute o f pos')) pos.line X.env=pure false) (hK:X.K=K:=by rfl):
    PS X (.Assign [.Attribute o f pos'] value pos) (sXFld K f to tv):=by
  subst hK
  intro pins s σ H D I h
  refine plainObj_wpAny_Assign_Attribute (thn (hv pins s σ H _ I h) fun u s1 ⟨y,H1,I1,ry,q⟩=>thn (ha pins s1 σ H1 _ I1 q) fun ov s2 ⟨x,H2,I2,rx,a,C,od,ex,ea,k,ht,q2⟩=> ?_) hs
  subst ex
  obtain rfl:ov=Value.ref a:=rx
  obtain ⟨⟨t,he⟩,_⟩:=(show ObjOk X.prog X.w H2 s2.heap a (xnO a C od) from I2.hok a _ ea)
  rcases q2 with ⟨rfl,q2⟩ | ⟨dx,fs,rfl,hdx,hl,q2⟩
  · refine HT.exc_set0 I2.kIn k.sa k.ov ht k.hd he rfl rfl rfl fun h' ha' hn' keep=>⟨σ,_,?_,q2 s2.heap.objs.size I2.fresh⟩
    have fr:=I2.fresh
    generalize hdx:s2.heap.objs.size=dx at ha' hn' fr ⊢
    have na:a≠dx:=fun z=>by rw [z,fr] at ea;cases ea
    have neA:∀ b u,H2 b=some u→(∀ φ,u≠ .ext φ)→b≠a:=fun b u e n z=>by rw [z,ea] at e;cases e;exact n _ rfl
    have neD:∀ b u,H2 b=some u→b≠dx:=fun b u e z=>by rw [z,fr] at e;cases e
    have oD:∀ b ob,s2.heap.get? b=some ob→b≠dx:=fun b ob e z=>by rw [← hdx] at z;exact absurd (Heap.lt_size e) (by rw [z];exact Nat.lt_irrefl _)
    have eH:∀ b,b≠a→b≠dx→upd (upd H2 dx (xdO dx [(f,y)])) a (xnO a C (some dx)) b=H2 b:=fun b h1 h2=>by rw [upd_ne h1,upd_ne h2]
    refine I2.un (t':=s2.toks+2) ⟨fun b ob e hH hn hx=> ?_,fun b ob e hH hb hx=> ?_,fun b ob e hH hx=> ?_,fun b ob e hx=> ?_,fun b xs e=> ?_,fun b ob u e=> ?_,fun b ps e=> ?_⟩ fun b u e=> ?_
    · exact keep b ob (fun z=>by rw [z,ea] at hH;cases hH) e
    · exact ⟨ob.slots,keep b ob (fun z=>by rw [z,ea] at hH;cases hH) e⟩
    · rw [eH b (fun z=>by rw [z,ea] at hH;cases hH) (oD b ob e)]
      exact hH
    · by_cases z:b=a
      · rw [z];exact ⟨_,ha'⟩
      · exact ⟨ob,keep b ob z e⟩
    · rw [eH b (neA b _ e fun φ z=>by cases z) (neD b _ e)]
      exact e
    · rw [eH b (neA b _ e fun φ z=>by cases z) (neD b _ e)]
      exact e
    · exact ⟨#[],by rw [eH b (neA b _ e fun φ z=>by cases z) (neD b _ e)];simpa using e⟩
    · by_cases z:b=a
      · subst z
        rw [upd_same] at e
        cases e
        exact xn_ok (t:=t) ha'
      · rw [upd_ne z] at e
        by_cases z2:b=dx
        · subst z2
          rw [upd_same] at e
          cases e
          refine xd_ok hn' (fun g=> ?_) (PySem.Within.cons f _ PySem.Within.nil)
          show RelO (List.lookup g [(f,y)]) (if g=f then some _ else none)
          rw [List.lookup_cons]
          by_cases q:g=f
          · rw [if_pos q,q,beq_self_eq_true]
            exact ry
          · rw [if_neg q,show (g == f)=false from beq_eq_false_iff_ne.mpr q]
            exact True.intro
        · rw [upd_ne z2] at e
          refine (I2.hok b u e).stay (fun c v hc q=>keep c v ?_ q) (fun c q=> ?_) fun c xs q=> ?_
          · rcases hc with rfl | hc
            · exact z
            · exact neA c _ hc fun φ z=>by cases z
          · rw [eH c (neA c _ q fun φ z=>by cases z) (neD c _ q)]
            exact q
          · rw [eH c (neA c _ q fun φ z=>by cases z) (neD c _ q)]
            exact q
  · obtain ⟨⟨mA,hn,hm,hw⟩,_⟩:=(show ObjOk X.prog X.w H2 s2.heap dx (xdO dx fs) from I2.hok dx _ hdx)
    refine HT.exc_set I2.kIn k.sa k.ov ht k.hd he rfl rfl hn hw (by rw [List.length_map];omega) fun h' hn' sb=>⟨σ,_,?_,q2⟩
    refine I2.write (x:=dx) (e:=dx) (t':=s2.toks+2) (by rw [hdx];exact True.intro) (.inl rfl) (fun b q hb z=>(sb.2 b hb).trans z) (let ⟨o,_,_,e,_⟩:=hn';⟨o,e⟩) (xd_ok hn' (fun g=> ?_) fun g hg=> ?_)
    · show RelO ((putF f y fs).lookup g) (if g=f then some u else mA g)
      rw [lookup_putF]
      by_cases q:g=f
      · rw [if_pos q,if_pos q];exact ry
      · rw [if_neg q,if_neg q];exact hm g
    · by_cases q:g=f
      · rw [q];exact (keys_putF f y fs).1
      · refine (keys_putF f y fs).2 g (hw g fun z=>hg ?_)
        show (if g=f then some u else mA g)=none
        rw [if_neg q];exact z
end L2
namespace HT
open PySem PySem.Spec PyProof.Rows PySem.W PySem.Calls PySem.Builtin
noncomputable def iniIn (K:Frag) (C fi:Addr):Bool:=match K.lookup C with
  | some ⟨.type "type",_, .cls cd,sl⟩=>(match cd.mro,sl.toList with
    | .ref C'::bm,[_,_,_,_,some (.builtin n),_]=>C' == C&&n == "ValueError.__new__"&& !cd.hasDel&&tailIn K excTail bm&&nsOkIn K cd.ns&&nsIn K cd.ns "__init__" == some (some (.ref fi))
    | _,_=>false)
  | _=>false
noncomputable def IniAt (h:Heap) (C fi:Addr):Prop:=∃ bm N nm q bs hdct sn sub ab col dd k0 k1 k2 k3 k5 mN,h.get? C=some (excClassObj nm q C N bs bm hdct sn sub ab col dd k0 k1 k2 k3 k5 "ValueError.__new__")∧h.Ns N mN∧mN "__init__"=some (.ref fi)∧OwnTail h excTail bm
theorem ns_some_of {K:Frag} {h:Heap} {N:Addr} {mg:Str→Option Value} {n:Str} {v:Value} (X:K.In h) (G:h.Ns N mg) (e:nsIn K N n=some (some v)):mg n=some v:=by
  obtain ⟨o,es,ep,ho,hd,_,hf⟩:=G
  unfold nsIn at e
  split at e
  · rename_i c d es' n' sl q
    have:=X _ _ q
    rw [ho] at this
    cases this
    cases hd
    split at e
    · rename_i en he
      cases e
      rw [← hf]
      unfold nsFind findBy
      rw [← Array.find?_toList,he]
      rfl
    · split at e
      · cases e
      · cases e
  · cases e
theorem ini_of {K:Frag} {h:Heap} {C fi:Addr} (X:K.In h) (q:iniIn K C fi=true):IniAt h C fi:=by
  unfold iniIn at q
  split at q
  · rename_i dd cd sl ho
    split at q
    · rename_i C' bm k0 k1 k2 k3 n k5 hm' hs
      simp only [Bool.and_eq_true,beq_iff_eq,Bool.not_eq_true'] at q
      obtain ⟨⟨⟨⟨⟨rfl,rfl⟩,hdel⟩,ht⟩,hok⟩,hni⟩:=q
      obtain ⟨nm,bs,mro,ns,qn,hd,sn,sub,ab,col,del⟩:=cd
      dsimp only at hm' hdel hok hni
      subst hm' hdel
      obtain ⟨l⟩:=sl
      have hsl:l=[k0,k1,k2,k3,some (.builtin "ValueError.__new__"),k5]:=hs
      subst hsl
      exact ⟨bm,ns,nm,qn,bs,hd,sn,sub,ab,col,dd,k0,k1,k2,k3,k5,_,X _ _ ho, .of_isNs (isNs_of_in X hok),ns_some_of X (.of_isNs (isNs_of_in X hok)) hni,tail_of_in X ht⟩
    · cases q
  · cases q
section
variable {prog:Program} {w:World} {A:Around} {E:Value→Shared→Prop} {s:Shared} {K:Frag} {a C fi t0:Addr} {od:Option Addr} {u:Value}
theorem exc_initB {Q:Value→Shared→Prop} (i:IniAt s.heap C fi) (he:s.heap.get? a=some ⟨.ref C,od, .fields #[.ref t0, .none, .none, .none, .bool false, .none], #[]⟩)
    (h:∀ h',h'.get? a=some ⟨.ref C,od, .fields #[.ref s.heap.objs.size, .none, .none, .none, .bool false, .none], #[]⟩→(∀ b ob,b≠a→s.heap.get? b=some ob→h'.get? b=some ob)→Q .none { s with heap:=h' }):
    wpAny (model prog w) A (call (.builtin "ValueError.__init__") [.ref a,u]) Q E s:=by
  obtain ⟨bm,N,nm,q,bs,hdct,sn,sub,ab,col,dd,k0,k1,k2,k3,k5,mN,hC,hN,hi,T⟩:=i
  obtain ⟨hh,g,d,t,os⟩:=s
  have F:=PySem.F.excBase_ValueError
  refine wpAny_call (codeAny_call_builtin F.init.plain F.initEntry (wpAny_check_init_subT F T hC he rfl ?_))
  wp_walk
  have he1:=Heap.get?_push_of_some { cls:= .type "tuple",data:= .seq #[u] } he
  refine h _ (Heap.get?_update_self _ he1 rfl) fun b ob hb e=> ?_
  rw [Heap.get?_update_other _ _ (Ne.symm hb)]
  exact Heap.get?_push_of_some _ e
theorem exc_make {R:Result→Shared→Prop} {rest:List Value} (X:K.In s.heap) (i:IniAt s.heap C fi) (hf:typeIn K (.ref fi)=some (.type "function")) (hrest:rest.length≤1000)
    (h:codeAny (model prog w) (A.under (.builtin "type.__call__" ⟨.ref C::rest,[]⟩)) (.call (.ref fi) ⟨.ref (s.heap.objs.size+1)::rest,[]⟩) (InitBack (s.heap.objs.size+1) R)
      { s with heap:=(s.heap.push { cls:= .type "tuple",data:= .seq rest.toArray }).push { cls:= .ref C,data:= .fields #[.ref s.heap.objs.size, .none, .none, .none, .bool false, .none] } }):
    codeAny (model prog w) A (.call (.ref C) ⟨rest,[]⟩) R s:=by
  obtain ⟨bm,N,nm,q,bs,hdct,sn,sub,ab,col,dd,k0,k1,k2,k3,k5,mN,hC,hN,hi,T⟩:=i
  obtain ⟨hh,g,d,t,os⟩:=s
  have F:=PySem.F.excBase_ValueError
  have f1:=tc_lookup
  have f2:=tc_bind (.ref C)
  have hT:(⟨hh,g,d,t,os⟩:Shared).TypeIs (.ref C) "type":=⟨_,hC,rfl⟩
  refine codeAny_of_tree ?_
  show wpAny _ _ (callAny (.ref C) _) _ _ _
  repeat (any_goals (first | assumption | with_reducible refine wpAny_loadPart_at hC ?_ | wp_step))
  refine ⟨rfl,?_⟩
  refine codeAny_call_builtin_at (Code.quiet_builtin _ (by decide +kernel)) entry_typeCall (wpAny_check_type_call_sub hC ?_)
  show wpAny _ _ (Builtin.«type.__call__» ⟨.ref C::rest,[]⟩) _ _ _
  repeat (first | with_reducible refine wpAny_loadPart_at hC ?_ | with_reducible refine wpAny_madeBy_exc hC ?_ | wp_step)
  refine codeAny_call_builtin_code (Code.quiet_builtin _ F.quiet) (wpAny_check_new_subT F T hC ?_)
  refine codeAny_exc_new_subT F T hC ?_ (Nat.le_trans hrest (by decide))
  show wpAny _ _ _ _ _ _
  have kp:∀ b o,hh.get? b=some o→((hh.push { cls:= .type "tuple",data:= .seq rest.toArray }).push { cls:= .ref C,data:= .fields #[.ref hh.objs.size, .none, .none, .none, .bool false, .none] }).get? b=some o:=fun b o e=>Heap.get?_push_of_some _ (Heap.get?_push_of_some _ e)
  have hC₁:=kp _ _ hC
  have hn₁:=hN.keeps kp
  have hget:((hh.push { cls:= .type "tuple",data:= .seq rest.toArray }).push { cls:= .ref C,data:= .fields #[.ref hh.objs.size, .none, .none, .none, .bool false, .none] }).get? (hh.objs.size+1)=some { cls:= .ref C,data:= .fields #[.ref hh.objs.size, .none, .none, .none, .bool false, .none] }:=by heap_get
  have hcC:(Value.ref C::bm).contains (.ref C)=true:=by simp
  have T₁:=T.keeps kp
  unfold isInstance
  repeat (first | with_reducible refine wpAny_loadPart_at hget ?_ | (with_reducible refine wpAny_isSubtype_exc hC₁ ?_;rw [hcC]) | wp_step)
  show wpAny _ _ (typeLookup (.ref C) _) _ _ _
  refine wpAny_typeLookup_tail hC₁ hn₁ T₁ F.mroIs F.init.lookup ?_
  rw [hi]
  have b1:=bind_fn (M:=model prog w) (Frag.In.keeps X kp) (.ref (hh.objs.size+1)) hf
  repeat (first | with_reducible refine wpAny_call ?_ | lk)
  refine codeAny_mono h fun r s' z=> ?_
  rcases r with e | (v | _ | _ | _) <;> first | exact z | exact z.elim | skip
  obtain ⟨rfl,z⟩:=z
  exact wpAny_pure (wpAny_pure z)
end
end HT
namespace L2
open PySem PySem.Spec PyProof.Rows PySem.W
noncomputable def tFmt (te:TE):TE:=fun σ H Q=>te σ H fun v H1=>(∃ i:Int,v= .int i∧i.natAbs.log2<1920∧Q (.str (Str.ofString (toString i))) H1)∨∃ x:Str,v= .str x∧x.length≤100000∧Q (.str x) H1
theorem pe_fmt {X:Cx} {e:Expr} {te:TE} {pos:Pos} (he:PE X e te):PE X (.FormattedValue e (-1) none pos) (tFmt te):=by
  intro pins s σ H Q I h
  refine FormattedValue_plain (thn (he pins s σ H _ I h) fun u s1 ⟨v,H1,I1,rv,q⟩=> ?_)
  rcases q with ⟨i,rfl,hi,q⟩ | ⟨x,rfl,hx,q⟩
  · obtain ⟨t,rfl⟩:=rv
    exact formatField_int_small hi ⟨.str _,H1,I1.tok _,⟨_,rfl⟩,q⟩
  · obtain ⟨t,rfl⟩:=rv
    exact formatField_str (fun t' tk=>⟨.str _,H1,I1.tok _,⟨_,rfl⟩,q⟩) (Nat.le_trans hx (by decide))
noncomputable def PEs (X:Cx):List Expr→List TE→Prop
  | [],[]=>True
  | e::es,t::ts=>PE X e t∧PEs X es ts
  | _,_=>False
theorem pes_nil {X:Cx}:PEs X [] []:=trivial
theorem pes_cons {X:Cx} {e:Expr} {es:List Expr} {t:TE} {ts:List TE} (h:PE X e t) (hs:PEs X es ts):PEs X (e::es) (t::ts):=⟨h,hs⟩
noncomputable def tJoin:List TE→Str→St→Hp→VK→Prop
  | [],out,_,H,Q=>Q (.str out) H
  | t::ts,out,σ,H,Q=>t σ H fun v H1=>∃ y,v= .str y∧(out++y).length≤100000∧tJoin ts (out++y) σ H1 Q
theorem join_run {X:Cx}:∀ (es:List Expr) (ts:List TE) (out:Str) (pins:List (Addr × Obj)) (s:Shared) (σ:St) (H:Hp) (Q:VK),PEs X es ts→out.length≤100000→Inv X pins σ H s→tJoin ts out σ H Q→
    wpAny (model X.prog X.w) X.A (joinParts out (evalEach es X.env)) (EP X pins σ Q) X.xe s
  | [],[],out,pins,s,σ,H,Q,_,hl,I,h=>joinParts_nil ⟨.str _,H,I.tok _,⟨_,rfl⟩,h⟩ (Nat.le_trans hl (by decide))
  | e::es,t::ts,out,pins,s,σ,H,Q,⟨he,hes⟩,hl,I,h=>by
    refine joinParts_cons (thn (he pins s σ H _ I h) fun u s1 ⟨v,H1,I1,rv,y,ev,hz,q⟩=> ?_)
    subst ev
    obtain ⟨tk,rfl⟩:=rv
    exact ⟨Nat.le_trans hz (by decide),join_run es ts (out++y) pins s1 σ H1 Q hes hz I1 q⟩
theorem pe_joined {X:Cx} {v₁ v₂:Expr} {rest:List Expr} {ts:List TE} {pos:Pos} (h:PEs X (v₁::v₂::rest) ts):PE X (.JoinedStr (v₁::v₂::rest) pos) (tJoin ts Str.empty):=by
  intro pins s σ H Q I hq
  exact JoinedStr_many (join_run _ ts Str.empty pins s σ H Q h (by decide) I hq)
theorem upd_self {H:Hp} {a:Addr} {o:HO} (h:H a=some o):upd H a o=H:=by
  funext b
  by_cases z:b=a
  · rw [z,upd_same,h]
  · rw [upd_ne z]
structure XBase (K:PySem.W.Frag) (CL:Addr):Prop where
  sp:specialIn K (.ref CL) "__getattribute__"=some (some (.builtin "type.__getattribute__"))
  rd:readsIn K CL (.type "type")=true
  fc:findCls K (.ref CL) (.type "type") "__init__"=some (.val (.builtin "ValueError.__init__"))
noncomputable def tXInit (K:PySem.W.Frag) (t:TA):TE:=fun σ H Q=>t σ H fun vs H1=>∃ a C od fi z,vs=[.ref a, .str z]∧H1 a=some (xnO a C od)∧HT.iniIn K C fi=true∧Q .non H1
theorem pe_xinit {pl:Sem Bool} {X:Cx} {K:PySem.W.Frag} {x:Str} {CL:Addr} {p apos pos:Pos} {e₁ e₂:Expr} {t:TA} (hm:X.mg x=some (.ref CL)) (b:XBase K CL) (ha:PA X [e₁,e₂] t) (hK:X.K=K:=by rfl) (hg:Gl X x:=by rfl) (hd:(x == ("__debug__":Str))=false:=by decide)
    (he:starEach [e₁,e₂] X.env=(false,eval e₁ X.env)::starEach [e₂] X.env:=by rfl) (hpl:(backTo pos (starEach [e₂] X.env)).any (·.1)=false:=by rfl)
    (ht:eval (.Call (.Attribute (.Name x p) "__init__" apos) [e₁,e₂] [] pos) X.env=(do
      let ov ← eval (.Name x p) X.env
      standAt apos.atName
      let (f,first) ← holding [ov] (getMethod ov "__init__" pl)
      callWith pos f first (backTo pos (starEach [e₁,e₂] X.env)) (backToKw pos (keywordEach [] X.env))):=by rfl):
    PE X (.Call (.Attribute (.Name x p) "__init__" apos) [e₁,e₂] [] pos) (tXInit K t):=by
  subst hK
  intro pins s σ H Q I h
  refine PySem.W.methodCall_KW (pl:=pl) (ld_glob I hg hm ?_ hd) ht
  refine method_cls I.kIn b.sp (cls_value I.kIn b.rd b.fc (by decide +kernel) ?_)
  have I0:Inv X pins σ H { s with toks:=s.toks+1 }:=I.tok _
  refine PyProof.Rows.callWith_builtin1 (thn (ha pos pins _ σ H _ I0 h) fun us s1 ⟨vs,H1,I1,r1,a,C,od,fi,z,ev,ea,hi,q⟩=> ?_) he hpl
  subst ev
  obtain ⟨u1,u2,rfl,r1',r2'⟩:=vals2 r1
  obtain rfl:u1=Value.ref a:=r1'
  obtain ⟨⟨t0,hea⟩,_⟩:=(show ObjOk X.prog X.w H1 s1.heap a (xnO a C od) from I1.hok a _ ea)
  refine HT.exc_initB (HT.ini_of I1.kIn hi) hea fun h' ha' keep=>⟨.non,H1,?_,rfl,q⟩
  have J:=I1.write (x:=a) (e:=a) (o:=xnO a C od) (t':=s1.toks) (by rw [ea];exact True.intro) (.inl rfl) (fun b ob hb e=>keep b ob hb e) ⟨_,ha'⟩ (xn_ok ha')
  rw [upd_self ea] at J
  exact J
section
variable {P:Program} {w:World} {K:PySem.W.Frag} {mg:Str→Option Value} {base:Heap} {N:List Str} {qual:Str} {scope:Scope} {f:Addr} {cd:Value} {A:Around} {outer:List Env} {s₀:Shared} {H₀:Hp} {E:XK}
theorem bar_ok {H:Hp} {h:Heap} {e C:Addr} {od:Option Addr} (hok:HOk P w H h) (ea:H e=some (xnO e C od)):HOk P w (bar e H) h:=fun b u eb=>by
  have hb:b≠e:=fun z=>by
    have:=(if_pos z).symm.trans eb
    cases this
  have eb:H b=some u:=(if_neg hb).symm.trans eb
  have ne:∀ c v,H c=some v→(∀ φ,v≠ .ext φ)→c≠e:=fun c v q n z=>by rw [z,ea] at q;cases q;exact n _ rfl
  exact (hok b u eb).stay (fun c v _ q=>q) (fun c q=>(if_neg (ne c _ q fun φ z=>by cases z)).trans q) fun c xs q=>(if_neg (ne c _ q fun φ z=>by cases z)).trans q
theorem raise_cxI {pins:List (Addr × Obj)} {σ:St} {H:Hp} {s:Shared} {e C t:Addr} {od:Option Addr} (I:Inv (cxOf (CXE P w) P w K mg base N qual scope f cd A outer s₀ H₀ E) pins σ H s)
    (he:s.heap.get? e=some ⟨.ref C,od, .fields #[.ref t, .none, .none, .none, .bool false, .none], #[]⟩) (ea:H e=some (xnO e C od)) (new:s₀.heap.get? e=none) (q:E (.ref C) od (bar e H)):
    (cxOf (CXE P w) P w K mg base N qual scope f cd A outer s₀ H₀ E).xe (.ref e) s:=by
  have hfr:(envOfC qual scope s₀.heap.objs.size f cd).frame=some s₀.heap.objs.size:=rfl
  have hfs:frs (envOfC qual scope s₀.heap.objs.size f cd::outer)=s₀.heap.objs.size::frs outer:=frs_cons hfr
  have hen:(PySem.W.hideAll s.heap (e::frs (envOfC qual scope s₀.heap.objs.size f cd::outer))).get? e=none:=PySem.W.hideAll_none _ List.mem_cons_self
  have key:=wpAny_leaving_firstW (M:=model P w) (A:=A.deeper (envOfC qual scope s₀.heap.objs.size f cd)) (E:=fun _ _=>False) (s:=s) (base:=PySem.W.hideAll s.heap (e::frs (envOfC qual scope s₀.heap.objs.size f cd::outer))) (a0:= .ref t)
    (Q:=fun _ s'=>∃ h2,s'={ s with heap:=h2 }∧Heap.LeftW (PySem.W.hideAll s.heap (e::frs (envOfC qual scope s₀.heap.objs.size f cd::outer))) (envOfC qual scope s₀.heap.objs.size f cd::outer) e (.ref C) (.ref t) s.heap h2)
    I.ok.frames (funs_base I.stack fun b hb=>PySem.W.hideAll_none _ (List.mem_cons_of_mem _ hb)) hfr he (fun b o e=>PySem.W.of_hideAll _ e) hen rfl rfl rfl fun h2 hl=>⟨h2,rfl,hl⟩
  refine wpAny_mono (wpAny_dk (dk_leaving _ _) key) (fun _ s' ⟨⟨h2,es,hl⟩,kd⟩=> ?_) fun _ _ z=>z.1.elim
  subst es
  obtain ⟨k1,⟨_,_,k2⟩,k3,ups⟩:=hl
  have ib:Un (frs outer) [] H₀ H s₀.heap s.heap:=I.base
  have nl:∀ b o,s₀.heap.get? b=some o→b≠s₀.heap.objs.size:=fun b o e=>Nat.ne_of_lt (Heap.lt_size e)
  have nE:∀ b o,s₀.heap.get? b=some o→b≠e:=fun b o q z=>by rw [z,new] at q;cases q
  have inB:∀ b o,s.heap.get? b=some o→b≠e→b∉frs (envOfC qual scope s₀.heap.objs.size f cd::outer)→h2.get? b=some o:=fun b o q h1 h3=>k1 b o (PySem.W.hideAll_get _ q fun z=>by
    rcases List.mem_cons.mp z with z | z
    · exact h1 z
    · exact h3 z)
  have notin:∀ b o,s₀.heap.get? b=some o→b∉frs outer→b∉frs (envOfC qual scope s₀.heap.objs.size f cd::outer):=fun b o e hn z=>by
    rw [hfs] at z
    rcases List.mem_cons.mp z with z | z
    · exact nl b o e z
    · exact hn z
  have isin:∀ b,b∈frs outer→b∈frs (envOfC qual scope s₀.heap.objs.size f cd::outer):=fun b hb=>by rw [hfs];exact List.mem_cons_of_mem _ hb
  have neX:∀ b v,H b=some v→(∀ φ,v≠ .ext φ)→b≠e:=fun b v q n z=>by rw [z,ea] at q;cases q;exact n _ rfl
  have barN:∀ b,bar e H b≠none→b≠e∧H b≠none:=fun b hb=>by
    by_cases z:b=e
    · exact absurd (if_pos z) hb
    · exact ⟨z,fun q=>hb ((if_neg z).trans q)⟩
  have fl:Heap.FlyingW (PySem.W.hideAll s.heap (e::frs (envOfC qual scope s₀.heap.objs.size f cd::outer))) outer e (.ref C) (.ref t) h2:=⟨k1,hen,k2,k3⟩
  refine ⟨e,C,t,od,bar e H,rfl,I.os,I.bare,?_,(bar_ok I.hok ea).on fun b u hb q=>inB b u q (barN b hb).1 (fun z=>(barN b hb).2 (I.stkFree b z)),⟨_,fl,fun b hb hn o q=> ?_⟩,DictIs.on ⟨_,he,rfl⟩ kd (let ⟨o,e,_⟩:=fl.there;⟨o,e⟩),q⟩
  · refine ⟨fun b o q hH hn _=> ?_,fun b o q hH hb _=> ?_,fun b o q hH _=> ?_,fun b o q _=> ?_,fun b xs q=> ?_,fun b o u q=> ?_,fun b ps q=> ?_⟩
    · exact inB b o (ib.keep b o q hH hn (by simp)) (nE b o q) (notin b o q hn)
    · obtain ⟨sl,e1⟩:=ib.slot b o q hH hb (by simp)
      obtain ⟨_,o',e',nf⟩:=funs_mem I.stack (isin b hb)
      rw [e1] at e'
      cases e'
      obtain ⟨sl3,e3⟩:=ups b _ e1 nf
      exact ⟨sl3,e3⟩
    · exact (if_neg (nE b o q)).trans (ib.free b o q hH (by simp))
    · obtain ⟨o1,e1⟩:=ib.there b o q (by simp)
      by_cases hb:b∈frs outer
      · obtain ⟨_,o',e',nf⟩:=funs_mem I.stack (isin b hb)
        obtain ⟨sl3,e3⟩:=ups b _ e' nf
        exact ⟨_,e3⟩
      · exact ⟨o1,inB b o1 e1 (nE b o q) (notin b o q hb)⟩
    · have:=ib.tups b xs q
      exact (if_neg (neX b _ this fun φ z=>by cases z)).trans this
    · have:=ib.frzs b o u q
      exact (if_neg (neX b _ this fun φ z=>by cases z)).trans this
    · obtain ⟨m,this⟩:=ib.tbls b ps q
      exact ⟨m,(if_neg (neX b _ this fun φ z=>by cases z)).trans this⟩
  · have hbe:b≠e:=by
      rcases hb with hb | ⟨o1,e1⟩
      · exact (barN b hb).1
      · exact nE b o1 e1
    have hn2:b∉frs (envOfC qual scope s₀.heap.objs.size f cd::outer):=fun z=>by
      rcases hb with hb | ⟨o1,e1⟩
      · exact (barN b hb).2 (I.stkFree b z)
      · exact notin b o1 e1 hn z
    obtain ⟨o2,e2⟩:∃ o2,s.heap.get? b=some o2:=by
      rcases hb with hb | ⟨o1,e1⟩
      · cases hx:H b with
        | none=>exact absurd hx (barN b hb).2
        | some u=>exact obj_some (I.hok b u hx)
      · exact ib.there b o1 e1 (by simp)
    have e3:=inB b o2 e2 hbe hn2
    have q:h2.get? b=some o:=q
    rw [q] at e3
    cases e3
    exact PySem.W.hideAll_get _ e2 fun z=>by
      rcases List.mem_cons.mp z with z | z
      · exact hbe z
      · exact hn2 z
end
end L2
namespace HT
open PySem PySem.Spec PyProof.Rows PySem.W PySem.Calls PySem.Builtin
theorem raise_made {M:Model} {A:Around} {E:Value→Shared→Prop} {s:Shared} {env:Env} {C fi:Addr} {x:Sem Value} {Q:Flow→Shared→Prop} (hh:A.handled=none)
    (h:wpAny M A x (fun v s₁=>∃ e t od,v= .ref e∧IniAt s₁.heap C fi∧s₁.heap.get? e=some ⟨.ref C,od, .fields #[.ref t, .none, .none, .none, .bool false, .none], #[]⟩∧E (.ref e) s₁) E s):
    wpAny M A (raiseStmt env (some x) none) Q E s:=by
  unfold raiseStmt
  refine wpAny_bind (wpAny_mono h (fun v s₁ h₁=> ?_) fun _ _ x=>x)
  obtain ⟨e,t,od,rfl,⟨bm,N,nm,q,bs,hdct,sn,sub,ab,col,dd,k0,k1,k2,k3,k5,mN,hC,hN,hi,T⟩,he,hE⟩:=h₁
  have hcB:(Value.ref C::bm).contains (.type "BaseException")=true:=by rw [List.contains_cons,T.hasType PySem.F.excBase_ValueError.hasBase,Bool.or_true]
  obtain ⟨hp,g,d,tk,os⟩:=s₁
  repeat (first | with_reducible refine wpAny_loadPart_at he ?_ | with_reducible refine wpAny_loadPart_at hC ?_ | (with_reducible refine wpAny_isSubtype_exc hC ?_;rw [hcB]) | wp_step)
  exact wpAny_raiseNew_none hh hE
end HT
namespace L2
open PySem PySem.Spec PyProof.Rows PySem.W
structure MkI (K:PySem.W.Frag) (C fi:Addr):Prop where
  ini:HT.iniIn K C fi=true
  fn:isFn K (.ref fi)=true
  kp:keepIn K (.ref C)=true
noncomputable def tRaiseI (E:XK) (C:Addr) (sp:Sp) (t:TA):TS:=fun _ σ H=>t σ H fun vs H1=>vs.length≤900∧∀ a,H1 a=none→sp (.ref a::vs) (upd H1 a (xnO a C none)) (fun v H2=>v= .non∧∃ od,H2 a=some (xnO a C od)∧E (.ref C) od (bar a H2)) E0
theorem ps_raiseI {P:Program} {w:World} {K:PySem.W.Frag} {mg:Str→Option Value} {base:Heap} {N:List Str} {qual:Str} {scope:Scope} {f:Addr} {cd:Value} {A:Around} {outer:List Env} {s₀:Shared} {H₀:Hp} {E:XK} {k:Nat} {x:Str} {C fi:Addr} {fd:FuncData} {ps:List Str} {sp:Sp} {e₀:Expr} {rest:List Expr} {np cpos pos:Pos} {t:TA}
    (hm:mg x=some (.ref C)) (M:MkI K C fi) (F:FnOk P w K mg base CX0 k fi fd ps sp) (hb:Binds K fd ps []) (hr:Room (k+1) (A.deeper (envOfC qual scope s₀.heap.objs.size f cd)))
    (ha:PA (cxOf (CXE P w) P w K mg base N qual scope f cd A outer s₀ H₀ E) (e₀::rest) t)
    (he:starEach (e₀::rest) (envOfC qual scope s₀.heap.objs.size f cd)=(false,eval e₀ (envOfC qual scope s₀.heap.objs.size f cd))::starEach rest (envOfC qual scope s₀.heap.objs.size f cd):=by rfl)
    (hpl:(backTo cpos (starEach rest (envOfC qual scope s₀.heap.objs.size f cd))).any (·.1)=false:=by rfl)
    (hg:Gl (cxOf (CXE P w) P w K mg base N qual scope f cd A outer s₀ H₀ E) x:=by rfl) (hd:(x == ("__debug__":Str))=false:=by decide):
    PS (cxOf (CXE P w) P w K mg base N qual scope f cd A outer s₀ H₀ E) (.Raise (some (.Call (.Name x np) (e₀::rest) [] cpos)) none pos) (tRaiseI E C sp t):=by
  intro pins s σ H D I h
  rw [arm_exec_Raise]
  refine wpAny_bind (wpAny_standAt ?_)
  show wpAny _ _ (raiseStmt _ (some (do let v ← eval (.Call (.Name x np) (e₀::rest) [] cpos) (envOfC qual scope s₀.heap.objs.size f cd);standAt pos;pure v)) none) _ _ _
  refine HT.raise_made (C:=C) (fi:=fi) (I.ok.hd rfl) (wpAny_bind (wpAny_mono (Q:=fun v s₁=>∃ e t od,v= .ref e∧HT.IniAt s₁.heap C fi∧s₁.heap.get? e=some ⟨.ref C,od, .fields #[.ref t, .none, .none, .none, .bool false, .none], #[]⟩∧(cxOf (CXE P w) P w K mg base N qual scope f cd A outer s₀ H₀ E).xe (.ref e) s₁) ?_ (fun v s₃ h₃=>wpAny_bind (wpAny_standAt (wpAny_pure h₃))) fun _ _ x=>x))
  refine wpAny_Call_Name_kw (ld_glob I hg hm ?_ hd)
  refine PySem.W.callWith_K (h₀:=base) I.ok.mod.kin M.kp (thn (ha cpos pins s σ H _ I h) fun us s1 ⟨vs,H1,I1,r,hl,q⟩=>⟨I1.kIn,?_⟩) he hpl
  have hq:=q (s1.heap.objs.size+1) (I1.hok.fresh (Nat.le_succ _))
  have hl':us.length≤1000:=by rw [← r.length];omega
  have kp:∀ b o,s1.heap.get? b=some o→((s1.heap.push { cls:= .type "tuple",data:= .seq us.toArray }).push { cls:= .ref C,data:= .fields #[.ref s1.heap.objs.size, .none, .none, .none, .bool false, .none] }).get? b=some o:=fun b o e=>Heap.get?_push_of_some _ (Heap.get?_push_of_some _ e)
  have hget:((s1.heap.push { cls:= .type "tuple",data:= .seq us.toArray }).push { cls:= .ref C,data:= .fields #[.ref s1.heap.objs.size, .none, .none, .none, .bool false, .none] }).get? (s1.heap.objs.size+1)=some { cls:= .ref C,data:= .fields #[.ref s1.heap.objs.size, .none, .none, .none, .bool false, .none] }:=by heap_get
  have I2:=I1.laid (a:=s1.heap.objs.size+1) (o:=xnO (s1.heap.objs.size+1) C none) (t':=s1.toks) kp (Nat.le_succ _) (xn_ok hget)
  have r2:Vals (V.ref (s1.heap.objs.size+1)::vs) (Value.ref (s1.heap.objs.size+1)::us):= .cons rfl r
  have hlen:(Value.ref (s1.heap.objs.size+1)::us).length=ps.length:=by
    have e:=r2.length
    rw [F.len _ _ _ _ hq] at e
    exact e.symm
  refine wpAny_call (HT.exc_make I1.kIn (HT.ini_of I1.kIn M.ini) (beq_iff_eq.mp M.fn) hl' (codeAny_mono (F.run _ _ _ _ ⟨Value.ref (s1.heap.objs.size+1)::us,[]⟩ (Value.ref (s1.heap.objs.size+1)::us) _ _ E0 (hr.make C us [])
    (I2.env0.make C us []) (by have:=hb _ (Value.ref (s1.heap.objs.size+1)::us) I2.kIn (by simpa using hlen);simpa using this) r2 hq) fun r s' hq'=> ?_))
  cases r with
  | error e=>exact False.elim hq'
  | ok fl=>
    cases fl with
    | ret u=>
      obtain ⟨v,H',I3,rv,ev,od,e3,q3⟩:=I2.after hq'
      subst ev
      obtain ⟨⟨t0,he3⟩,_⟩:=(show ObjOk P w H' s'.heap (s1.heap.objs.size+1) (xnO (s1.heap.objs.size+1) C od) from I3.hok _ _ e3)
      refine ⟨rv,⟨s1.heap.objs.size+1,t0,od,rfl,HT.ini_of I3.kIn M.ini,he3,raise_cxI I3 he3 e3 ?_ q3⟩⟩
      exact Heap.get?_none_of_le (Nat.le_trans I1.sz (Nat.le_succ _))
    | next=>exact False.elim hq'
    | brk=>exact False.elim hq'
    | cont=>exact False.elim hq'
end L2
namespace L2
open PySem PySem.Spec PyProof.Rows PySem.W
noncomputable def RaiseI (P:Program) (w:World) (K:PySem.W.Frag) (mg:Str→Option Value) (base:Heap) (x:Str) (C:Addr) (k:Nat) (ps:List Str) (sp:Sp):Prop:=
  ∃ fi fd,mg x=some (.ref C)∧MkI K C fi∧FnOk P w K mg base CX0 k fi fd ps sp∧Binds K fd ps []
theorem ps_raiseJ {P:Program} {w:World} {K:PySem.W.Frag} {mg:Str→Option Value} {base:Heap} {N:List Str} {qual:Str} {scope:Scope} {f:Addr} {cd:Value} {A:Around} {outer:List Env} {s₀:Shared} {H₀:Hp} {E:XK} {k:Nat} {x:Str} {C:Addr} {ps:List Str} {sp:Sp} {e₀:Expr} {rest:List Expr} {np cpos pos:Pos} {t:TA}
    (h:RaiseI P w K mg base x C k ps sp) (hr:Room (k+1) (A.deeper (envOfC qual scope s₀.heap.objs.size f cd))) (ha:PA (cxOf (CXE P w) P w K mg base N qual scope f cd A outer s₀ H₀ E) (e₀::rest) t)
    (he:starEach (e₀::rest) (envOfC qual scope s₀.heap.objs.size f cd)=(false,eval e₀ (envOfC qual scope s₀.heap.objs.size f cd))::starEach rest (envOfC qual scope s₀.heap.objs.size f cd):=by rfl)
    (hpl:(backTo cpos (starEach rest (envOfC qual scope s₀.heap.objs.size f cd))).any (·.1)=false:=by rfl)
    (hg:Gl (cxOf (CXE P w) P w K mg base N qual scope f cd A outer s₀ H₀ E) x:=by rfl) (hd:(x == ("__debug__":Str))=false:=by decide):
    PS (cxOf (CXE P w) P w K mg base N qual scope f cd A outer s₀ H₀ E) (.Raise (some (.Call (.Name x np) (e₀::rest) [] cpos)) none pos) (tRaiseI E C sp t):=by
  obtain ⟨fi,fd,hm,M,F,hb⟩:=h
  exact ps_raiseI hm M F hb hr ha he hpl hg hd
section
variable {K:PySem.W.Frag} {σ:St} {H:Hp} {Q:VK} {D:Ends} {f:Str} {to tv te:TE} {t:TA} {E:XK} {C:Addr} {sp:Sp} {ts:List TE} {out:Str}
theorem taker_none (h:findIn K (.ref C) f=some none):takerIn K C f=some none:=by unfold takerIn;rw [h];rfl
theorem rd_xinit (h:t σ H fun vs H1=>∃ a C od fi z,vs=[.ref a, .str z]∧H1 a=some (xnO a C od)∧HT.iniIn K C fi=true∧Q .non H1):tXInit K t σ H Q:=h
theorem rd_xset (h:tv σ H fun y H1=>to σ H1 fun x H2=>∃ a C od,x= .ref a∧H2 a=some (xnO a C od)∧XSet K C∧takerIn K C f=some none∧
  ((od=none∧∀ dx,H2 dx=none→D.nx σ (upd (upd H2 dx (xdO dx [(f,y)])) a (xnO a C (some dx))))∨∃ dx fs,od=some dx∧H2 dx=some (xdO dx fs)∧fs.length<1000∧D.nx σ (upd H2 dx (xdO dx (putF f y fs))))):sXFld K f to tv D σ H:=h
theorem rd_xfld (h:to σ H fun v H1=>∃ a C dx fs y,v= .ref a∧H1 a=some (excO a C (some dx))∧H1 dx=some (xdO dx fs)∧fs.lookup f=some y∧XKind K C∧findIn K (.ref C) f=some none∧Q y H1):tXFld K f to σ H Q:=h
theorem rd_fmt (h:te σ H fun v H1=>(∃ i:Int,v= .int i∧i.natAbs.log2<1920∧Q (.str (Str.ofString (toString i))) H1)∨∃ x:Str,v= .str x∧x.length≤100000∧Q (.str x) H1):tFmt te σ H Q:=h
theorem rd_join (h:te σ H fun v H1=>∃ y,v= .str y∧(out++y).length≤100000∧tJoin ts (out++y) σ H1 Q):tJoin (te::ts) out σ H Q:=h
theorem rd_joined (h:Q (.str out) H):tJoin [] out σ H Q:=h
theorem rd_raiseI (h:t σ H fun vs H1=>vs.length≤900∧∀ a,H1 a=none→sp (.ref a::vs) (upd H1 a (xnO a C none)) (fun v H2=>v= .non∧∃ od,H2 a=some (xnO a C od)∧E (.ref C) od (bar a H2)) E0):tRaiseI E C sp t D σ H:=h
end
end L2
namespace L2
open PySem PySem.Spec PyProof.Rows
section
variable {X:Cx} {elts:List Expr} {k:Nat} {tpos:Pos}
end
section
variable {K:PySem.W.Frag} {H:Hp} {i1 i2 off:Nat} {z:Str}
end
end L2
namespace L2
open PySem PySem.Spec PyProof.Rows
section
variable {X:Cx} {K:PySem.W.Frag}
end
theorem rd_gsub {to ti:TE} {t:TSet} {v:V} {σ:St} {H:Hp} {Q:St→Hp→Prop} (h:to σ H fun o H1=>ti σ H1 fun i H2=>t o i v H2 fun H3=>Q σ H3):gSub to ti t v σ H Q:=h
theorem ix_nat {n i:Nat} (h:i<n):ixN n ((i:Nat):Int)=some i:=by
  unfold ixN
  rw [if_pos (by omega),if_pos (by omega)]
  simp
end L2
namespace L2
open PySem PySem.Spec PyProof.Rows
noncomputable def FlyF (base:Heap) (l:List Env) (e:Addr) (cls a0:Value) (h:Heap):Prop:=base.StaysIn h∧base.get? e=none∧h.FunFrames base l∧∃ fl,h.TracedAtW base e cls a0 fl
section
variable {M:Model} {A:Around} {E:Value→Shared→Prop} {s:Shared} {base:Heap} {e:Addr} {cls a0:Value} {Q:Unit→Shared→Prop}
theorem leaves_any {env:Env} {outer:List Env} {L:Addr} (hfr:A.frames=some (env::outer)) (hf:env.frame=some L) (x:FlyF base (env::outer) e cls a0 s.heap)
    (k:∀ h',Heap.FlyingW base outer e cls a0 h'→s.heap.UpToSlots h'→Q () { s with heap:=h' }):wpAny M A (leaving env (.ref e)) Q E s:=by
  obtain ⟨st,ne,fr,fl,tr⟩:=x
  by_cases hl:fl=rawInt L
  · subst hl
    unfold leaving
    refine wpAny_bind (wpAny_noteFrame_againW hf tr ?_)
    exact wpAny_setFlight_noneW st fr tr fun h' a b c d=>k h' ⟨a,ne,b.2.2,c⟩ fun q o r n=>⟨o.slots,d q o r n⟩
  · obtain ⟨ob,fs,T,ot,us,g1,⟨rfl,g2⟩,g3,g4,g5,g6,g7,g8,g9⟩:=tr
    have oth:∀ b,b≠T→(s.heap.update T (Obj.mapFields (·.setIfInBounds 3 .none))).get? b=s.heap.get? b:=fun b z=>Heap.get?_update_other _ _ (Ne.symm z)
    have nr:∀ b o,s.heap.get? b=some o→(∀ vs,o.data≠ .fields vs)→b≠T:=fun b o q n z=>by
      rw [z,g7] at q
      cases q
      exact n us g8
    unfold leaving noteFrame
    simp only [hf]
    refine wpAny_bind (wpAny_bind (wpAny_field g1 g3 g4 ?_))
    rw [if_pos (by simp)]
    refine wpAny_bind (wpAny_field g7 g8 g9 ?_)
    rw [if_neg (by simpa using hl)]
    refine wpAny_bind (wpAny_setField g7 g8 (Array.getElem?_eq_some_iff.mp g9).1 ?_)
    refine wpAny_newEntryW hfr (fr.of_keeps fun b o q n=>⟨o,(oth b (nr b o q n)).trans q,rfl⟩) hf ((oth e (Ne.symm g6)).trans g1) (fun b o q=>(oth b fun z=>by rw [z,g5] at q;cases q).trans (st b o q)) ne g3 (Array.getElem?_eq_some_iff.mp g4).1 g2 fun h' z=> ?_
    obtain ⟨z1,z2,z3,z4⟩:=z
    exact k h' ⟨z1,ne,z2.2.2,z3⟩ fun b o q n=>z4 b o ((oth b (nr b o q n)).trans q) n
theorem leaves_anyD {env:Env} {outer:List Env} {L:Addr} (hfr:A.frames=some (env::outer)) (hf:env.frame=some L) (x:FlyF base (env::outer) e cls a0 s.heap)
    (k:∀ h',Heap.FlyingW base outer e cls a0 h'→s.heap.UpToSlots h'→KD s.heap h'→Q () { s with heap:=h' }):wpAny M A (leaving env (.ref e)) Q E s:=
  wpAny_mono (wpAny_dk (dk_leaving env (.ref e)) (leaves_any (Q:=fun _ s'=>∃ h',s'={ s with heap:=h' }∧Heap.FlyingW base outer e cls a0 h'∧s.heap.UpToSlots h') hfr hf x fun h' a b=>⟨h',rfl,a,b⟩))
    (fun _ _ ⟨⟨h',e,a,b⟩,c⟩=>by subst e;exact k h' a b c) fun _ _ z=>z.1
theorem flight_any {l:List Env} {fr:Option Addr} (x:FlyF base l e cls a0 s.heap)
    (k:∀ h',FlyF base l e cls a0 h'→(∀ b o,s.heap.get? b=some o→(∀ vs,o.data≠ .fields vs)→h'.get? b=some o)→Q () { s with heap:=h' }):wpAny M A (setFlight (.ref e) fr) Q E s:=by
  obtain ⟨st,ne,hl,fl,ob,fs,T,ot,us,g1,g2,g3,g4,g5,g6,g7,g8,g9⟩:=x
  have oth:∀ (v:Value) b,b≠T→(s.heap.update T (Obj.mapFields (·.setIfInBounds 3 v))).get? b=s.heap.get? b:=fun v b z=>Heap.get?_update_other _ _ (Ne.symm z)
  have nr:∀ b o,s.heap.get? b=some o→(∀ vs,o.data≠ .fields vs)→b≠T:=fun b o q n z=>by
    rw [z,g7] at q
    cases q
    exact n us g8
  have h3:=(Array.getElem?_eq_some_iff.mp g9).1
  unfold setFlight
  refine wpAny_bind (wpAny_field g1 g3 g4 ?_)
  rw [if_pos (by simp)]
  refine wpAny_setField g7 g8 h3 (k _ ⟨fun b o q=>(oth _ b fun z=>by rw [z,g5] at q;cases q).trans (st b o q),ne,hl.of_keeps fun b o q n=>⟨o,(oth _ b (nr b o q n)).trans q,rfl⟩,_,ob,fs,T,_,_,(oth _ e (Ne.symm g6)).trans g1,g2,g3,g4,g5,g6,Heap.get?_update_self _ g7 (Obj.isFreed_of_fields (Obj.data_mapFields g8 _)),Obj.data_mapFields g8 _,by simp [h3];rfl⟩ fun b o q n=>(oth _ b (nr b o q n)).trans q)
theorem pass_any {l:List Env} {what:String} {cenv:Env} {R:Value→Shared→Prop} (x:FlyF base l e cls a0 s.heap)
    (k:∀ h',FlyF base l e cls a0 h'→(∀ b o,s.heap.get? b=some o→(∀ vs,o.data≠ .fields vs)→h'.get? b=some o)→KD s.heap h'→E (.ref e) { s with heap:=h' }):wpAny M A (passOn what (.ref e) cenv:Sem Value) R E s:=by
  obtain ⟨st,ne,hl,fl,ob,fs,T,ot,us,g1,g2,g3,g4,g5,g6,g7,g8,g9⟩:=id x
  unfold PySem.passOn
  refine wpAny_bind (wpAny_field g1 g3 g4 ?_)
  rw [if_neg (by simp)]
  refine wpAny_bind (wpAny_mono (wpAny_dk (dk_setFlight (.ref e) cenv.frame) (flight_any (Q:=fun _ s'=>∃ h',s'={ s with heap:=h' }∧FlyF base l e cls a0 h'∧∀ b o,s.heap.get? b=some o→(∀ vs,o.data≠ .fields vs)→h'.get? b=some o) (E:=fun _ _=>False) x fun h' a b=>⟨h',rfl,a,b⟩)) (fun _ s' z=> ?_) fun _ _ z=>z.1.elim)
  obtain ⟨⟨h',e1,a,b⟩,c⟩:=z
  subst e1
  exact wpAny_throw (k h' a b c)
end
noncomputable def CXF (P:Program) (w:World) (ex:List Addr) (stack:List Env) (H:Hp) (s:Shared) (E:XK) (e:Value) (s':Shared):Prop:=
  ∃ a C t od H' B,e= .ref a∧s'.os=s.os∧AllBare s'.gens∧Un (frs stack) ex H H' s.heap s'.heap∧HOk P w H' s'.heap∧FlyF B stack a (.ref C) (.ref t) s'.heap∧
    (∀ b,(H' b≠none∨∃ o,s.heap.get? b=some o)→b∉frs stack→b∉ex→∀ o,s'.heap.get? b=some o→B.get? b=some o)∧DictIs s'.heap a od∧(∀ b∈ex,H' b=none)∧E (.ref C) od H'
theorem passF {P:Program} {w:World} {K:PySem.W.Frag} {mg:Str→Option Value} {base:Heap} {N:List Str} {qual:Str} {scope:Scope} {f:Addr} {cd:Value} {A:Around} {outer:List Env} {s₀:Shared} {H₀:Hp} {E:XK} {ex:List Addr}
    {pins:List (Addr × Obj)} {σ:St} {H:Hp} {s:Shared} {e:Value} {s':Shared} (I:Inv (cxOf (CXE P w) P w K mg base N qual scope f cd A outer s₀ H₀ E) pins σ H s)
    (hx:∀ b∈ex,s₀.heap.objs.size≤b∧b∉frs (envOfC qual scope s₀.heap.objs.size f cd::outer)) (h:CXF P w ex (envOfC qual scope s₀.heap.objs.size f cd::outer) H s E e s'):
    (cxOf (CXE P w) P w K mg base N qual scope f cd A outer s₀ H₀ E).xe e s':=by
  obtain ⟨a,C,t,od,H',B,rfl,os,bare,un,hok,fl,cov,di,exn,q⟩:=h
  have hfr:(envOfC qual scope s₀.heap.objs.size f cd).frame=some s₀.heap.objs.size:=rfl
  have hfs:frs (envOfC qual scope s₀.heap.objs.size f cd::outer)=s₀.heap.objs.size::frs outer:=frs_cons hfr
  refine leaves_anyD I.ok.frames hfr fl fun h' fl' ups kd=> ?_
  have ib:Un (frs outer) [] H₀ H s₀.heap s.heap:=I.base
  have nx:∀ b o,s₀.heap.get? b=some o→b∉ex:=fun b o e z=>absurd (Nat.lt_of_lt_of_le (Heap.lt_size e) (hx b z).1) (Nat.lt_irrefl _)
  have fx:∀ b,b∈frs (envOfC qual scope s₀.heap.objs.size f cd::outer)→b∉ex:=fun b hb z=>(hx b z).2 hb
  have nl:∀ b o,s₀.heap.get? b=some o→b≠s₀.heap.objs.size:=fun b o e=>Nat.ne_of_lt (Heap.lt_size e)
  have toB:∀ b,(H' b≠none∨∃ o,s.heap.get? b=some o)→b∉frs (envOfC qual scope s₀.heap.objs.size f cd::outer)→b∉ex→∀ o,s'.heap.get? b=some o→h'.get? b=some o:=fun b hb hn hz o e=>fl'.1 b o (cov b hb hn hz o e)
  have untr:∀ b,b∈frs (envOfC qual scope s₀.heap.objs.size f cd::outer)→H' b=none:=fun b hb=>by
    obtain ⟨_,o,e,_⟩:=funs_mem I.stack hb
    exact un.free b o e (I.stkFree b hb) (fx b hb)
  have hok':HOk P w H' h':=hok.on fun b u hb e=>toB b (.inl hb) (fun z=>hb (untr b z)) (fun z=>hb (exn b z)) u e
  have notin:∀ b o,s₀.heap.get? b=some o→b∉frs outer→b∉frs (envOfC qual scope s₀.heap.objs.size f cd::outer):=fun b o e hn z=>by
    rw [hfs] at z
    rcases List.mem_cons.mp z with z | z
    · exact nl b o e z
    · exact hn z
  have isin:∀ b,b∈frs outer→b∈frs (envOfC qual scope s₀.heap.objs.size f cd::outer):=fun b hb=>by rw [hfs];exact List.mem_cons_of_mem _ hb
  refine ⟨a,C,t,od,H',rfl,os.trans I.os,bare,?_,hok',⟨B,fl',fun b hb hn o e=> ?_⟩,di.on kd (let ⟨o,e,_⟩:=fl'.there;⟨o,e⟩),q⟩
  · refine ⟨fun b o e hH hn _=> ?_,fun b o e hH hb _=> ?_,fun b o e hH _=> ?_,fun b o e _=> ?_,fun b xs e=>un.tups b xs (ib.tups b xs e),fun b o u e=>un.frzs b o u (ib.frzs b o u e),fun b ps e=> ?_⟩
    · have e1:=ib.keep b o e hH hn (by simp)
      exact toB b (.inr ⟨o,e1⟩) (notin b o e hn) (nx b o e) o (un.keep b o e1 (ib.free b o e hH (by simp)) (notin b o e hn) (nx b o e))
    · obtain ⟨sl,e1⟩:=ib.slot b o e hH hb (by simp)
      obtain ⟨sl2,e2⟩:=un.slot b _ e1 (ib.free b o e hH (by simp)) (isin b hb) (nx b o e)
      obtain ⟨_,o',e',nf⟩:=funs_mem fl.2.2.1 (isin b hb)
      rw [e2] at e'
      cases e'
      obtain ⟨sl3,e3⟩:=ups b _ e2 nf
      exact ⟨sl3,e3⟩
    · obtain ⟨o1,e1⟩:=ib.there b o e (by simp)
      exact un.free b o1 e1 (ib.free b o e hH (by simp)) (nx b o e)
    · obtain ⟨o1,e1⟩:=ib.there b o e (by simp)
      obtain ⟨o2,e2⟩:=un.there b o1 e1 (nx b o e)
      by_cases hb:b∈frs outer
      · obtain ⟨_,o',e',nf⟩:=funs_mem fl.2.2.1 (isin b hb)
        obtain ⟨sl3,e3⟩:=ups b _ e' nf
        exact ⟨_,e3⟩
      · exact ⟨o2,toB b (.inr ⟨o1,e1⟩) (notin b o e hb) (nx b o e) o2 e2⟩
    · obtain ⟨m1,e1⟩:=ib.tbls b ps e
      obtain ⟨m2,e2⟩:=un.tbls b _ e1
      exact ⟨m1++m2,by rw [e2,Array.append_assoc]⟩
  · have hn2:b∉frs (envOfC qual scope s₀.heap.objs.size f cd::outer):=fun z=>by
      rcases hb with hb | ⟨o1,e1⟩
      · exact hb (untr b z)
      · exact notin b o1 e1 hn z
    have hz:b∉ex:=fun z=>by
      rcases hb with hb | ⟨o1,e1⟩
      · exact hb (exn b z)
      · exact nx b o1 e1 z
    obtain ⟨o2,e2,hb2⟩:∃ o2,s'.heap.get? b=some o2∧(H' b≠none∨∃ o,s.heap.get? b=some o):=by
      rcases hb with hb | ⟨o1,e1⟩
      · cases hy:H' b with
        | none=>exact absurd hy hb
        | some u=>
          obtain ⟨o2,e2⟩:=obj_some (hok b u hy)
          exact ⟨o2,e2, .inl (fun z=>by cases z)⟩
      · obtain ⟨o3,e3⟩:=ib.there b o1 e1 (by simp)
        obtain ⟨o2,e2⟩:=un.there b o3 e3 hz
        exact ⟨o2,e2, .inr ⟨o3,e3⟩⟩
    have e3:=cov b hb2 hn2 hz o2 e2
    have e4:=fl'.1 b o2 e3
    rw [show h'.get? b=some o from e] at e4
    cases e4
    exact e3
theorem funs_bar {h h' B B':Heap} {C:Addr} (k:∀ b,b≠C→h'.get? b=h.get? b) (kb:∀ b o,B'.get? b=some o→B.get? b=some o):∀ {l:List Env},C∉frs l→h.FunFrames B l→h'.FunFrames B' l
  | [],_,_=>trivial
  | env::l,hn,⟨x,⟨L,o,e1,e2,e3,e4⟩,r⟩=>by
    rw [frs_cons e1] at hn
    have nL:L≠C:=fun z=>hn (by rw [z];exact List.mem_cons_self)
    refine ⟨x,⟨L,o,e1,?_,(k L nL).trans e3,e4⟩,funs_bar k kb (fun z=>hn (List.mem_cons_of_mem _ z)) r⟩
    cases q:B'.get? L with
    | none=>rfl
    | some z=>rw [kb L z q] at e2;cases e2
noncomputable def PassB (X:Cx) (E:XK):Prop:=∀ (pins:List (Addr × Obj)) (σ:St) (H:Hp) (s:Shared) (C:Addr) (e:Value) (s':Shared),Inv X pins σ H s→FpOk X pins H C→X.s₀.heap.objs.size≤C→(∃ m,s.heap.Ns C m)→CXE X.prog X.w X.stack H s E e s'→
  wpAny (model X.prog X.w) X.A (noteFrame e X.env) (fun _ s2=>∃ m,s2.heap.Ns C m∧∀ h',Heap.SameBut C s2.heap h'→∀ cenv:Env,cenv.locals=C→wpAny (model X.prog X.w) X.A (passOn "comprehension.variables-let-go" e cenv:Sem Value) (fun _ _=>False) X.xe { s2 with heap:=h' }) (fun _ _=>False) s'
theorem passB {P:Program} {w:World} {K:PySem.W.Frag} {mg:Str→Option Value} {base:Heap} {N:List Str} {qual:Str} {scope:Scope} {f:Addr} {cd:Value} {A:Around} {outer:List Env} {s₀:Shared} {H₀:Hp} {E:XK}:
    PassB (cxOf (CXE P w) P w K mg base N qual scope f cd A outer s₀ H₀ E) E:=by
  intro pins σ H s C e s' I fp hC ⟨m,hn⟩ h
  obtain ⟨a,Cl,t,od,H',rfl,os,bare,un,hok,⟨B,fl,cov⟩,di,q⟩:=h
  obtain ⟨oC,es,ep,eC,dC,rC⟩:=id hn
  have hfr:(envOfC qual scope s₀.heap.objs.size f cd).frame=some s₀.heap.objs.size:=rfl
  have hfs:frs (envOfC qual scope s₀.heap.objs.size f cd::outer)=s₀.heap.objs.size::frs outer:=frs_cons hfr
  have nC:C∉frs (envOfC qual scope s₀.heap.objs.size f cd::outer):=fun z=>by
    rw [hfs] at z
    rcases List.mem_cons.mp z with z | z
    · exact fp.2.1 z
    · exact fp.2.2.1 z
  have HC:H' C=none:=un.free C oC eC fp.1 (by simp)
  have eC1:=un.keep C oC eC fp.1 nC (by simp)
  have eCB:=cov C (.inr ⟨oC,eC⟩) nC oC eC1
  refine looks_onD (env:=envOfC qual scope s₀.heap.objs.size f cd) (outer:=outer) I.ok.frames hfr fl fun h1 held ups kd=> ?_
  have eC2:=held.1 C oC eCB
  refine ⟨m,⟨oC,es,ep,eC2,dC,rC⟩,fun h2 sb cenv _=> ?_⟩
  have sb2:∀ b,b≠C→h2.get? b=h1.get? b:=sb.2
  generalize hB2:hidT B (fun b=>if b=C then some (.lst []) else none)=B2
  have inB:∀ b o,B2.get? b=some o→B.get? b=some o∧b≠C:=fun b o z=>by
    rw [← hB2] at z
    obtain ⟨z1,z2⟩:=of_hidT z
    exact ⟨z1,fun y=>by rw [if_pos y] at z2;cases z2⟩
  have toB2:∀ b o,B.get? b=some o→b≠C→B2.get? b=some o:=fun b o z y=>by
    rw [← hB2]
    exact hidT_get z (if_neg y)
  have noB:∀ b,B.get? b=none→B2.get? b=none:=fun b z=>by
    cases q:B2.get? b with
    | none=>rfl
    | some o=>rw [(inB b o q).1] at z;cases z
  obtain ⟨k1,k2,k3,ob,fs,T,ot,us,g1,g2,g3,g4,g5,g6,g7,g8,g9⟩:=id held
  have aC:a≠C:=fun z=>by
    rw [z,eC2] at g1
    cases g1
    rw [dC] at g3
    cases g3
  have TC:T≠C:=fun z=>by
    rw [z,eC2] at g7
    cases g7
    rw [dC] at g8
    cases g8
  have fly2:FlyF B2 (envOfC qual scope s₀.heap.objs.size f cd::outer) a (.ref Cl) (.ref t) h2:=by
    refine ⟨fun b o z=> ?_,noB a k2,funs_bar sb2 (fun b o z=>(inB b o z).1) nC k3,_,ob,fs,T,ot,us,(sb2 a aC).trans g1,g2,g3,g4,noB T g5,g6,(sb2 T TC).trans g7,g8,g9⟩
    obtain ⟨z1,z2⟩:=inB b o z
    exact (sb2 b z2).trans (k1 b o z1)
  refine pass_any (s:={ s' with heap:=h2 }) fly2 fun h3 fly3 keep3 kd3=> ?_
  have untr:∀ b,b∈frs (envOfC qual scope s₀.heap.objs.size f cd::outer)→H' b=none:=fun b hb=>by
    obtain ⟨_,o,e,_⟩:=funs_mem I.stack hb
    exact un.free b o e (I.stkFree b hb) (by simp)
  have to3:∀ b,(H' b≠none∨∃ o,s.heap.get? b=some o)→b∉frs (envOfC qual scope s₀.heap.objs.size f cd::outer)→b≠C→∀ o,s'.heap.get? b=some o→B2.get? b=some o:=fun b hb hn hz o e=>toB2 b o (cov b hb hn o e) hz
  have fr3:∀ b,b∈frs (envOfC qual scope s₀.heap.objs.size f cd::outer)→∀ o,s'.heap.get? b=some o→∃ sl,h3.get? b=some { o with slots:=sl }:=fun b hb o e=>by
    obtain ⟨_,o',e',nf⟩:=funs_mem fl.2.2.1 hb
    rw [e] at e'
    cases e'
    obtain ⟨sl,e2⟩:=ups b _ e nf
    have nb:b≠C:=fun z=>nC (by rw [← z];exact hb)
    exact ⟨sl,keep3 b _ ((sb2 b nb).trans e2) nf⟩
  have sC:∀ b,b∉[C]→b≠C:=fun b z y=>z (by rw [y];simp)
  refine passF I (ex:=[C]) (fun b hb=> ?_) ⟨a,Cl,t,od,H',B2,rfl,os,bare,?_,hok.on fun b u hb e=>fly3.1 b u (to3 b (.inl hb) (fun z=>hb (untr b z)) (fun z=>hb (by rw [z];exact HC)) u e),fly3,fun b hb hn hz o e=> ?_,?_,fun b hb=> ?_,q⟩
  · rw [List.mem_singleton.mp hb]
    exact ⟨hC,nC⟩
  · refine ⟨fun b o e hH hn hz=>fly3.1 b o (to3 b (.inr ⟨o,e⟩) hn (sC b hz) o (un.keep b o e hH hn (by simp))),fun b o e hH hb hz=> ?_,fun b o e hH hz=>un.free b o e hH (by simp),fun b o e hz=> ?_,un.tups,un.frzs,un.tbls⟩
    · obtain ⟨sl,e1⟩:=un.slot b o e hH hb (by simp)
      obtain ⟨sl2,e2⟩:=fr3 b hb _ e1
      exact ⟨sl2,e2⟩
    · obtain ⟨o2,e2⟩:=un.there b o e (by simp)
      by_cases hb:b∈frs (envOfC qual scope s₀.heap.objs.size f cd::outer)
      · obtain ⟨sl2,e3⟩:=fr3 b hb _ e2
        exact ⟨_,e3⟩
      · exact ⟨o2,fly3.1 b o2 (to3 b (.inr ⟨o,e⟩) hb (sC b hz) o2 e2)⟩
  · obtain ⟨o2,e2⟩:∃ o2,s'.heap.get? b=some o2:=by
      rcases hb with hb | ⟨o1,e1⟩
      · cases hy:H' b with
        | none=>exact absurd hy hb
        | some u=>exact obj_some (hok b u hy)
      · exact un.there b o1 e1 (by simp)
    have e3:=to3 b hb hn (sC b hz) o2 e2
    have e4:=fly3.1 b o2 e3
    rw [show h3.get? b=some o from e] at e4
    cases e4
    exact e3
  · have d1:=di.on kd ⟨_,g1⟩
    have d2:DictIs h2 a od:=by
      obtain ⟨o,e,d⟩:=d1
      exact ⟨o,(sb2 a aC).trans e,d⟩
    obtain ⟨_,_,_,_,ob3,_,_,_,_,e3,_⟩:=id fly3
    exact d2.on kd3 ⟨_,e3⟩
  · rw [List.mem_singleton.mp hb]
    exact HC
theorem Cx.Ok.withX {X:Cx} (g:Value→Shared→Prop) (h:X.Ok):Cx.Ok { X with xe:=g }:=⟨h.mod,h.kind,h.glob,h.blt,h.above,h.inj,h.has,h.cab,h.hd,h.frames,h.stk,h.exf,h.bs,h.bsz,h.noex,h.exfs,h.funs,h.frf⟩
theorem Inv.withX {X:Cx} {pins:List (Addr × Obj)} {σ:St} {H:Hp} {s:Shared} (g:Value→Shared→Prop) (I:Inv X pins σ H s):Inv { X with xe:=g } pins σ H s:=⟨I.ok.withX g,I.os,I.bare,I.base,I.loc,I.cell,I.free,I.freeC,I.pin,I.hok,I.len⟩
noncomputable def blkE (X:Cx) (E:XK) (scope:Scope) (own:List Str) (fr:List (Str × Nat)) (C:Addr) (ex:List Addr) (s:Shared) (H:Hp):Cx:=
  { blkCx X scope own fr C ex s H with xe:=fun e s'=>∃ pins σ H1 s1,Inv (blkCx X scope own fr C ex s H) pins σ H1 s1∧CXE X.prog X.w X.stack H1 s1 E e s' }
section
variable {X:Cx} {E:XK} {scope:Scope} {own:List Str} {fr:List (Str × Nat)}
theorem passK {C:Addr} {ex:List Addr} {s:Shared} {H:Hp}:Passes (CXE X.prog X.w) (blkE X E scope own fr C ex s H) E:=fun pins σ H1 s1 e s' I h=>
  ⟨pins,σ,H1,s1,I.withX (blkCx X scope own fr C ex s H).xe,h⟩
theorem compLoop_goE {prog:Program} {w:World} {A:Around} {R:Result→Shared→Prop} {s:Shared} {elt target iter:Expr} {ifs:List Expr} {scope:Scope} {pos:Pos} {it acc:Value} {env:Env} {Z:Value→Shared→Prop} (I:Nat→Shared→Prop)
    (hZ:∀ e s,Z e s→notedBy (model prog w) A env (fun x s'=>R (.error x) s') e s)
    (turn:∀ n s,I n s→wpAny (model prog w) A (pyNext it) (fun r s₁=>match r with
      | none=>R (.ok .next) s₁
      | some v=>wpAny (model prog w) A (letOwnedTupleGo target it v) (fun _ s₁'=>wpAny (model prog w) A (assign target env v) (fun _ s₂=>
          wpAny (model prog w) A (forIn ifs true fun c r=>if r=true then do let ok ← isTrue c env (eval c env);pure (ForInStep.yield ok) else pure (ForInStep.yield r)) (fun ok s₃=>
            if ok=true then wpAny (model prog w) A (eval elt env) (fun x s₄=>
              wpAny (model prog w) A (call (.builtin "list.append") [acc,x]) (fun _ s₅=>∃ m,m<n∧I m s₅) Z s₄) Z s₃
            else ∃ m,m<n∧I m s₃) Z s₂) Z s₁') Z s₁) Z s)
    (n:Nat) (h:I n s):codeAny (model prog w) A (.compLoop (.ListComp elt [⟨target,iter,ifs,0⟩] scope pos) 0 it acc env) R s:=by
  refine codeAny_loop rfl I (fun n s hI=> ?_) n h
  show wpAny _ A ((compTurn (.ListComp elt [⟨target,iter,ifs,0⟩] scope pos) 0 it acc env).onRaise (fun x=>do noteFrame x env;theTreesLotGoes x)) _ _ s
  refine wpAny_noted ?_
  rw [compTurn_list]
  refine wpAny_bind (wpAny_standAt (wpAny_bind (wpAny_mono (turn n s hI) (fun r s₁ h₁=> ?_) hZ)))
  cases r with
  | none=>exact wpAny_pure h₁
  | some v=>
    refine wpAny_bind (wpAny_mono h₁ (fun _ s₁' h₁'=>wpAny_bind (wpAny_mono h₁' (fun _ s₂ h₂=>wpAny_bind (wpAny_mono h₂ (fun ok s₃ h₃=> ?_) hZ)) hZ)) hZ)
    cases ok with
    | false=>exact wpAny_pure ⟨rfl,h₃⟩
    | true=>
      exact wpAny_bind (wpAny_bind (wpAny_mono h₃ (fun x s₄ h₄=>wpAny_bind (wpAny_mono h₄ (fun _ s₅ h₅=>wpAny_pure (wpAny_pure ⟨rfl,h₅⟩)) hZ)) hZ))
end
end L2
namespace L2
open PySem PySem.Spec PyProof.Rows
section
variable {X:Cx} {E:XK}
theorem comp_runE {elt tg iter:Expr} {ifs:List Expr} {scope:Scope} {pos:Pos} {own:List Str} {fr:List (Str × Nat)} {g:TG} {tc:TT} {te:TE} (hp:PassB X E) (hc:X.calm=true) (S:BlkScope X scope own fr)
    (hg:∀ C ex s H,PG (blkE X E scope own fr C ex s H) tg g) (ht:∀ C ex s H,PTs (blkE X E scope own fr C ex s H) ifs tc) (he:∀ C ex s H,PE (blkE X E scope own fr C ex s H) elt te)
    {pins:List (Addr × Obj)} {σ:St} {H:Hp} {s:Shared} {it:Addr} {fp:List Addr} {tn:Nat→Heap→Prop} {J:It} {EE:Value→Shared→Prop}
    (I:Inv X pins σ H s) (T:Turn X.prog X.w X.K tg J fp it tn) (st:tn 0 s.heap) (hf:∀ b∈fp,FpOk X pins H b) {Q:VK}
    (h:∀ D,H D=none→CompW J (blkSt own fr σ) g tc te Q H D)
    {RR:Value→Addr→Result→Shared→Prop}
    (hR:∀ D C H' s',Inv X pins σ H' s'→(∃ m,s'.heap.Ns C m)→FpOk X pins H' C→Q (.ref D) H'→RR (.ref D) C (.ok .next) s')
    (hRE:∀ D C x s2,(∃ m,s2.heap.Ns C m∧∀ h',Heap.SameBut C s2.heap h'→∀ cenv:Env,cenv.locals=C→wpAny (model X.prog X.w) X.A (passOn "comprehension.variables-let-go" x cenv:Sem Value) (fun _ _=>False) X.xe { s2 with heap:=h' })→RR (.ref D) C (.error x) s2):
    wpAny (model X.prog X.w) X.A (newList []) (fun acc s₃=>wpAny (model X.prog X.w) X.A (newFunctionEnv scope X.env.globals (closOf X.env.cells scope.names []) [] X.env.qual none .none (some X.env)) (fun cenv s₄=>
      codeAny (model X.prog X.w) X.A (.compStart (.ListComp elt [⟨tg,iter,ifs,0⟩] scope pos) 0 (.ref it) acc { cenv with scope:=relabel scope X.env }) (RR acc cenv.locals) s₄) EE s₃) EE s:=by
  have hDn:H s.heap.objs.size=none:=I.fresh
  obtain ⟨W,⟨m0,w0⟩,turn⟩:=h s.heap.objs.size hDn
  have I3:Inv X pins σ (upd H s.heap.objs.size (.lst [])) { s with heap:=s.heap.push { cls:= .type "list",data:= .seq ([]:List Value).toArray },toks:=s.toks }:=I.lnew .nil (Nat.zero_le _)
  refine wpAny_newObj_type ?_
  generalize hs3:({ s with heap:=s.heap.push { cls:= .type "list",data:= .seq ([]:List Value).toArray } }:Shared)=s3 at I3 ⊢
  have I3:Inv X pins σ (upd H s.heap.objs.size (.lst [])) s3:=I3
  have old3:∀ b o,s.heap.get? b=some o→s3.heap.get? b=some o:=fun b o e=>by rw [← hs3];exact Heap.get?_push_of_some _ e
  have hobj:∀ b∈fp,∃ o,s.heap.get? b=some o∧∀ v,o.data≠ .cell v:=T.obj 0 _ st
  have hne:∀ b∈fp,b≠s.heap.objs.size:=fun b hb=>by obtain ⟨o,e,_⟩:=hobj b hb;exact Nat.ne_of_lt (Heap.lt_size e)
  have hf3:∀ b∈fp,FpOk X pins (upd H s.heap.objs.size (.lst [])) b:=fun b hb=>⟨by rw [upd_ne (hne b hb)];exact (hf b hb).1,(hf b hb).2⟩
  have hlt3:∀ b∈fp,b<s3.heap.objs.size:=fun b hb=>by obtain ⟨o,e,_⟩:=hobj b hb;exact Heap.lt_size (old3 b o e)
  refine wpAny_newFunctionEnv S.nocell (by intro y hy;simp at hy) (fun h₁ hns hsb=> ?_) S.kind
  have keep:∀ b o,s3.heap.get? b=some o→h₁.get? b=some o:=fun b o e=>hsb.extBut b o (Nat.ne_of_lt (Heap.lt_size e)) (Heap.get?_push_of_some _ e)
  have J0:=I3.block (t':=s3.toks+([]:List (Str × Value)).length) S hf3 hlt3 hns keep
  have st3:tn 0 h₁:=T.keep 0 _ _ st fun b hb o e=>keep b o (old3 b o e)
  generalize hY:blkE X E scope own fr s3.heap.objs.size fp s3 (upd H s.heap.objs.size (.lst []))=Y
  have J1:Inv Y [] (blkSt own fr σ) (upd H s.heap.objs.size (.lst [])) { s3 with heap:=h₁,toks:=s3.toks+([]:List (Str × Value)).length }:=by rw [← hY];exact J0.withX _
  have yP:X.prog=Y.prog:=by rw [← hY];rfl
  have loop:codeAny (model X.prog X.w) X.A (.compLoop (.ListComp elt [⟨tg,iter,ifs,0⟩] scope pos) 0 (.ref it) (.ref s.heap.objs.size) (compEnvC scope (closOf X.env.cells scope.names []) s3.heap.objs.size X.env))
      (RR (.ref s.heap.objs.size) s3.heap.objs.size) { s3 with heap:=h₁,toks:=s3.toks+([]:List (Str × Value)).length }:=by
    subst hY
    have stat:∀ {H':Hp},(∀ b∈fp,H' b=none)→∀ b∈fp,FpOk (blkE X E scope own fr s3.heap.objs.size fp s3 (upd H s.heap.objs.size (.lst []))) [] H' b:=fun {H'} hn b hb=>
      ⟨hn b hb,Nat.ne_of_lt (hlt3 b hb),J0.ok.exfs b hb, .inl hb,(J0.ok.exf b hb).2,fun p hp=>absurd (show p∈([]:List (Addr × Obj)) from hp) (by simp)⟩
    refine compLoop_goE (Z:=(blkE X E scope own fr s3.heap.objs.size fp s3 (upd H s.heap.objs.size (.lst []))).xe) (fun n s'=>∃ i ys H',Inv (blkE X E scope own fr s3.heap.objs.size fp s3 (upd H s.heap.objs.size (.lst []))) [] (blkSt own fr σ) H' s'∧tn i s'.heap∧(∀ b∈fp,H' b=none)∧W i n ys H') ?_ ?_ m0
      ⟨0,[],_,J1,st3,fun b hb=>(hf3 b hb).1,w0⟩
    · rintro e s' ⟨pins1,σ1,H1,s1,I1,hx⟩
      have IX:Inv X pins σ H1 s1:=I3.call' I1.os I1.base I1.hok I1.bare fun b hb=>⟨(hf3 b hb).2.2.2.1,(hf3 b hb).2.1,(hf3 b hb).2.2.2.2.1,(hf3 b hb).2.2.2.2.2⟩
      obtain ⟨m,hn,_⟩:=id I1.loc
      exact wpAny_mono (hp pins σ H1 s1 s3.heap.objs.size e s' IX (I3.fpOk (Nat.le_refl _) I1.free) I3.sz ⟨m,hn⟩ hx) (fun _ s2 z=>hRE _ _ e s2 z) fun _ _ z=>z.elim
    rintro n s4 ⟨i,ys,H4,I4,st4,fr4,w4⟩
    rcases turn i n ys H4 w4 with ⟨stop,q⟩ | ⟨go,N,hN,step⟩
    · refine thn (T.done (blkE X E scope own fr s3.heap.objs.size fp s3 (upd H s.heap.objs.size (.lst []))) rfl rfl rfl hc i [] s4 _ H4 _ I4 (stat fr4) st4 stop) fun r s5 ⟨hr,I5⟩=> ?_
      subst hr
      obtain ⟨m,hn,_⟩:=id I5.loc
      exact hR _ _ H4 s5 (I3.call' I5.os I5.base I5.hok I5.bare fun b hb=>⟨(hf3 b hb).2.2.2.1,(hf3 b hb).2.1,(hf3 b hb).2.2.2.2.1,(hf3 b hb).2.2.2.2.2⟩) ⟨m,hn⟩ (I3.fpOk (Nat.le_refl _) I5.free) q
    · refine thn (T.item (blkE X E scope own fr s3.heap.objs.size fp s3 (upd H s.heap.objs.size (.lst []))) rfl rfl rfl hc i [] s4 _ H4 _ I4 (stat fr4) st4 go) fun r s5 ⟨u,hr,h5⟩=> ?_
      subst hr
      refine thn h5 fun _ s6 ⟨x,H6,I6,r6,y6,st6,fr6⟩=> ?_
      have I6':=I6.pinned (stat fr6) (T.obj _ _ st6)
      refine thn (hg _ _ _ _ _ s6 _ H6 x u _ I6' r6 (step x H6 y6)) fun _ s7 ⟨σ7,H7,I7,kp,q7⟩=> ?_
      refine thn (ht _ _ _ _ _ s7 σ7 H7 _ I7 q7) fun b s8 ⟨H8,I8,q8⟩=> ?_
      have again:∀ {s9:Shared} {H9:Hp} {ys':List V},Inv (blkE X E scope own fr s3.heap.objs.size fp s3 (upd H s.heap.objs.size (.lst []))) ([]++pinsAt fp s6.heap) σ7 H9 s9→N ys' H9→
          ∃ m,m<n∧∃ i ys H',Inv (blkE X E scope own fr s3.heap.objs.size fp s3 (upd H s.heap.objs.size (.lst []))) [] (blkSt own fr σ) H' s9∧tn i s9.heap∧(∀ b∈fp,H' b=none)∧W i m ys H':=fun {s9 H9 ys'} I9 n9=>by
        obtain ⟨m',hm,w9⟩:=hN ys' H9 n9
        refine ⟨m',hm,i+1,ys',H9,I9.unpinned.weak kp.1.symm kp.2,T.keep _ _ _ st6 fun b hb o e=>(I9.pin (b,o) (List.mem_append_right _ (List.mem_append_right _ (mem_pinsAt hb e)))).1,fun b hb=> ?_,w9⟩
        obtain ⟨o,e,d⟩:=T.obj _ _ st6 b hb
        exact (I9.pin (b,o) (List.mem_append_right _ (List.mem_append_right _ (mem_pinsAt hb e)))).2.1
      cases b with
      | false=>
        rw [if_neg Bool.false_ne_true] at q8 ⊢
        exact again I8 q8
      | true=>
        rw [if_pos rfl] at q8 ⊢
        refine thn (he _ _ _ _ _ s8 σ7 H8 _ I8 q8) fun xv s9 ⟨y,H9,I9,r9,hD,hl,n9⟩=> ?_
        refine thn (mt_append _ s9 σ7 H9 (.ref s.heap.objs.size) [y] (.ref s.heap.objs.size) [xv] (fun _ H'=>H'=upd H9 s.heap.objs.size (.lst (ys++[y]))) I9 rfl (.cons r9 .nil) ⟨_,ys,y,rfl,rfl,hD,hl,rfl⟩) fun _ s10 ⟨_,H10,I10,_,q10⟩=> ?_
        subst q10
        exact again I10 n9
  exact codeAny_compStart_list loop (T.self _ 0 _ _ _ st3 loop)
theorem pe_compE {elt tg iter:Expr} {ifs:List Expr} {scope:Scope} {pos:Pos} {own:List Str} {fr:List (Str × Nat)} {wi:TI} {g:TG} {tc:TT} {te:TE} (hp:PassB X E) (hc:X.calm=true) (S:BlkScope X scope own fr) (hi:PI X tg iter wi)
    (hg:∀ C ex s H,PG (blkE X E scope own fr C ex s H) tg g) (ht:∀ C ex s H,PTs (blkE X E scope own fr C ex s H) ifs tc) (he:∀ C ex s H,PE (blkE X E scope own fr C ex s H) elt te)
    (hs:∀ x,foldedSetIterable iter X.env x=pure x:=by intro _;rfl):PE X (.ListComp elt [⟨tg,iter,ifs,0⟩] scope pos) (tComp wi own fr g tc te):=by
  intro pins s σ H Q I h
  rw [eval_ListComp]
  refine wpAny_comprehension_free (use:=none) rfl hs (closureFor_eq (S.cells I.ok)) S.kind S.loc (thn (hi pins s σ H _ I h) fun xv s₁ h₁=>thn h₁ fun itv s₂ h₂=> ?_)
  obtain ⟨it,fp,tn,J,H2,rfl,I2,T,st2,f2,h2⟩:=h₂
  refine comp_runE (RR:=fun acc C=>compPost (model X.prog X.w) X.A X.xe none (EP X pins σ Q) acc C) hp hc S hg ht he I2 T st2 f2 h2 ?_ fun D C x s2 z=>z
  rintro D C H' s' I' ⟨m,hn⟩ f q
  exact ⟨m,hn,fun h' sb=>⟨.ref D,H',I'.turned (t':=s'.toks) (it:=C) (fun b o hb e=>(sb.2 b hb).trans e) f.1 f.2.1 f.2.2.2.1 f.2.2.2.2.1 f.2.2.2.2.2,rfl,q⟩⟩
theorem ps_compE {i:Nat} {x:Str} {px spos:Pos} {elt tg iter:Expr} {ifs:List Expr} {scope:Scope} {pos:Pos} {own:List Str} {fr:List (Str × Nat)} {wi:TI} {g:TG} {tc:TT} {te:TE} (hp:PassB X E) (hN:X.N.Nodup) (hix:X.N[i]?=some x) (hx:Loc X.env.scope x)
    (hc:X.calm=true) (S:BlkScope X scope own fr) (hi:PI X tg iter wi)
    (hg:∀ C ex s H,PG (blkE X E scope own fr C ex s H) tg g) (ht:∀ C ex s H,PTs (blkE X E scope own fr C ex s H) ifs tc) (he:∀ C ex s H,PE (blkE X E scope own fr C ex s H) elt te)
    (hsw:swapsWith (.ListComp elt [⟨tg,iter,ifs,0⟩] scope pos) (some (.Name x px)) spos.line X.env=pure true:=by rfl)
    (hf:X.fn x=true∨X.env.scope.names.lookup x=some .local:=by first | exact .inl rfl | exact .inr rfl | assumption)
    (hs:∀ x,foldedSetIterable iter X.env x=pure x:=by intro _;rfl):PS X (.Assign [.Name x px] (.ListComp elt [⟨tg,iter,ifs,0⟩] scope pos) spos) (tAsg (tComp wi own fr g tc te) (gName i)):=by
  intro pins s σ H D I h
  rw [exec_Assign_Name_used _ _ _ _ hsw]
  refine wpAny_bind (wpAny_standAt (wpAny_bind ?_))
  show wpAny _ X.A (do let _ ← comprehension (.ListComp elt [⟨tg,iter,ifs,0⟩] scope pos) scope X.env _ (newList []) false (eval iter X.env) (some (assign (.Name x px) X.env))) _ _ s
  refine wpAny_bind (wpAny_mono (wpAny_comprehension_free (use:=some (assign (.Name x px) X.env)) (Q:=fun _ s'=>SP X pins D .next s') rfl hs (closureFor_eq (S.cells I.ok)) S.kind S.loc
    (thn (hi pins s σ H _ I h) fun xv s₁ h₁=>thn h₁ fun itv s₂ h₂=> ?_)) (fun _ s' hq=>wpAny_pure (wpAny_pure hq)) fun _ _ e=>e)
  obtain ⟨it,fp,tn,J,H2,rfl,I2,T,st2,f2,h2⟩:=h₂
  refine comp_runE (Q:=fun x H1=>gName i x σ H1 D.nx) (RR:=fun acc C=>compPost (model X.prog X.w) X.A X.xe (some (assign (.Name x px) X.env)) (fun _ s'=>SP X pins D .next s') acc C) hp hc S hg ht he I2 T st2 f2 h2 ?_ fun D C x s2 z=>z
  rintro Dl C H' s' I' ⟨m,hn⟩ f q
  obtain ⟨o,es,ep,ho,hd,r⟩:=hn
  have pinC:∀ v,o.data≠ .cell v:=fun v z=>by rw [hd] at z;cases z
  have I'':Inv X (pins++[(C,o)]) σ H' s':=I'.pins_of fun p hp=>(List.mem_append.mp hp).elim (fun z=>I'.pin p (List.mem_append_right _ z)) fun z=>by
    have e:p=(C,o):=by simpa using z
    subst e
    exact ⟨ho,f.1,f.2.1,f.2.2.1,pinC⟩
  show wpAny _ X.A (assign (.Name x px) X.env (.ref Dl)) _ _ s'
  refine wpAny_assign_Name (store_ok I'' hN hix hx (v:= .ref Dl) rfl (fun s2 I2=> ?_) hf)
  have pc:=(I2.pin (C,o) (List.mem_append_right _ (List.mem_append_right _ (by simp)))).1
  refine ⟨m,⟨o,es,ep,pc,hd,r⟩,fun h' sb=>⟨_,H',?_,q⟩⟩
  exact (I2.unpinned (pl:=[(C,o)])).turned (t':=s2.toks) (it:=C) (fun b o hb e=>(sb.2 b hb).trans e) f.1 f.2.1 f.2.2.2.1 f.2.2.2.2.1 f.2.2.2.2.2
variable {scope:Scope} {own:List Str} {fr:List (Str × Nat)}
theorem pg_ownE {i:Nat} {x:Str} {px:Pos} (h:blkOk X.env.scope X.N scope own fr=true) (hi:own[i]?=some x) (C:Addr) (ex:List Addr) (s:Shared) (H:Hp):PG (blkE X E scope own fr C ex s H) (.Name x px) (gName i):=by
  obtain ⟨h1,h2⟩:=blkOk_own h
  have hl:(relabel scope X.env).names.lookup x=some .local:=lookup_relabel_local (h1 x (List.mem_of_getElem? hi))
  have hlt:=(List.getElem?_eq_some_iff.mp hi).1
  refine pg_name h2 ?_ (.inl hl) (.inr hl)
  show (own++fr.map (·.1))[i]?=some x
  rw [List.getElem?_append_left hlt]
  exact hi
theorem pe_comp1E {elt iter:Expr} {x:Str} {px:Pos} {ifs:List Expr} {pos:Pos} {wi:TI} {tc:TT} {te:TE} (hp:PassB X E) (hi:PI X (.Name x px) iter wi)
    (ht:∀ C ex s H,PTs (blkE X E scope [x] (frOf X.N scope) C ex s H) ifs tc) (he:∀ C ex s H,PE (blkE X E scope [x] (frOf X.N scope) C ex s H) elt te)
    (hb:blkOk X.env.scope X.N scope [x] (frOf X.N scope)=true:=by with_unfolding_all rfl) (hc:X.calm=true:=by rfl)
    (hs:∀ x,foldedSetIterable iter X.env x=pure x:=by intro _;rfl):PE X (.ListComp elt [⟨.Name x px,iter,ifs,0⟩] scope pos) (tComp wi [x] (frOf X.N scope) (gName 0) tc te):=
  pe_compE hp hc (.of hb) hi (fun C ex s H=>pg_ownE hb rfl C ex s H) ht he hs
theorem ps_comp1E {i:Nat} {y x:Str} {py px spos:Pos} {elt iter:Expr} {ifs:List Expr} {pos:Pos} {wi:TI} {tc:TT} {te:TE} (hp:PassB X E) (hN:X.N.Nodup) (hix:X.N[i]?=some y) (hx:Loc X.env.scope y) (hi:PI X (.Name x px) iter wi)
    (ht:∀ C ex s H,PTs (blkE X E scope [x] (frOf X.N scope) C ex s H) ifs tc) (he:∀ C ex s H,PE (blkE X E scope [x] (frOf X.N scope) C ex s H) elt te)
    (hb:blkOk X.env.scope X.N scope [x] (frOf X.N scope)=true:=by with_unfolding_all rfl) (hc:X.calm=true:=by rfl)
    (hsw:swapsWith (.ListComp elt [⟨.Name x px,iter,ifs,0⟩] scope pos) (some (.Name y py)) spos.line X.env=pure true:=by rfl)
    (hf:X.fn y=true∨X.env.scope.names.lookup y=some .local:=by first | exact .inl rfl | exact .inr rfl | assumption)
    (hs:∀ x,foldedSetIterable iter X.env x=pure x:=by intro _;rfl):
    PS X (.Assign [.Name y py] (.ListComp elt [⟨.Name x px,iter,ifs,0⟩] scope pos) spos) (tAsg (tComp wi [x] (frOf X.N scope) (gName 0) tc te) (gName i)):=
  ps_compE hp hN hix hx hc (.of hb) hi (fun C ex s H=>pg_ownE hb rfl C ex s H) ht he hsw hf hs
end
end L2
namespace L2
open PySem PySem.Spec PyProof.Rows PySem.W
noncomputable def OnlyM (H:Hp) (ts:List Addr):Prop:=∀ b,H b=none∨(∃ o xs,H b=some (.frz o (.lst xs)))∨b∈ts
theorem law_callM {P:Program} {w:World} {K:PySem.W.Frag} {mg mb:Str→Option Value} {CX:CXT} {k:Nat} {fa a:Addr} {ts:List Addr} {fd:FuncData} {x:Str} {sp:Sp} {s₁:Shared} {vs:List Value} {ns:List Int}
    (KX:K.In s₁.heap) (hns:s₁.heap.Ns mainGlobals mg) (hb:s₁.heap.Ns builtinsNs mb) (hbb:∀ x:Str,x≠"__name__"→mb x=bootBuiltins x) (hlim:s₁.heap.NoLimit) (hg:s₁.gens= #[])
    (ha:s₁.heap.get? a=some { cls:= .type "list",data:= .seq vs.toArray }) (hi:IntsAre vs ns) (hl:ns.length≤sizeLine) (hr:Room k callerA)
    (hT:∀ T∈ts,s₁.heap.get? T=some (tabObj #[])) (hC:∀ T∈ts,∃ c,CodeHd s₁.heap c T) (hKT:∀ T∈ts,K.lookup T=none) (hB:∀ T∈ts,s₁.heap.BuiltinsAt mg T)
    (F:∀ base:Heap,K.In base→base.Ns mainGlobals mg→(∀ T∈ts,base.BuiltinsAt mg T)→FnOk P w K mg base CX k fa fd [x] sp) (hbind:∀ (s:Shared) (u:Value),BindsTo s fd ⟨[u],[]⟩ [(x,u)])
    (hsp:∀ H:Hp,OnlyM H ts→(∀ T∈ts,H T=some (.tbl #[]))→SqL K H a (ns.map V.int)→sp [.ref a] H (fun v _=>v= .bl true) fun _ _ _=>False)
    (hCX:∀ H e s',CX [] H s₁ (fun _ _ _=>False) e s'→False):
    codeAny (model P w) callerA (.call (.ref fa) ⟨[.ref a],[]⟩) (fun r s'=>r= .ok (.ret (.bool true))∧OldK s₁.heap s'.heap∧s'.os=s₁.os∧AllBare s'.gens) s₁:=by
  have rv:=vals_ints hi
  have naT:a∉ts:=fun z=>by have:=hT a z;rw [this] at ha;cases ha
  have core:∀ H:Hp,OnlyM H ts→(∀ T∈ts,H T=some (.tbl #[]))→SqL K H a (ns.map V.int)→HOk P w H s₁.heap→(∀ b,H b≠none→b=a∨b∈ts)→(H a≠none→K.lookup a=none)→
      codeAny (model P w) callerA (.call (.ref fa) ⟨[.ref a],[]⟩) (fun r s'=>r= .ok (.ret (.bool true))∧OldK s₁.heap s'.heap∧s'.os=s₁.os∧AllBare s'.gens) s₁:=by
    intro H hO hHT hS hok hA hK
    have free:∀ {b:Addr} {o:Obj},s₁.heap.get? b=some o→(∀ ws n,o.data≠ .seq ws n)→(∀ ws,o.data≠ .fields ws∨o.cls≠ .none)→H b=none:=fun {b o} e n1 n2=>by
      cases q:H b with
      | none=>rfl
      | some u=>
        rcases hA b (by rw [q];simp) with z | z
        · rw [z,ha] at e;cases e;exact absurd rfl (n1 _ _)
        · rw [hT b z] at e;cases e
          rcases n2 #[] with z | z
          · exact absurd rfl z
          · exact absurd rfl z
    have nsK:∀ {b:Addr} {m:Str→Option Value},s₁.heap.Ns b m→(hidT s₁.heap H).Ns b m:=fun {b m} ⟨o,es,ep,e,d,r⟩=>⟨o,es,ep,hidT_get e (free e (fun ws n=>by rw [d];simp) fun ws=> .inl (by rw [d];simp)),d,r⟩
    have hKb:K.In (hidT s₁.heap H):=fun b o e=>hidT_get (KX b o e) (by
      cases q:H b with
      | none=>rfl
      | some u=>
        rcases hA b (by rw [q];simp) with z | z
        · subst z;rw [hK (by rw [q];simp)] at e;cases e
        · rw [hKT b z] at e;cases e)
    have hM:Mod K mg (hidT s₁.heap H):=⟨hKb,nsK hns,⟨mb,nsK hb,hbb⟩,let ⟨mc,h1,h2⟩:=hlim;⟨mc,nsK h1,h2⟩⟩
    have e0:Env0 P w K mg (hidT s₁.heap H) callerA [] s₁ H:=⟨rfl,hM,fun b o e=>of_hidT e,Nat.le_of_eq (hidT_size _ _),trivial,fun b hb=>absurd (show b∈([]:List Addr) from hb) (by simp),hok, .of_eq hg⟩
    have hB':∀ T∈ts,(hidT s₁.heap H).BuiltinsAt mg T:=fun T z=>by
      obtain ⟨bm,o,a1,a2,a3,a4,a5,a6,a7,a8⟩:=hB T z
      exact ⟨bm,o,a1,a2,a3,a4,hidT_get a5 (free a5 (fun ws n=>by rw [a8];simp) fun ws=> .inl (by rw [a8];simp)),a6,a7,a8⟩
    refine codeAny_mono ((F _ hKb (nsK hns) hB').run callerA [] s₁ H ⟨[.ref a],[]⟩ [.ref a] [.ref a] _ _ hr e0 (hbind s₁ (.ref a)) (.cons rfl .nil) (hsp H hO hHT hS)) fun r s' h=> ?_
    match r,h with
    | .error e,h=>exact (hCX H e s' h).elim
    | .ok .next,h=>exact False.elim h
    | .ok .brk,h=>exact False.elim h
    | .ok .cont,h=>exact False.elim h
    | .ok (.ret u),⟨v,H',os,bare,un,hok',r',q⟩=>
      have q':v= .bl true:=q
      subst q'
      obtain rfl:u=Value.bool true:=r'
      have kept:∀ b o,b∉ts→s₁.heap.get? b=some o→s'.heap.get? b=some o:=fun b o hb e=>by
        cases q:H b with
        | none=>exact un.keep b o e q (by intro z;exact absurd (show b∈([]:List Addr) from z) (by simp)) (by simp)
        | some u=>
          rcases hO b with z | ⟨ob,xs,z⟩ | z
          · rw [q] at z;cases z
          · obtain ⟨e1,_⟩:=hok b _ z
            obtain ⟨e2,_⟩:=hok' b _ (un.frzs b ob _ z)
            rw [e] at e1;cases e1
            exact e2
          · exact absurd z hb
      have hT2:∀ T∈ts,∃ more,s'.heap.get? T=some (tabObj (#[]++more)):=fun T z=>by
        obtain ⟨more,hT'⟩:=un.tbls T _ (hHT T z)
        exact ⟨more,hok' T _ hT'⟩
      refine ⟨rfl,⟨fun b o e=> ?_,fun b o e=> ?_⟩,os,bare⟩
      · by_cases hb:b∈ts
        · have hTb:=hT b hb
          rw [hTb] at e
          cases e
          obtain ⟨cc,hc⟩:=hC b hb
          obtain ⟨more,h2⟩:=hT2 b hb
          exact .inr (.inl ⟨(hc.tab hTb).isCodeTable,rfl, #[],more,rfl,h2⟩)
        · exact .inl (kept b o hb e)
      · by_cases hb:b∈ts
        · obtain ⟨more,h2⟩:=hT2 b hb
          exact ⟨_,h2⟩
        · exact ⟨o,kept b o hb e⟩
  cases hk:K.lookup a with
  | some o=>
    have e:=KX a o hk
    rw [ha] at e
    cases e
    refine core (fun b=>if b∈ts then some (.tbl #[]) else none) (fun b=> ?_) (fun T z=>if_pos z) (.inr ⟨_,vs.toArray,_,hk,rfl,rfl,rfl,by rw [List.size_toArray,hi.length];exact hl,by simpa using rv⟩) (fun b u z=> ?_) (fun b z=> ?_) fun z=>absurd (if_neg naT) z
    · by_cases hb:b∈ts
      · exact .inr (.inr hb)
      · exact .inl (if_neg hb)
    · by_cases hb:b∈ts
      · have z':=(if_pos hb).symm.trans z
        cases z'
        exact hT b hb
      · have z':=(if_neg hb).symm.trans z
        cases z'
    · by_cases hb:b∈ts
      · exact .inr hb
      · exact absurd (if_neg hb) z
  | none=>
    refine core (fun b=>if b∈ts then some (.tbl #[]) else if b=a then some (.frz { cls:= .type "list",data:= .seq vs.toArray } (.lst (ns.map V.int))) else none) (fun b=> ?_) (fun T z=>if_pos z) (.inl (.inr ⟨{ cls:= .type "list",data:= .seq vs.toArray },(if_neg naT).trans (if_pos rfl)⟩)) (fun b u z=> ?_) (fun b z=> ?_) fun _=>hk
    · by_cases hb:b∈ts
      · exact .inr (.inr hb)
      · by_cases hb2:b=a
        · exact .inr (.inl ⟨_,_,(if_neg hb).trans (if_pos hb2)⟩)
        · exact .inl ((if_neg hb).trans (if_neg hb2))
    · by_cases hb:b∈ts
      · have z':=(if_pos hb).symm.trans z
        cases z'
        exact hT b hb
      · by_cases hb2:b=a
        · have z':=((if_neg hb).trans (if_pos hb2)).symm.trans z
          cases z'
          subst hb2
          exact ⟨ha,by rw [List.length_map];exact hl,vs,_,rv,ha⟩
        · have z':=((if_neg hb).trans (if_neg hb2)).symm.trans z
          cases z'
    · by_cases hb:b∈ts
      · exact .inr hb
      · by_cases hb2:b=a
        · exact .inl hb2
        · exact absurd ((if_neg hb).trans (if_neg hb2)) z
theorem walk_ofM {l:PySem.W.OpenLaw} {n k:Nat} {q:Program} {loose:List Str} {XP:(Str→Option Value)→Heap→Prop} {YP:World→Heap→Prop} {d:DefRec} {K:Params→PySem.W.Frag} {CX:World→CXT} {sp:World→Sp} {x:Str} {ts:List Addr}
    (hn:l.most=some n) (hn2:n≤sizeLine) (hdf:d.params.defaults=[]) (hr:Room k callerA)
    (hY:∀ (w:World) (h:Heap),YP w h→(K w.params).In h) (hYt:∀ (w:World) (h:Heap),YP w h→∀ P∈ts,h.get? P=some (tabObj #[])) (hnt:∀ w:World,noTabs (K w.params)=true)
    (F:∀ (w:World) (mg:Str→Option Value) (fa:Addr) (h:Heap),(K w.params).In h→h.Ns mainGlobals mg→mg d.name=some (.ref fa)→
      ∃ fd:FuncData,(∀ (s:Shared) (u:Value),BindsTo s fd ⟨[u],[]⟩ [(x,u)])∧(∀ h':Heap,(K w.params).In h'→∀ T∈ts,∃ c,CodeHd h' c T)∧
        ∀ base:Heap,(K w.params).In base→base.Ns mainGlobals mg→(∀ T∈ts,base.BuiltinsAt mg T)→FnOk l.prog w (K w.params) mg base (CX w) k fa fd [x] (sp w))
    (hsp:∀ (w:World) (H:Hp) (a:Addr) (ns:List Int),ns.length≤n→OnlyM H ts→(∀ T∈ts,H T=some (.tbl #[]))→SqL (K w.params) H a (ns.map V.int)→sp w [.ref a] H (fun v _=>v= .bl true) fun _ _ _=>False)
    (hCX:∀ (w:World) (H:Hp) (s:Shared) (e:Value) (s':Shared),CX w [] H s (fun _ _ _=>False) e s'→False):
    PySem.W.WalkO q loose XP YP l.row.toRowW d [] (fun f vs=>PySem.call f vs):=by
  refine Att.attach_call hn hdf fun w s₀ s₁ mg mb fa o pm cd doc a vs ns G Y ho hd hcd hmg hobj hints hlen hg=> ?_
  have KX:=hY w _ Y
  obtain ⟨fd,hb,hC,hF⟩:=F w mg fa _ KX G.T.g hmg
  have hT:=hYt w _ Y
  have hK:∀ T∈ts,(K w.params).lookup T=none:=fun T hm=>by
    cases e:(K w.params).lookup T with
    | none=>rfl
    | some o=>
      have e2:=KX T o e
      rw [hT T hm] at e2
      cases e2
      have h2:=List.all_eq_true.mp (hnt w) _ (mem_of_lookupK e)
      exact absurd (show false=true from h2) Bool.false_ne_true
  exact law_callM KX G.T.g G.T.b G.T.builtins G.T.nolimit hg hobj hints (Nat.le_trans hlen hn2) hr hT (hC _ KX) hK (fun T z=>blt_at G.T (hT T z)) hF hb (fun H hO h1 hS=>hsp w H a ns hlen hO h1 hS) fun H e s'=>hCX w H s₁ e s'
end L2
open L2
local macro_rules | `(tactic| walk_at "t") => `(tactic| first | (with_reducible first | refine rd_seq ?_ | refine rd_asg ?_ | refine rd_name ?_ | refine rd_c ?_ | refine rd_op ?_ | refine rd_un ?_ | refine rd_rI0 ?_ | refine rd_rU ?_ | refine rd_eqI ?_ | refine rd_neI ?_ | refine rd_not ?_ | refine rd_test ?_ | refine rd_tB ?_ | refine rd_bl ?_ | refine rd_or ?_ | refine rd_and ?_ | refine rd_andV ?_ | refine rd_notV ?_ | refine rd_if ?_ | refine rd_ret ?_ | refine rd_drop ?_ | refine rd_nil ?_ | refine rd_cons ?_ | refine rd_lst ?_ | refine rd_tup ?_ | refine rd_cb ?_ | refine rd_call ?_ | refine rd_sl ?_ | refine rd_part ?_ | refine rd_noPart ?_ | refine rd_int ?_ | refine iteT ?_ | refine iteF ?_ | refine rd_next ?_ | refine rd_bm ?_ | refine iteNF ?_ | refine iteNT ?_ | refine rd_comp ?_ | refine rd_for ?_ | refine rd_iL ?_ | refine rd_iT ?_ | refine rd_iQ ?_ | refine rd_iE ?_ | refine rd_i1 ?_ | refine rd_i2 ?_ | refine rd_gcons ?_ | refine rd_gnil ?_ | refine rd_orG ?_ | refine rd_chain ?_ | refine rd_fld ?_ | refine rd_put ?_ | refine rd_make ?_ | refine rd_meth ?_) | ((with_reducible apply rd_var); exact rfl) | (with_reducible refine rd_len (by simp only [List.length_cons, List.length_nil]; decide) ?_))
local macro_rules | `(tactic| walk_at "s") => `(tactic| first | walk_at "t" | (with_reducible refine rd_ifS ?_))
local macro_rules | `(tactic| walk_at "v") => `(tactic| repeat walk_at "t")
local macro_rules | `(tactic| walk_at "w") => `(tactic| repeat walk_at "s")
namespace K26
open PySem L2 PySem.Spec PyProof.Rows
seal L2.PE L2.PT L2.PW L2.PA L2.PS L2.PSs L2.PI L2.PG L2.PTs L2.PGs
section
variable {P:Program} {w:World} {K:PySem.W.Frag} {mg:Str→Option Value} {base:Heap}
structure Cs where
  Cloth:Addr
  LoomError:Addr
  BadRow:Addr
  BadWord:Addr
  TooMany:Addr
  NotPlain:Addr
  NotGrown:Addr
  BadDraft:Addr
  BadCloth:Addr
  OutOfPlace:Addr
structure Txt (K:PySem.W.Frag) (mg:Str→Option Value) (c:Cs):Prop where
  own:Own mg ["isinstance","int","bool","list","tuple","len","all","range","sum","enumerate","ValueError"]
  g_Cloth:mg "Cloth"=some (.ref c.Cloth)
  kd_Cloth:Kind K c.Cloth
  is_Cloth:PySem.W.kitOne K (.ref c.Cloth) (.ref c.Cloth)=some true
  na_Cloth_width:NoAttr K c.Cloth "width"
  na_Cloth_rows:NoAttr K c.Cloth "rows"
  g_LoomError:mg "LoomError"=some (.ref c.LoomError)
  g_BadRow:mg "BadRow"=some (.ref c.BadRow)
  g_BadWord:mg "BadWord"=some (.ref c.BadWord)
  g_TooMany:mg "TooMany"=some (.ref c.TooMany)
  g_NotPlain:mg "NotPlain"=some (.ref c.NotPlain)
  g_NotGrown:mg "NotGrown"=some (.ref c.NotGrown)
  g_BadDraft:mg "BadDraft"=some (.ref c.BadDraft)
  g_BadCloth:mg "BadCloth"=some (.ref c.BadCloth)
  xk_BadCloth:HT.ExcKind K c.BadCloth
  xi_BadCloth:PySem.W.excIn K c.BadCloth [.type "ValueError", .type "Exception", .type "BaseException", .type "object"] "ValueError.__new__"=true
  xm_BadCloth_LoomError:PySem.W.exmOne K (.ref c.BadCloth) (.ref c.LoomError)=some true
  ki_BadCloth_BadRow:PySem.W.kitOne K (.ref c.BadCloth) (.ref c.BadRow)=some false
  ki_BadCloth_BadWord:PySem.W.kitOne K (.ref c.BadCloth) (.ref c.BadWord)=some false
  ki_BadCloth_TooMany:PySem.W.kitOne K (.ref c.BadCloth) (.ref c.TooMany)=some false
  ki_BadCloth_NotPlain:PySem.W.kitOne K (.ref c.BadCloth) (.ref c.NotPlain)=some false
  ki_BadCloth_NotGrown:PySem.W.kitOne K (.ref c.BadCloth) (.ref c.NotGrown)=some false
  ki_BadCloth_BadDraft:PySem.W.kitOne K (.ref c.BadCloth) (.ref c.BadDraft)=some false
  ki_BadCloth_BadCloth:PySem.W.kitOne K (.ref c.BadCloth) (.ref c.BadCloth)=some true
  ki_BadCloth_OutOfPlace:PySem.W.kitOne K (.ref c.BadCloth) (.ref c.OutOfPlace)=some false
  ki_BadCloth_ValueError:PySem.W.kitOne K (.ref c.BadCloth) (.type "ValueError")=some true
  g_OutOfPlace:mg "OutOfPlace"=some (.ref c.OutOfPlace)
  xk_NotGrown:XKind K c.NotGrown
  xs_NotGrown:XSet K c.NotGrown
  xm_NotGrown_LoomError:PySem.W.exmOne K (.ref c.NotGrown) (.ref c.LoomError)=some true
  ki_NotGrown_BadRow:PySem.W.kitOne K (.ref c.NotGrown) (.ref c.BadRow)=some false
  ki_NotGrown_BadWord:PySem.W.kitOne K (.ref c.NotGrown) (.ref c.BadWord)=some false
  ki_NotGrown_TooMany:PySem.W.kitOne K (.ref c.NotGrown) (.ref c.TooMany)=some false
  ki_NotGrown_NotPlain:PySem.W.kitOne K (.ref c.NotGrown) (.ref c.NotPlain)=some false
  ki_NotGrown_NotGrown:PySem.W.kitOne K (.ref c.NotGrown) (.ref c.NotGrown)=some true
  ki_NotGrown_BadDraft:PySem.W.kitOne K (.ref c.NotGrown) (.ref c.BadDraft)=some false
  ki_NotGrown_BadCloth:PySem.W.kitOne K (.ref c.NotGrown) (.ref c.BadCloth)=some false
  ki_NotGrown_OutOfPlace:PySem.W.kitOne K (.ref c.NotGrown) (.ref c.OutOfPlace)=some false
  ki_NotGrown_ValueError:PySem.W.kitOne K (.ref c.NotGrown) (.type "ValueError")=some true
  xf_NotGrown_row:PySem.W.findIn K (.ref c.NotGrown) "row"=some none
  xf_NotGrown_column:PySem.W.findIn K (.ref c.NotGrown) "column"=some none
  xj_NotGrown:∃ fi,HT.iniIn K c.NotGrown fi=true
  xb_LoomError:XBase K c.LoomError
  k_MOST_ENDS:∃ t,mg "MOST_ENDS"=some (.int 60 t)
  k_MOST_PICKS:∃ t,mg "MOST_PICKS"=some (.int 60 t)
noncomputable def spLawM (K:PySem.W.Frag) (ts:List Addr):Sp:=fun vs H Q _=>∃ (a:Addr) (ns:List Int),vs=[.ref a]∧SqL K H a (ns.map V.int)∧ns.length≤63∧(∀ T∈ts,H T=some (.tbl #[]))∧ts.Nodup∧∀ H',Q (.bl true) H'
end
end K26
open L2
namespace K26
open PySem L2 PySem.Spec PyProof.Rows
seal L2.PE L2.PT L2.PW L2.PA L2.PS L2.PSs L2.PI L2.PG L2.PTs L2.PGs
section
variable {P:Program} {w:World} {K:PySem.W.Frag} {mg:Str→Option Value} {base:Heap} {c:Cs} {TT1 TT2:Addr}
noncomputable def sp_bit_of:Sp:=fun vs H Q _=>∃ n:Nat,vs=[.int n]∧1≤n∧n≤1000∧Q (.int ((2 ^ (n - 1):Nat):Int)) H
noncomputable abbrev s_bit_of:Stmt:=top 14
theorem sc_bit_of:FnScope ["number"] ["number"] (defScope s_bit_of):=⟨rfl,rfl,rfl,by decide +kernel,rfl,by decide +kernel,by decide +kernel⟩
theorem ok_bit_of {f:Addr} {fd:FuncData} (F:Fun K "bit_of" "bit_of" s_bit_of f fd) (T:Txt K mg c):FnOk P w K mg base CX0 1 f fd ["number"] sp_bit_of:=by
  refine F.ok sc_bit_of (fun vs H Q E h=> ?_) (fun cdv A outer s H vs Q E hr h=> ?_)
  · obtain ⟨n,rfl,_⟩:=h
    rfl
  · obtain ⟨n,rfl,h1,h2,q⟩:=h
    refine ⟨_,(pss_one (ps_ret (pe_op op_shl pe_int (pe_op op_sub (pv 0) pe_int)))),?_⟩
    walk_at "w"
    refine rd_rI ⟨by omega,by omega,by decide⟩ ?_
    rw [show ((n:Int) - 1).toNat=n - 1 by omega,pow_cast]
    exact q
noncomputable def sp_mask_of (K:PySem.W.Frag):Sp:=fun vs H Q _=>∃ tp a,∃ ns:List Nat,vs=[.ref a]∧SqS tp K H a (ns.map nV)∧(∀ n∈ns,1≤n∧n≤1000)∧∀ H',Same H H'→Q (.int ((MM.mOf ns:Nat):Int)) H'
noncomputable abbrev s_mask_of:Stmt:=top 15
theorem sc_mask_of:FnScope ["numbers","mask","number"] ["numbers"] (defScope s_mask_of):=⟨rfl,rfl,rfl,by decide +kernel,rfl,by decide +kernel,by decide +kernel⟩
theorem ok_mask_of {f:Addr} {fd:FuncData} (F:Fun K "mask_of" "mask_of" s_mask_of f fd) (T:Txt K mg c) (c_bit_of:CallF P w K mg base "bit_of" 1 ["number"] sp_bit_of):FnOk P w K mg base CX0 2 f fd ["numbers"] (sp_mask_of K):=by
  refine F.ok sc_mask_of (fun vs H Q E h=> ?_) (fun cdv A outer s H vs Q E hr h=> ?_)
  · obtain ⟨tp,a,ns,rfl,_⟩:=h
    rfl
  · obtain ⟨tp,a,ns,rfl,sa,hn,q⟩:=h
    refine ⟨_,(pss_cons (ps_set (i:=1) sc_mask_of.nd rfl (Or.inl rfl) pe_int)
      (pss_cons (ps_for PassesOwn.never rfl (pi_sq (K:=K) (pv 0)) (pg_name (i:=2) sc_mask_of.nd rfl (Or.inl rfl)) (pss_one (ps_aug (i:=1) sc_mask_of.nd rfl (Or.inl rfl) (pe_callF c_bit_of hr (pa_cons (pv 2) pa_nil)) iop_or)))
      (pss_one (ps_ret (pv 1))))),?_⟩
    walk_at "w"
    refine ⟨tp,a,rfl,⟨_,sa⟩,for_src (fs_sq sa) (fun i σ H3=>∃ x,σ=[some (.ref a),some (.int ((MM.mOf (ns.take i):Nat):Int)),x]∧Same H H3) ⟨_,rfl,Same.refl _⟩ (fun i σ H3 ⟨_,_,s⟩=>s) ?_ ?_⟩
    · rintro i σ H' H3 hi ⟨x,rfl,s'⟩ s3
      have hi':i<ns.length:=by simpa using hi
      have hm:ns.getD i 0∈ns:=by rw [List.getD_eq_getElem?_getD,List.getElem?_eq_getElem hi'];exact List.getElem_mem hi'
      rw [getD_nat hi]
      walk_at "w"
      refine rd_aug rfl ?_
      walk_at "w"
      refine ⟨_,rfl,(hn _ hm).1,(hn _ hm).2,?_⟩
      walk_at "w"
      rw [bO, ← MM.mOf_snoc, ← take_getD hi']
      exact ⟨_,rfl,s'.trans s3⟩
    · rintro σ H3 ⟨x,rfl,s3⟩
      walk_at "w"
      rw [List.length_map,List.take_length]
      exact q H3 s3
noncomputable def sp_mask_to:Sp:=fun vs H Q _=>∃ n:Nat,vs=[.int n]∧n≤1000∧Q (.int ((2 ^ n - 1:Nat):Int)) H
noncomputable abbrev s_mask_to:Stmt:=top 16
theorem sc_mask_to:FnScope ["most"] ["most"] (defScope s_mask_to):=⟨rfl,rfl,rfl,by decide +kernel,rfl,by decide +kernel,by decide +kernel⟩
theorem ok_mask_to {f:Addr} {fd:FuncData} (F:Fun K "mask_to" "mask_to" s_mask_to f fd) (T:Txt K mg c):FnOk P w K mg base CX0 1 f fd ["most"] sp_mask_to:=by
  refine F.ok sc_mask_to (fun vs H Q E h=> ?_) (fun cdv A outer s H vs Q E hr h=> ?_)
  · obtain ⟨n,rfl,_⟩:=h
    rfl
  · obtain ⟨n,rfl,h1,q⟩:=h
    refine ⟨_,(pss_one (ps_ret (pe_op op_sub (pe_op op_shl pe_int (pv 0)) pe_int))),?_⟩
    walk_at "w"
    refine rd_rI ⟨by omega,by omega,by decide⟩ ?_
    walk_at "w"
    have hp:0<2 ^ n:=Nat.two_pow_pos n
    rw [show ((n:Int)).toNat=n by omega,pow_cast,show ((2 ^ n:Nat):Int) - 1=((2 ^ n - 1:Nat):Int) by omega]
    exact q
end
end K26
open L2
namespace K26
open PySem L2 PySem.Spec PyProof.Rows
seal L2.PE L2.PT L2.PW L2.PA L2.PS L2.PSs L2.PI L2.PG L2.PTs L2.PGs
section
variable {P:Program} {w:World} {K:PySem.W.Frag} {mg:Str→Option Value} {base:Heap} {c:Cs} {TT1 TT2:Addr}
noncomputable def sp_is_whole (K:PySem.W.Frag):Sp:=fun vs H Q _=>∃ x,vs=[x]∧Ty K H x∧Q (.bl (isIntV x)) H
noncomputable abbrev s_is_whole:Stmt:=top 18
theorem sc_is_whole:FnScope ["thing"] ["thing"] (defScope s_is_whole):=⟨rfl,rfl,rfl,by decide +kernel,rfl,by decide +kernel,by decide +kernel⟩
theorem ok_is_whole {f:Addr} {fd:FuncData} (F:Fun K "is_whole" "is_whole" s_is_whole f fd) (T:Txt K mg c):FnOk P w K mg base CX0 1 f fd ["thing"] (sp_is_whole K):=by
  refine F.ok sc_is_whole (fun vs H Q E h=> ?_) (fun cdv A outer s H vs Q E hr h=> ?_)
  · obtain ⟨x,rfl,_⟩:=h
    rfl
  · obtain ⟨x,rfl,⟨n,ty⟩,k⟩:=h
    refine ⟨_,(pss_one (ps_ret (pe_and (pe_callB (k_isin (K:=K)) rfl (T.own _ (by decide)) boot_isinstance (pa_cons (pv 0) (pa_cons (pe_ty rfl (T.own _ (by decide)) boot_int) pa_nil))) (pe_one (pe_not (pe_callB (k_isin (K:=K)) rfl (T.own _ (by decide)) boot_isinstance (pa_cons (pv 0) (pa_cons (pe_ty rfl (T.own _ (by decide)) boot_bool) pa_nil)))))))),?_⟩
    walk_at "w"
    refine rd_isin ty (kit_int ty) ?_
    walk_at "w"
    refine iteC (fun hc=> ?_) (fun hc=> ?_)
    · walk_at "w"
      refine rd_isin ty (kit_bool ty) ?_
      walk_at "w"
      exact fin_b (by cases x <;> first | rfl | exact absurd hc Bool.false_ne_true) k
    · exact fin_b (by cases x <;> first | rfl | exact absurd hc.symm Bool.false_ne_true) k
noncomputable def sp_is_among (K:PySem.W.Frag):Sp:=fun vs H Q _=>∃ x a b,vs=[x, .int a, .int b]∧Ty K H x∧Q (.bl (amongV x a b)) H
noncomputable abbrev s_is_among:Stmt:=top 19
theorem sc_is_among:FnScope ["thing","least","most"] ["thing","least","most"] (defScope s_is_among):=⟨rfl,rfl,rfl,by decide +kernel,rfl,by decide +kernel,by decide +kernel⟩
theorem ok_is_among {f:Addr} {fd:FuncData} (F:Fun K "is_among" "is_among" s_is_among f fd) (T:Txt K mg c) (c_is_whole:CallF P w K mg base "is_whole" 1 ["thing"] (sp_is_whole K)):FnOk P w K mg base CX0 2 f fd ["thing","least","most"] (sp_is_among K):=by
  refine F.ok sc_is_among (fun vs H Q E h=> ?_) (fun cdv A outer s H vs Q E hr h=> ?_)
  · obtain ⟨x,a,b,rfl,_⟩:=h
    rfl
  · obtain ⟨x,a,b,rfl,ty,k⟩:=h
    refine ⟨_,(pss_one (ps_ret (pe_and (pe_callF c_is_whole hr (pa_cons (pv 0) pa_nil)) (pe_one (pe_chain op_le op_le (pv 1) (pv 0) (pv 2)))))),?_⟩
    walk_at "w"
    refine ⟨x,rfl,ty,?_⟩
    walk_at "w"
    refine iteC (fun hc=> ?_) (fun hc=> ?_)
    · cases x with
      | int i=>
        walk_at "w"
        refine iteC (fun h1=> ?_) (fun h1=> ?_)
        · walk_at "w"
          exact fin_b (by show _=(decide (a≤i)&&decide (i≤b));rw [h1,Bool.true_and]) k
        · walk_at "w"
          exact fin_b (by show _=(decide (a≤i)&&decide (i≤b));rw [h1,Bool.false_and]) k
      | _=>exact absurd hc Bool.false_ne_true
    · exact fin_b (by cases x <;> first | rfl | exact absurd hc.symm Bool.false_ne_true) k
end
end K26
open L2
namespace K26
open PySem L2 PySem.Spec PyProof.Rows
seal L2.PE L2.PT L2.PW L2.PA L2.PS L2.PSs L2.PI L2.PG L2.PTs L2.PGs
section
variable {P:Program} {w:World} {K:PySem.W.Frag} {mg:Str→Option Value} {base:Heap} {c:Cs} {TT1 TT2:Addr}
noncomputable def ClAt (C:Addr) (H:Hp) (x:Addr) (n:Nat) (rs:List Nat):Prop:=∃ dx t,H x=some (.ins C dx [("width",nV n),("rows", .ref t)])∧H t=some (.tup (rs.map nV))
theorem ClAt.same {C:Addr} {H H':Hp} {x:Addr} {n:Nat} {rs:List Nat} (h:ClAt C H x n rs) (s:Same H H'):ClAt C H' x n rs:=by
  obtain ⟨dx,t,h1,h2⟩:=h
  exact ⟨dx,t,s _ _ h1,s _ _ h2⟩
structure ClOk (n:Nat) (rs:List Nat):Prop where
  n1:1≤n
  n2:n≤60
  p1:1≤rs.length
  p2:rs.length≤60
  lt:∀ r∈rs,r<2 ^ n
inductive ClFit (K:PySem.W.Frag) (H:Hp):V→V→Bool→Prop
  | ends {e r:V} (ty:Ty K H e) (h:amongV e 1 60=false):ClFit K H e r false
  | kind {n:Nat} {r:V} {t:Value} (h1:1≤n) (h2:n≤60) (ty:TyOf K H r t) (h:PySem.W.kitOne K t (.type "list")=some false):ClFit K H (.int n) r false
  | many {n:Nat} {a:Addr} {xs:List V} (h1:1≤n) (h2:n≤60) (ha:H a=some (.lst xs)) (h:xs.length=0∨60<xs.length):ClFit K H (.int n) (.ref a) false
  | rows {n:Nat} {a:Addr} {xs:List V} (h1:1≤n) (h2:n≤60) (ha:H a=some (.lst xs)) (l1:1≤xs.length) (l2:xs.length≤60) (ty:∀ x∈xs,Ty K H x):ClFit K H (.int n) (.ref a) (xs.all fun x=>amongV x 0 ((2 ^ n - 1:Nat):Int))
theorem ClFit.same {H H':Hp} {e r:V} {b:Bool} (h:ClFit K H e r b) (s:Same H H'):ClFit K H' e r b:=by
  cases h with
  | ends ty h=>exact .ends (ty.same s) h
  | kind h1 h2 ty h=>exact .kind h1 h2 (ty.same s) h
  | many h1 h2 ha h=>exact .many h1 h2 (s _ _ ha) h
  | rows h1 h2 ha l1 l2 ty=>exact .rows h1 h2 (s _ _ ha) l1 l2 fun x hx=>(ty x hx).same s
theorem ClFit.ok {H:Hp} {n:Nat} {a:Addr} {rs:List Nat} (ha:H a=some (.lst (rs.map nV))) (ok:ClOk n rs):ClFit K H (.int n) (.ref a) true:=by
  have e:((rs.map nV).all fun x=>amongV x 0 ((2 ^ n - 1:Nat):Int))=true:=by
    rw [List.all_eq_true]
    intro x hx
    obtain ⟨r,hr,rfl⟩:=List.mem_map.mp hx
    have:=ok.lt _ hr
    have hp:0<2 ^ n:=Nat.two_pow_pos n
    show (decide ((0:Int)≤(r:Nat))&&decide (((r:Nat):Int)≤((2 ^ n - 1:Nat):Int)))=true
    simp only [Bool.and_eq_true,decide_eq_true_eq]
    omega
  rw [← e]
  refine .rows ok.n1 ok.n2 ha (by rw [List.length_map];exact ok.p1) (by rw [List.length_map];exact ok.p2) fun x hx=> ?_
  obtain ⟨r,hr,rfl⟩:=List.mem_map.mp hx
  exact ⟨_, .int _⟩
noncomputable def sp_need_cloth (K:PySem.W.Frag) (c:Cs):Sp:=fun vs H Q E=>∃ (e r:V) (b:Bool),vs=[e,r]∧ClFit K H e r b∧∀ H',Same H H'→(b=true→Q .non H')∧(b=false→E (.ref c.BadCloth) none H')
theorem among_ok {n:Nat} (h1:1≤n) (h2:n≤60):amongV (.int n) 1 60=true:=by
  show (decide ((1:Int)≤n)&&decide ((n:Int)≤60))=true
  simp;omega
noncomputable abbrev s_need_cloth:Stmt:=top 21
theorem sc_need_cloth:FnScope ["ends","rows"] ["ends","rows"] (defScope s_need_cloth):=⟨rfl,rfl,rfl,by decide +kernel,rfl,by decide +kernel,by decide +kernel⟩
theorem ok_need_cloth {f:Addr} {fd:FuncData} (F:Fun K "need_cloth" "need_cloth" s_need_cloth f fd) (T:Txt K mg c) (c_is_among:CallF P w K mg base "is_among" 2 ["thing","least","most"] (sp_is_among K)) (c_mask_to:CallF P w K mg base "mask_to" 1 ["most"] sp_mask_to):FnOk P w K mg base (CXE P w) 3 f fd ["ends","rows"] (sp_need_cloth K c):=by
  refine Fun.okE F sc_need_cloth (fun vs H Q E h=> ?_) (fun cdv A outer s H vs Q E hr h=> ?_)
  · obtain ⟨e,r,b,rfl,_⟩:=h
    rfl
  · obtain ⟨e,r,b,rfl,hf,k⟩:=h
    have tye:Ty K H e:=by cases hf <;> first | assumption | exact ⟨_, .int _⟩
    refine ⟨_,(pss_cons (ps_if (pt_not (pt_val (pe_callF c_is_among hr (pa_cons (pv 0) (pa_cons pe_int (pa_cons (pe_gI T.k_MOST_ENDS) pa_nil)))))) (pss_one (ps_raiseK T.g_BadCloth T.xi_BadCloth (pa_cons pe_str pa_nil))) pss_nil)
      (pss_cons (ps_if (PW.pt (pw_or (pt_not (pt_val (pe_callB (k_isin (K:=K)) rfl (T.own _ (by decide)) boot_isinstance (pa_cons (pv 1) (pa_cons (pe_ty rfl (T.own _ (by decide)) boot_list') pa_nil))))) (pw_or1 (pt_not (pt_val (pe_callF c_is_among hr (pa_cons (pe_callB (k_len (K:=K)) rfl (T.own _ (by decide)) boot_len (pa_cons (pv 1) pa_nil)) (pa_cons pe_int (pa_cons (pe_gI T.k_MOST_PICKS) pa_nil))))))))) (pss_one (ps_raiseK T.g_BadCloth T.xi_BadCloth (pa_cons pe_str pa_nil))) pss_nil)
      (pss_one (ps_if (pt_not (pt_val (pe_callB (k_all (K:=K)) rfl (T.own _ (by decide)) boot_all' (pa_cons (pe_comp1 (k_pil (K:=K) (pv 1)) (fun _ _ _ _=>pts_nil) (fun _ _ _ _=>(pe_callF c_is_among hr (pa_cons (pv 0) (pa_cons pe_int (pa_cons (pe_callF c_mask_to (hr.mono (by decide)) (pa_cons (pv 1) pa_nil)) pa_nil)))))) pa_nil)))) (pss_one (ps_raiseK T.g_BadCloth T.xi_BadCloth (pa_cons pe_str pa_nil))) pss_nil)))),?_⟩
    walk_at "w"
    refine ⟨_,_,_,rfl,tye,?_⟩
    walk_at "w"
    cases hf with
    | ends ty h=>
      rw [h]
      refine iteT ?_
      exact ⟨by decide,(k H (Same.refl _)).2 rfl⟩
    | kind h1 h2 ty h=>
      rw [among_ok h1 h2]
      refine iteF ?_
      walk_at "w"
      refine rd_isin ty h ?_
      walk_at "w"
      exact ⟨by decide,(k H (Same.refl _)).2 rfl⟩
    | @many n a xs h1 h2 ha h=>
      rw [among_ok h1 h2]
      refine iteF ?_
      walk_at "w"
      refine rd_isin (.lst ha) (kb (b:=true) (by decide +kernel)) ?_
      walk_at "w"
      refine rd_lenL (SqL.of ha) ?_
      walk_at "w"
      refine ⟨_,_,_,rfl,⟨_, .int _⟩,?_⟩
      walk_at "w"
      have d2:amongV (.int (xs.length:Nat)) 1 60=false:=by
        show (decide ((1:Int)≤(xs.length:Nat))&&decide (((xs.length:Nat):Int)≤60))=false
        rw [Bool.and_eq_false_iff,decide_eq_false_iff_not,decide_eq_false_iff_not]
        omega
      rw [d2]
      refine iteT ?_
      exact ⟨by decide,(k H (Same.refl _)).2 rfl⟩
    | @rows n a xs h1 h2 ha l1 l2 ty=>
      rw [among_ok h1 h2]
      refine iteF ?_
      walk_at "w"
      refine rd_isin (.lst ha) (kb (b:=true) (by decide +kernel)) ?_
      walk_at "w"
      refine rd_lenL (SqL.of ha) ?_
      walk_at "w"
      refine ⟨_,_,_,rfl,⟨_, .int _⟩,?_⟩
      walk_at "w"
      rw [among_ok l1 l2]
      refine iteF ?_
      walk_at "w"
      refine ⟨a,rfl,⟨_,SqL.of ha⟩,fun D hD=> ?_⟩
      refine bls_comp (G:=fun i=>amongV (xs.getD i .non) 0 ((2 ^ n - 1:Nat):Int)) (src_list (SqL.of ha) rfl) hD (by omega) ?_ ?_
      · intro i H' R hi s kk
        walk_at "w"
        refine ⟨n,rfl,by omega,?_⟩
        walk_at "w"
        refine ⟨_,_,_,rfl,(ty _ ?_).same s,?_⟩
        · rw [List.getD_eq_getElem?_getD,List.getElem?_eq_getElem hi]
          exact List.getElem_mem hi
        exact kk H' (Same.refl _)
      · intro H' s hl
        walk_at "w"
        refine rd_all (SqL.of hl) ?_
        walk_at "w"
        have d4:((List.range xs.length).map fun i=>amongV (xs.getD i .non) 0 ((2 ^ n - 1:Nat):Int)).all id=xs.all fun x=>amongV x 0 ((2 ^ n - 1:Nat):Int):=by
          rw [map_range_getD (fun x:V=>amongV x 0 ((2 ^ n - 1:Nat):Int)) xs .non,List.all_map]
          rfl
        rw [d4]
        refine iteC (fun hb=> ?_) (fun hb=> ?_)
        · have hb:(xs.all fun x=>amongV x 0 ((2 ^ n - 1:Nat):Int))=false:=by simpa using hb
          exact ⟨by decide,(k H' s).2 hb⟩
        · have hb:(xs.all fun x=>amongV x 0 ((2 ^ n - 1:Nat):Int))=true:=by simpa using hb
          walk_at "w"
          exact (k H' s).1 hb
noncomputable def sp_Cloth___init__ (K:PySem.W.Frag) (c:Cs):Sp:=fun vs H Q E=>∃ (x dx:Addr) (e r:V),vs=[.ref x,e,r]∧H x=some (.ins c.Cloth dx [])∧
  ((ClFit K H e r false∧∀ H',Same H H'→E (.ref c.BadCloth) none H')∨
  (∃ (n:Nat) (a:Addr) (rs:List Nat),e= .int n∧r= .ref a∧H a=some (.lst (rs.map nV))∧ClOk n rs∧∀ H',(∀ b o,H b=some o→b≠x→H' b=some o)→ClAt c.Cloth H' x n rs→Q .non H'))
noncomputable abbrev s_Cloth___init__:Stmt:=inClass (top 22) 0
theorem sc_Cloth___init__:FnScope ["self","ends","rows"] ["self","ends","rows"] (defScope s_Cloth___init__):=⟨rfl,rfl,rfl,by decide +kernel,rfl,by decide +kernel,by decide +kernel⟩
theorem ok_Cloth___init__ {f:Addr} {fd:FuncData} (F:Fun K "__init__" "Cloth.__init__" s_Cloth___init__ f fd) (T:Txt K mg c) (c_need_cloth:CallE P w K mg base "need_cloth" 3 ["ends","rows"] (sp_need_cloth K c)):FnOk P w K mg base (CXE P w) 4 f fd ["self","ends","rows"] (sp_Cloth___init__ K c):=by
  refine Fun.okE F sc_Cloth___init__ (fun vs H Q E h=> ?_) (fun cdv A outer s H vs Q E hr h=> ?_)
  · obtain ⟨x,dx,e,r,rfl,_⟩:=h
    rfl
  · obtain ⟨x,dx,e,r,rfl,hx,h⟩:=h
    refine ⟨_,(pss_cons (ps_expr (pe_callE c_need_cloth hr passE (pa_cons (pv 1) (pa_cons (pv 2) pa_nil))))
      (pss_cons (ps_fld (pv 0) (pv 1) rfl)
      (pss_one (ps_fld (pv 0) (pe_callTy (k_tuple (K:=K)) rfl (T.own _ (by decide)) boot_tuple' (pa_cons (pv 2) pa_nil)) rfl)))),?_⟩
    walk_at "w"
    rcases h with ⟨hf,k⟩ | ⟨n,a,rs,rfl,rfl,ha,ok,k⟩
    · exact ⟨_,_,false,rfl,hf,fun H1 s1=>⟨fun z=>absurd z (by decide),fun _=>k H1 s1⟩⟩
    refine ⟨_,_,true,rfl, .ok ha ok,fun H1 s1=>⟨fun _=> ?_,fun z=>absurd z (by decide)⟩⟩
    walk_at "w"
    refine rd_set (s1 _ _ hx) T.kd_Cloth.cl T.na_Cloth_width (by decide) ?_
    walk_at "w"
    have nax:a≠x:=ne_of ha hx (by intro z;cases z)
    refine rd_tupOf (SqL.of (by rw [upd_ne nax];exact s1 _ _ ha)) fun t ht=> ?_
    walk_at "w"
    have nxt:x≠t:=ne_of_none upd_same ht
    refine rd_set (by rw [upd_ne nxt];exact upd_same) T.kd_Cloth.cl T.na_Cloth_rows (by show 1<1000;decide) ?_
    walk_at "w"
    refine k _ (fun b o e hb=> ?_) ⟨dx,t,upd_same,by rw [upd_ne (Ne.symm nxt),upd_same]⟩
    have hbt:b≠t:=fun z=>by
      subst z
      rw [upd_ne hb,s1 _ _ e] at ht
      cases ht
    rw [upd_ne hb,upd_ne hbt,upd_ne hb]
    exact s1 _ _ e
theorem cl_make {c:Cs} {H:Hp} {Q:VK} {E:XK} {n:Nat} {a:Addr} {rs:List Nat} (ha:H a=some (.lst (rs.map nV))) (ok:ClOk n rs) (h:∀ H' x,Same H H'→H x=none→ClAt c.Cloth H' x n rs→Q (.ref x) H'):
    ∀ x dx,H x=none→H dx=none→dx≠x→sp_Cloth___init__ K c [.ref x, .int n, .ref a] (upd (upd H dx (.own x)) x (.ins c.Cloth dx [])) (fun v H2=>v= .non∧Q (.ref x) H2) E:=by
  intro x dx hx hdx ne
  have s0:=same_obj (o:=HO.ins c.Cloth dx []) (u:= .own x) hx hdx
  exact ⟨x,dx,_,_,rfl,upd_same, .inr ⟨n,a,rs,rfl,rfl,s0 _ _ ha,ok,fun H' kp at'=>⟨rfl,h H' x (fun b o e=>kp b o (s0 b o e) (ne_of_none e hx)) hx at'⟩⟩⟩
theorem cl_mk {c:Cs} {H:Hp} {R:Addr→Hp→Prop} {E:XK} {n:Nat} {a:Addr} {rs:List Nat} (ha:H a=some (.lst (rs.map nV))) (ok:ClOk n rs) (h:∀ H' x,Same H H'→H x=none→ClAt c.Cloth H' x n rs→R x H'):
    ∀ x dx,H x=none→H dx=none→dx≠x→sp_Cloth___init__ K c [.ref x, .int n, .ref a] (upd (upd H dx (.own x)) x (.ins c.Cloth dx [])) (fun v H2=>v= .non∧R x H2) E:=by
  intro x dx hx hdx ne
  have s0:=same_obj (o:=HO.ins c.Cloth dx []) (u:= .own x) hx hdx
  exact ⟨x,dx,_,_,rfl,upd_same, .inr ⟨n,a,rs,rfl,rfl,s0 _ _ ha,ok,fun H' kp at'=>⟨rfl,h H' x (fun b o e=>kp b o (s0 b o e) (ne_of_none e hx)) hx at'⟩⟩⟩
noncomputable def sp_Cloth_told (c:Cs):Sp:=fun vs H Q _=>∃ x n rs,vs=[.ref x]∧ClAt c.Cloth H x n rs∧∀ H' p l,Same H H'→H p=none→H l=none→H' p=some (.tup [nV n, .ref l])→H' l=some (.lst (rs.map nV))→Q (.ref p) H'
noncomputable abbrev s_Cloth_told:Stmt:=inClass (top 22) 1
theorem sc_Cloth_told:FnScope ["self"] ["self"] (defScope s_Cloth_told):=⟨rfl,rfl,rfl,by decide +kernel,rfl,by decide +kernel,by decide +kernel⟩
theorem ok_Cloth_told {f:Addr} {fd:FuncData} (F:Fun K "told" "Cloth.told" s_Cloth_told f fd) (T:Txt K mg c):FnOk P w K mg base CX0 1 f fd ["self"] (sp_Cloth_told c):=by
  refine F.ok sc_Cloth_told (fun vs H Q E h=> ?_) (fun cdv A outer s H vs Q E hr h=> ?_)
  · obtain ⟨x,n,rs,rfl,_⟩:=h
    rfl
  · obtain ⟨x,n,rs,rfl,⟨dx,t,h1,h2⟩,k⟩:=h
    refine ⟨_,(pss_one (ps_ret (pe_tup (pa_cons (k_fld (K:=K) (pv 0) rfl) (pa_cons (pe_callTy (k_list (K:=K)) rfl (T.own _ (by decide)) boot_list' (pa_cons (k_fld (K:=K) (pv 0) rfl) pa_nil)) pa_nil))))),?_⟩
    walk_at "w"
    refine ⟨_,_,_,_,_,rfl,h1,T.kd_Cloth.cl,T.na_Cloth_width,rfl,?_⟩
    walk_at "w"
    refine ⟨_,_,_,_,_,rfl,h1,T.kd_Cloth.cl,T.na_Cloth_rows,rfl,?_⟩
    walk_at "w"
    refine rd_listOfT (SqT.of h2) fun l hl=> ?_
    walk_at "w"
    intro p hp
    refine k _ p l ((same_new hl).trans (same_new hp)) ((same_new hl).free hp) hl upd_same ?_
    rw [upd_ne (ne_of_none upd_same hp),upd_same]
noncomputable def sp_Cloth_ends (c:Cs):Sp:=fun vs H Q _=>∃ x n rs,vs=[.ref x]∧ClAt c.Cloth H x n rs∧Q (nV n) H
noncomputable abbrev s_Cloth_ends:Stmt:=inClass (top 22) 2
theorem sc_Cloth_ends:FnScope ["self"] ["self"] (defScope s_Cloth_ends):=⟨rfl,rfl,rfl,by decide +kernel,rfl,by decide +kernel,by decide +kernel⟩
theorem ok_Cloth_ends {f:Addr} {fd:FuncData} (F:Fun K "ends" "Cloth.ends" s_Cloth_ends f fd) (T:Txt K mg c):FnOk P w K mg base CX0 1 f fd ["self"] (sp_Cloth_ends c):=by
  refine F.ok sc_Cloth_ends (fun vs H Q E h=> ?_) (fun cdv A outer s H vs Q E hr h=> ?_)
  · obtain ⟨x,n,rs,rfl,_⟩:=h
    rfl
  · obtain ⟨x,n,rs,rfl,⟨dx,t,h1,h2⟩,k⟩:=h
    refine ⟨_,(pss_one (ps_ret (k_fld (K:=K) (pv 0) rfl))),?_⟩
    walk_at "w"
    exact ⟨_,_,_,_,_,rfl,h1,T.kd_Cloth.cl,T.na_Cloth_width,rfl,k⟩
noncomputable def sp_Cloth_picks (c:Cs):Sp:=fun vs H Q _=>∃ x n rs,vs=[.ref x]∧ClAt c.Cloth H x n rs∧Q (nV rs.length) H
noncomputable abbrev s_Cloth_picks:Stmt:=inClass (top 22) 3
theorem sc_Cloth_picks:FnScope ["self"] ["self"] (defScope s_Cloth_picks):=⟨rfl,rfl,rfl,by decide +kernel,rfl,by decide +kernel,by decide +kernel⟩
theorem ok_Cloth_picks {f:Addr} {fd:FuncData} (F:Fun K "picks" "Cloth.picks" s_Cloth_picks f fd) (T:Txt K mg c):FnOk P w K mg base CX0 1 f fd ["self"] (sp_Cloth_picks c):=by
  refine F.ok sc_Cloth_picks (fun vs H Q E h=> ?_) (fun cdv A outer s H vs Q E hr h=> ?_)
  · obtain ⟨x,n,rs,rfl,_⟩:=h
    rfl
  · obtain ⟨x,n,rs,rfl,⟨dx,t,h1,h2⟩,k⟩:=h
    refine ⟨_,(pss_one (ps_ret (pe_callB (k_len (K:=K)) rfl (T.own _ (by decide)) boot_len (pa_cons (k_fld (K:=K) (pv 0) rfl) pa_nil)))),?_⟩
    walk_at "w"
    refine ⟨_,_,_,_,_,rfl,h1,T.kd_Cloth.cl,T.na_Cloth_rows,rfl,?_⟩
    walk_at "w"
    refine rd_lenT (SqT.of h2) ?_
    rw [List.length_map]
    exact k
end
end K26
open L2
namespace K26
open PySem L2 PySem.Spec PyProof.Rows
seal L2.PE L2.PT L2.PW L2.PA L2.PS L2.PSs L2.PI L2.PG L2.PTs L2.PGs
section
variable {P:Program} {w:World} {K:PySem.W.Frag} {mg:Str→Option Value} {base:Heap} {c:Cs} {TT1 TT2:Addr}
structure KindF (K:PySem.W.Frag) (c:Cs) (C:Addr) (j:Nat):Prop where
  lt:j<8
  xk:HT.ExcKind K C
  k0:PySem.W.kitOne K (.ref C) (.ref c.BadRow)=some (decide (j=0))
  k1:PySem.W.kitOne K (.ref C) (.ref c.BadWord)=some (decide (j=1))
  k2:PySem.W.kitOne K (.ref C) (.ref c.TooMany)=some (decide (j=2))
  k3:PySem.W.kitOne K (.ref C) (.ref c.NotPlain)=some (decide (j=3))
  k4:PySem.W.kitOne K (.ref C) (.ref c.NotGrown)=some (decide (j=4))
  k5:PySem.W.kitOne K (.ref C) (.ref c.BadDraft)=some (decide (j=5))
  k6:PySem.W.kitOne K (.ref C) (.ref c.BadCloth)=some (decide (j=6))
  k7:PySem.W.kitOne K (.ref C) (.ref c.OutOfPlace)=some (decide (j=7))
  kv:PySem.W.kitOne K (.ref C) (.type "ValueError")=some true
noncomputable def nmK (j:Nat):Str:=[("row":Str),("word":Str),("many":Str),("plain":Str),("grown":Str),("draft":Str),("cloth":Str),("place":Str),("other":Str)].getD j ""
noncomputable def sp__law_kinds (K:PySem.W.Frag) (c:Cs):Sp:=fun vs H Q _=>∃ a C od j,vs=[.ref a]∧H a=some (excO a C od)∧KindF K c C j∧∀ H' l,Same H H'→H l=none→H' l=some (.lst [.str (nmK j)])→Q (.ref l) H'
theorem one_of (j:Nat) (h:j<8):((List.range 9).filter fun i=>decide (i=j)).map (fun i=>Dt.str (nmK i))=[nmK j].map Dt.str:=by
  match j,h with
  | 0,_=>rfl
  | 1,_=>rfl
  | 2,_=>rfl
  | 3,_=>rfl
  | 4,_=>rfl
  | 5,_=>rfl
  | 6,_=>rfl
  | 7,_=>rfl
noncomputable abbrev s__law_kinds:Stmt:=top 31
theorem sc__law_kinds:FnScope ["_law_error","_law_kinds_here"] ["_law_error"] (defScope s__law_kinds):=⟨rfl,rfl,rfl,by decide +kernel,rfl,by decide +kernel,by decide +kernel⟩
theorem ok__law_kinds {f:Addr} {fd:FuncData} (F:Fun K "_law_kinds" "_law_kinds" s__law_kinds f fd) (T:Txt K mg c):FnOk P w K mg base CX0 1 f fd ["_law_error"] (sp__law_kinds K c):=by
  refine F.ok sc__law_kinds (fun vs H Q E h=> ?_) (fun cdv A outer s H vs Q E hr h=> ?_)
  · obtain ⟨a,C,od,j,rfl,_⟩:=h
    rfl
  · obtain ⟨a,C,od,j,rfl,ha,F1,k⟩:=h
    refine ⟨_,(pss_cons (ps_set (i:=1) sc__law_kinds.nd rfl (Or.inl rfl) (pe_lst (pa_cons (pe_tup (pa_cons pe_str (pa_cons (pe_callB (k_isinE (K:=K)) rfl (T.own _ (by decide)) boot_isinstance (pa_cons (pv 0) (pa_cons (pe_gC T.g_BadRow) pa_nil))) pa_nil))) (pa_cons (pe_tup (pa_cons pe_str (pa_cons (pe_callB (k_isinE (K:=K)) rfl (T.own _ (by decide)) boot_isinstance (pa_cons (pv 0) (pa_cons (pe_gC T.g_BadWord) pa_nil))) pa_nil))) pa_nil))))
      (pss_cons (ps_set (i:=1) sc__law_kinds.nd rfl (Or.inl rfl) (pe_op (k_cat (K:=K)) (pv 1) (pe_lst (pa_cons (pe_tup (pa_cons pe_str (pa_cons (pe_callB (k_isinE (K:=K)) rfl (T.own _ (by decide)) boot_isinstance (pa_cons (pv 0) (pa_cons (pe_gC T.g_TooMany) pa_nil))) pa_nil))) (pa_cons (pe_tup (pa_cons pe_str (pa_cons (pe_callB (k_isinE (K:=K)) rfl (T.own _ (by decide)) boot_isinstance (pa_cons (pv 0) (pa_cons (pe_gC T.g_NotPlain) pa_nil))) pa_nil))) pa_nil)))))
      (pss_cons (ps_set (i:=1) sc__law_kinds.nd rfl (Or.inl rfl) (pe_op (k_cat (K:=K)) (pv 1) (pe_lst (pa_cons (pe_tup (pa_cons pe_str (pa_cons (pe_callB (k_isinE (K:=K)) rfl (T.own _ (by decide)) boot_isinstance (pa_cons (pv 0) (pa_cons (pe_gC T.g_NotGrown) pa_nil))) pa_nil))) (pa_cons (pe_tup (pa_cons pe_str (pa_cons (pe_callB (k_isinE (K:=K)) rfl (T.own _ (by decide)) boot_isinstance (pa_cons (pv 0) (pa_cons (pe_gC T.g_BadDraft) pa_nil))) pa_nil))) pa_nil)))))
      (pss_cons (ps_set (i:=1) sc__law_kinds.nd rfl (Or.inl rfl) (pe_op (k_cat (K:=K)) (pv 1) (pe_lst (pa_cons (pe_tup (pa_cons pe_str (pa_cons (pe_callB (k_isinE (K:=K)) rfl (T.own _ (by decide)) boot_isinstance (pa_cons (pv 0) (pa_cons (pe_gC T.g_BadCloth) pa_nil))) pa_nil))) (pa_cons (pe_tup (pa_cons pe_str (pa_cons (pe_callB (k_isinE (K:=K)) rfl (T.own _ (by decide)) boot_isinstance (pa_cons (pv 0) (pa_cons (pe_gC T.g_OutOfPlace) pa_nil))) pa_nil))) pa_nil)))))
      (pss_cons (ps_set (i:=1) sc__law_kinds.nd rfl (Or.inl rfl) (pe_op (k_cat (K:=K)) (pv 1) (pe_lst (pa_cons (pe_tup (pa_cons pe_str (pa_cons (pe_not (pe_callB (k_isinE (K:=K)) rfl (T.own _ (by decide)) boot_isinstance (pa_cons (pv 0) (pa_cons (pe_ty rfl (T.own _ (by decide)) boot_ValueError) pa_nil)))) pa_nil))) pa_nil))))
      (pss_one (ps_ret (pe_comp2 (K:=K) (k_pil (K:=K) (pv 1)) (fun _ _ _ _=>(pts_one (pt_val (pv 1)))) (fun _ _ _ _=>(pv 0)))))))))),?_⟩
    walk_at "w"
    refine rd_isinE ((Same.refl H) _ _ ha) F1.xk F1.k0 ?_
    walk_at "w"
    intro t_row ht_row
    have z1:=same_new (o:=HO.tup [V.str "row",V.bl (decide (j=0))]) ht_row
    have g_t_row:upd H t_row (HO.tup [V.str "row",V.bl (decide (j=0))]) t_row=_:=upd_same
    generalize upd H t_row (HO.tup [V.str "row",V.bl (decide (j=0))])=H1 at z1 g_t_row ⊢
    have y1:Same H H1:=(Same.refl H).trans z1
    walk_at "w"
    refine rd_isinE (y1 _ _ ha) F1.xk F1.k1 ?_
    walk_at "w"
    intro t_word ht_word
    have z2:=same_new (o:=HO.tup [V.str "word",V.bl (decide (j=1))]) ht_word
    have g_t_word:upd H1 t_word (HO.tup [V.str "word",V.bl (decide (j=1))]) t_word=_:=upd_same
    generalize upd H1 t_word (HO.tup [V.str "word",V.bl (decide (j=1))])=H2 at z2 g_t_word ⊢
    have y2:Same H H2:=y1.trans z2
    walk_at "w"
    intro l0 hl0
    have z3:=same_new (o:=HO.lst [V.ref t_row,V.ref t_word]) hl0
    have g_l0:upd H2 l0 (HO.lst [V.ref t_row,V.ref t_word]) l0=_:=upd_same
    generalize upd H2 l0 (HO.lst [V.ref t_row,V.ref t_word])=H3 at z3 g_l0 ⊢
    have y3:Same H H3:=y2.trans z3
    walk_at "w"
    refine rd_isinE (y3 _ _ ha) F1.xk F1.k2 ?_
    walk_at "w"
    intro t_many ht_many
    have z4:=same_new (o:=HO.tup [V.str "many",V.bl (decide (j=2))]) ht_many
    have g_t_many:upd H3 t_many (HO.tup [V.str "many",V.bl (decide (j=2))]) t_many=_:=upd_same
    generalize upd H3 t_many (HO.tup [V.str "many",V.bl (decide (j=2))])=H4 at z4 g_t_many ⊢
    have y4:Same H H4:=y3.trans z4
    walk_at "w"
    refine rd_isinE (y4 _ _ ha) F1.xk F1.k3 ?_
    walk_at "w"
    intro t_plain ht_plain
    have z5:=same_new (o:=HO.tup [V.str "plain",V.bl (decide (j=3))]) ht_plain
    have g_t_plain:upd H4 t_plain (HO.tup [V.str "plain",V.bl (decide (j=3))]) t_plain=_:=upd_same
    generalize upd H4 t_plain (HO.tup [V.str "plain",V.bl (decide (j=3))])=H5 at z5 g_t_plain ⊢
    have y5:Same H H5:=y4.trans z5
    walk_at "w"
    intro l1 hl1
    have z6:=same_new (o:=HO.lst [V.ref t_many,V.ref t_plain]) hl1
    have g_l1:upd H5 l1 (HO.lst [V.ref t_many,V.ref t_plain]) l1=_:=upd_same
    generalize upd H5 l1 (HO.lst [V.ref t_many,V.ref t_plain])=H6 at z6 g_l1 ⊢
    have y6:Same H H6:=y5.trans z6
    walk_at "w"
    refine rd_cat (SqL.of (z6 _ _ (z5 _ _ (z4 _ _ g_l0)))) (SqL.of g_l1) (by simp) fun m1 hm1=> ?_
    have z7:=same_new (o:=HO.lst ([V.ref t_row,V.ref t_word]++[V.ref t_many,V.ref t_plain])) hm1
    have g_m1:upd H6 m1 (HO.lst ([V.ref t_row,V.ref t_word]++[V.ref t_many,V.ref t_plain])) m1=some (.lst [V.ref t_row,V.ref t_word,V.ref t_many,V.ref t_plain]):=upd_same
    generalize upd H6 m1 (HO.lst ([V.ref t_row,V.ref t_word]++[V.ref t_many,V.ref t_plain]))=H7 at z7 g_m1 ⊢
    have y7:Same H H7:=y6.trans z7
    walk_at "w"
    refine rd_isinE (y7 _ _ ha) F1.xk F1.k4 ?_
    walk_at "w"
    intro t_grown ht_grown
    have z8:=same_new (o:=HO.tup [V.str "grown",V.bl (decide (j=4))]) ht_grown
    have g_t_grown:upd H7 t_grown (HO.tup [V.str "grown",V.bl (decide (j=4))]) t_grown=_:=upd_same
    generalize upd H7 t_grown (HO.tup [V.str "grown",V.bl (decide (j=4))])=H8 at z8 g_t_grown ⊢
    have y8:Same H H8:=y7.trans z8
    walk_at "w"
    refine rd_isinE (y8 _ _ ha) F1.xk F1.k5 ?_
    walk_at "w"
    intro t_draft ht_draft
    have z9:=same_new (o:=HO.tup [V.str "draft",V.bl (decide (j=5))]) ht_draft
    have g_t_draft:upd H8 t_draft (HO.tup [V.str "draft",V.bl (decide (j=5))]) t_draft=_:=upd_same
    generalize upd H8 t_draft (HO.tup [V.str "draft",V.bl (decide (j=5))])=H9 at z9 g_t_draft ⊢
    have y9:Same H H9:=y8.trans z9
    walk_at "w"
    intro l2 hl2
    have z10:=same_new (o:=HO.lst [V.ref t_grown,V.ref t_draft]) hl2
    have g_l2:upd H9 l2 (HO.lst [V.ref t_grown,V.ref t_draft]) l2=_:=upd_same
    generalize upd H9 l2 (HO.lst [V.ref t_grown,V.ref t_draft])=H10 at z10 g_l2 ⊢
    have y10:Same H H10:=y9.trans z10
    walk_at "w"
    refine rd_cat (SqL.of (z10 _ _ (z9 _ _ (z8 _ _ g_m1)))) (SqL.of g_l2) (by simp) fun m2 hm2=> ?_
    have z11:=same_new (o:=HO.lst ([V.ref t_row,V.ref t_word,V.ref t_many,V.ref t_plain]++[V.ref t_grown,V.ref t_draft])) hm2
    have g_m2:upd H10 m2 (HO.lst ([V.ref t_row,V.ref t_word,V.ref t_many,V.ref t_plain]++[V.ref t_grown,V.ref t_draft])) m2=some (.lst [V.ref t_row,V.ref t_word,V.ref t_many,V.ref t_plain,V.ref t_grown,V.ref t_draft]):=upd_same
    generalize upd H10 m2 (HO.lst ([V.ref t_row,V.ref t_word,V.ref t_many,V.ref t_plain]++[V.ref t_grown,V.ref t_draft]))=H11 at z11 g_m2 ⊢
    have y11:Same H H11:=y10.trans z11
    walk_at "w"
    refine rd_isinE (y11 _ _ ha) F1.xk F1.k6 ?_
    walk_at "w"
    intro t_cloth ht_cloth
    have z12:=same_new (o:=HO.tup [V.str "cloth",V.bl (decide (j=6))]) ht_cloth
    have g_t_cloth:upd H11 t_cloth (HO.tup [V.str "cloth",V.bl (decide (j=6))]) t_cloth=_:=upd_same
    generalize upd H11 t_cloth (HO.tup [V.str "cloth",V.bl (decide (j=6))])=H12 at z12 g_t_cloth ⊢
    have y12:Same H H12:=y11.trans z12
    walk_at "w"
    refine rd_isinE (y12 _ _ ha) F1.xk F1.k7 ?_
    walk_at "w"
    intro t_place ht_place
    have z13:=same_new (o:=HO.tup [V.str "place",V.bl (decide (j=7))]) ht_place
    have g_t_place:upd H12 t_place (HO.tup [V.str "place",V.bl (decide (j=7))]) t_place=_:=upd_same
    generalize upd H12 t_place (HO.tup [V.str "place",V.bl (decide (j=7))])=H13 at z13 g_t_place ⊢
    have y13:Same H H13:=y12.trans z13
    walk_at "w"
    intro l3 hl3
    have z14:=same_new (o:=HO.lst [V.ref t_cloth,V.ref t_place]) hl3
    have g_l3:upd H13 l3 (HO.lst [V.ref t_cloth,V.ref t_place]) l3=_:=upd_same
    generalize upd H13 l3 (HO.lst [V.ref t_cloth,V.ref t_place])=H14 at z14 g_l3 ⊢
    have y14:Same H H14:=y13.trans z14
    walk_at "w"
    refine rd_cat (SqL.of (z14 _ _ (z13 _ _ (z12 _ _ g_m2)))) (SqL.of g_l3) (by simp) fun m3 hm3=> ?_
    have z15:=same_new (o:=HO.lst ([V.ref t_row,V.ref t_word,V.ref t_many,V.ref t_plain,V.ref t_grown,V.ref t_draft]++[V.ref t_cloth,V.ref t_place])) hm3
    have g_m3:upd H14 m3 (HO.lst ([V.ref t_row,V.ref t_word,V.ref t_many,V.ref t_plain,V.ref t_grown,V.ref t_draft]++[V.ref t_cloth,V.ref t_place])) m3=some (.lst [V.ref t_row,V.ref t_word,V.ref t_many,V.ref t_plain,V.ref t_grown,V.ref t_draft,V.ref t_cloth,V.ref t_place]):=upd_same
    generalize upd H14 m3 (HO.lst ([V.ref t_row,V.ref t_word,V.ref t_many,V.ref t_plain,V.ref t_grown,V.ref t_draft]++[V.ref t_cloth,V.ref t_place]))=H15 at z15 g_m3 ⊢
    have y15:Same H H15:=y14.trans z15
    walk_at "w"
    refine rd_isinET (y15 _ _ ha) F1.xk F1.kv ?_
    walk_at "w"
    intro t_other ht_other
    have z16:=same_new (o:=HO.tup [V.str "other",V.bl (!true)]) ht_other
    have g_t_other:upd H15 t_other (HO.tup [V.str "other",V.bl (!true)]) t_other=some (.tup [V.str "other",V.bl false]):=upd_same
    generalize upd H15 t_other (HO.tup [V.str "other",V.bl (!true)])=H16 at z16 g_t_other ⊢
    have y16:Same H H16:=y15.trans z16
    walk_at "w"
    intro l4 hl4
    have z17:=same_new (o:=HO.lst [V.ref t_other]) hl4
    have g_l4:upd H16 l4 (HO.lst [V.ref t_other]) l4=_:=upd_same
    generalize upd H16 l4 (HO.lst [V.ref t_other])=H17 at z17 g_l4 ⊢
    have y17:Same H H17:=y16.trans z17
    walk_at "w"
    refine rd_cat (SqL.of (z17 _ _ (z16 _ _ g_m3))) (SqL.of g_l4) (by simp) fun m4 hm4=> ?_
    have z18:=same_new (o:=HO.lst ([V.ref t_row,V.ref t_word,V.ref t_many,V.ref t_plain,V.ref t_grown,V.ref t_draft,V.ref t_cloth,V.ref t_place]++[V.ref t_other])) hm4
    have g_m4:upd H17 m4 (HO.lst ([V.ref t_row,V.ref t_word,V.ref t_many,V.ref t_plain,V.ref t_grown,V.ref t_draft,V.ref t_cloth,V.ref t_place]++[V.ref t_other])) m4=some (.lst [V.ref t_row,V.ref t_word,V.ref t_many,V.ref t_plain,V.ref t_grown,V.ref t_draft,V.ref t_cloth,V.ref t_place,V.ref t_other]):=upd_same
    generalize upd H17 m4 (HO.lst ([V.ref t_row,V.ref t_word,V.ref t_many,V.ref t_plain,V.ref t_grown,V.ref t_draft,V.ref t_cloth,V.ref t_place]++[V.ref t_other]))=H18 at z18 g_m4 ⊢
    have y18:Same H H18:=y17.trans z18
    walk_at "w"
    refine ⟨m4,rfl,⟨_,SqL.of g_m4⟩,fun D hD=> ?_⟩
    have pr:∀ i,i<9→∃ b,[V.ref t_row,V.ref t_word,V.ref t_many,V.ref t_plain,V.ref t_grown,V.ref t_draft,V.ref t_cloth,V.ref t_place,V.ref t_other].getD i V.non= .ref b∧H18 b=some (.tup [([(V.str "row",V.bl (decide (j=0))),(V.str "word",V.bl (decide (j=1))),(V.str "many",V.bl (decide (j=2))),(V.str "plain",V.bl (decide (j=3))),(V.str "grown",V.bl (decide (j=4))),(V.str "draft",V.bl (decide (j=5))),(V.str "cloth",V.bl (decide (j=6))),(V.str "place",V.bl (decide (j=7))),(V.str "other",V.bl false)].getD i (V.non,V.non)).1,([(V.str "row",V.bl (decide (j=0))),(V.str "word",V.bl (decide (j=1))),(V.str "many",V.bl (decide (j=2))),(V.str "plain",V.bl (decide (j=3))),(V.str "grown",V.bl (decide (j=4))),(V.str "draft",V.bl (decide (j=5))),(V.str "cloth",V.bl (decide (j=6))),(V.str "place",V.bl (decide (j=7))),(V.str "other",V.bl false)].getD i (V.non,V.non)).2]):=by
      intro i hi
      match i,hi with
      | 0,_=>exact ⟨t_row,rfl,(z18 _ _ (z17 _ _ (z16 _ _ (z15 _ _ (z14 _ _ (z13 _ _ (z12 _ _ (z11 _ _ (z10 _ _ (z9 _ _ (z8 _ _ (z7 _ _ (z6 _ _ (z5 _ _ (z4 _ _ (z3 _ _ (z2 _ _ g_t_row)))))))))))))))))⟩
      | 1,_=>exact ⟨t_word,rfl,(z18 _ _ (z17 _ _ (z16 _ _ (z15 _ _ (z14 _ _ (z13 _ _ (z12 _ _ (z11 _ _ (z10 _ _ (z9 _ _ (z8 _ _ (z7 _ _ (z6 _ _ (z5 _ _ (z4 _ _ (z3 _ _ g_t_word))))))))))))))))⟩
      | 2,_=>exact ⟨t_many,rfl,(z18 _ _ (z17 _ _ (z16 _ _ (z15 _ _ (z14 _ _ (z13 _ _ (z12 _ _ (z11 _ _ (z10 _ _ (z9 _ _ (z8 _ _ (z7 _ _ (z6 _ _ (z5 _ _ g_t_many))))))))))))))⟩
      | 3,_=>exact ⟨t_plain,rfl,(z18 _ _ (z17 _ _ (z16 _ _ (z15 _ _ (z14 _ _ (z13 _ _ (z12 _ _ (z11 _ _ (z10 _ _ (z9 _ _ (z8 _ _ (z7 _ _ (z6 _ _ g_t_plain)))))))))))))⟩
      | 4,_=>exact ⟨t_grown,rfl,(z18 _ _ (z17 _ _ (z16 _ _ (z15 _ _ (z14 _ _ (z13 _ _ (z12 _ _ (z11 _ _ (z10 _ _ (z9 _ _ g_t_grown))))))))))⟩
      | 5,_=>exact ⟨t_draft,rfl,(z18 _ _ (z17 _ _ (z16 _ _ (z15 _ _ (z14 _ _ (z13 _ _ (z12 _ _ (z11 _ _ (z10 _ _ g_t_draft)))))))))⟩
      | 6,_=>exact ⟨t_cloth,rfl,(z18 _ _ (z17 _ _ (z16 _ _ (z15 _ _ (z14 _ _ (z13 _ _ g_t_cloth))))))⟩
      | 7,_=>exact ⟨t_place,rfl,(z18 _ _ (z17 _ _ (z16 _ _ (z15 _ _ (z14 _ _ g_t_place)))))⟩
      | 8,_=>exact ⟨t_other,rfl,(z18 _ _ (z17 _ _ g_t_other))⟩
    have lt:=F1.lt
    refine comp_data (m:=0) (p:=fun i=>decide (i=j)) (G:=fun i=> .str (nmK i)) (src_pairs (ps:=[(V.str "row",V.bl (decide (j=0))),(V.str "word",V.bl (decide (j=1))),(V.str "many",V.bl (decide (j=2))),(V.str "plain",V.bl (decide (j=3))),(V.str "grown",V.bl (decide (j=4))),(V.str "draft",V.bl (decide (j=5))),(V.str "cloth",V.bl (decide (j=6))),(V.str "place",V.bl (decide (j=7))),(V.str "other",V.bl false)]) (SqL.of g_m4) pr rfl rfl) hD (by simp) ?_ ?_ ?_
    · intro i H' R hi s kk
      have hi9:i<9:=hi
      match i,hi9 with
      | 0,_=>walk_at "w";exact ⟨_,rfl,by have e:decide (j=0)=decide (0=j):=decide_eq_decide.mpr eq_comm;rw [e];exact kk H' (Same.refl _)⟩
      | 1,_=>walk_at "w";exact ⟨_,rfl,by have e:decide (j=1)=decide (1=j):=decide_eq_decide.mpr eq_comm;rw [e];exact kk H' (Same.refl _)⟩
      | 2,_=>walk_at "w";exact ⟨_,rfl,by have e:decide (j=2)=decide (2=j):=decide_eq_decide.mpr eq_comm;rw [e];exact kk H' (Same.refl _)⟩
      | 3,_=>walk_at "w";exact ⟨_,rfl,by have e:decide (j=3)=decide (3=j):=decide_eq_decide.mpr eq_comm;rw [e];exact kk H' (Same.refl _)⟩
      | 4,_=>walk_at "w";exact ⟨_,rfl,by have e:decide (j=4)=decide (4=j):=decide_eq_decide.mpr eq_comm;rw [e];exact kk H' (Same.refl _)⟩
      | 5,_=>walk_at "w";exact ⟨_,rfl,by have e:decide (j=5)=decide (5=j):=decide_eq_decide.mpr eq_comm;rw [e];exact kk H' (Same.refl _)⟩
      | 6,_=>walk_at "w";exact ⟨_,rfl,by have e:decide (j=6)=decide (6=j):=decide_eq_decide.mpr eq_comm;rw [e];exact kk H' (Same.refl _)⟩
      | 7,_=>walk_at "w";exact ⟨_,rfl,by have e:decide (j=7)=decide (7=j):=decide_eq_decide.mpr eq_comm;rw [e];exact kk H' (Same.refl _)⟩
      | 8,_=>walk_at "w";exact ⟨_,rfl,by have e:false=decide (8=j):=(decide_eq_false (by omega)).symm;rw [e];exact kk H' (Same.refl _)⟩
    · intro i H' R hi hp s kk
      have hi9:i<9:=hi
      match i,hi9 with
      | 0,_=>walk_at "w";exact kk H' _ (Same.refl _) (.str _)
      | 1,_=>walk_at "w";exact kk H' _ (Same.refl _) (.str _)
      | 2,_=>walk_at "w";exact kk H' _ (Same.refl _) (.str _)
      | 3,_=>walk_at "w";exact kk H' _ (Same.refl _) (.str _)
      | 4,_=>walk_at "w";exact kk H' _ (Same.refl _) (.str _)
      | 5,_=>walk_at "w";exact kk H' _ (Same.refl _) (.str _)
      | 6,_=>walk_at "w";exact kk H' _ (Same.refl _) (.str _)
      | 7,_=>walk_at "w";exact kk H' _ (Same.refl _) (.str _)
      | 8,_=>walk_at "w";exact kk H' _ (Same.refl _) (.str _)
    · intro H' ys s hl r
      have e9:=one_of j lt
      have r:Rp _ _ _ _ (.lst (((List.range 9).filter fun i=>decide (i=j)).map (fun i=>Dt.str (nmK i)))):=r
      rw [e9] at r
      obtain ⟨b,eb,hb,_⟩:=dS_of (zs:=[nmK j]) r
      cases eb
      exact k H' D (y18.trans s) (y18.free hD) hb
end
end K26
open L2
namespace K26
open PySem L2 PySem.Spec PyProof.Rows
seal L2.PE L2.PT L2.PW L2.PA L2.PS L2.PSs L2.PI L2.PG L2.PTs L2.PGs
section
variable {P:Program} {w:World} {K:PySem.W.Frag} {mg:Str→Option Value} {base:Heap} {c:Cs} {TT1 TT2:Addr}
noncomputable def sp_NotGrown (c:Cs):Sp:=fun vs H Q _=>∃ (a:Addr) (r m:Nat),vs=[.ref a,nV r,nV m]∧H a=some (xnO a c.NotGrown none)∧r<1000∧m<1000∧
  ∀ dx H',H dx=none→(∀ b o,H b=some o→b≠a→H' b=some o)→H' a=some (xnO a c.NotGrown (some dx))→H' dx=some (xdO dx [("row",nV r),("column",nV m)])→Q .non H'
theorem small_log {n:Nat} (h:n<1000):((n:Nat):Int).natAbs.log2<1920:=by
  have:Nat.log2 n≤n:=Nat.log2_le_self n
  show Nat.log2 n<1920
  omega
noncomputable abbrev s_NotGrown___init__:Stmt:=inClass (top 9) 0
theorem sc_NotGrown___init__:FnScope ["self","row","column"] ["self","row","column"] (defScope s_NotGrown___init__):=⟨rfl,rfl,rfl,by decide +kernel,rfl,by decide +kernel,by decide +kernel⟩
theorem ok_NotGrown___init__ {f:Addr} {fd:FuncData} (F:Fun K "__init__" "NotGrown.__init__" s_NotGrown___init__ f fd) (T:Txt K mg c):FnOk P w K mg base CX0 1 f fd ["self","row","column"] (sp_NotGrown c):=by
  refine F.ok sc_NotGrown___init__ (fun vs H Q E h=> ?_) (fun cdv A outer s H vs Q E hr h=> ?_)
  · obtain ⟨a,r,m,rfl,_⟩:=h
    rfl
  · obtain ⟨a,r,m,rfl,ha,hr1,hm1,k⟩:=h
    refine ⟨_,(pss_cons (ps_expr (pe_xinit (K:=K) T.g_LoomError T.xb_LoomError (pa_cons (pv 0) (pa_cons (pe_joined (pes_cons pe_str (pes_cons (pe_fmt (pv 1)) (pes_cons pe_str (pes_cons (pe_fmt (pv 2)) pes_nil))))) pa_nil))))
      (pss_cons (ps_xfld (K:=K) (pv 0) (pv 1) rfl)
      (pss_one (ps_xfld (K:=K) (pv 0) (pv 2) rfl)))),?_⟩
    walk_at "w"
    refine rd_xinit ?_
    walk_at "w"
    refine rd_join ?_
    walk_at "w"
    have hl1:=MN.num_len (i:=((r:Nat):Int)) (by omega) (by omega)
    have hl2:=MN.num_len (i:=((m:Nat):Int)) (by omega) (by omega)
    have h0:(Str.empty).length=0:=by decide +kernel
    have h2:(Str.ofString "neither block stands at row ").length=28:=by decide +kernel
    have h3:(Str.ofString ", column ").length=9:=by decide +kernel
    refine ⟨_,rfl,?_,?_⟩
    · rw [strLen_append]
      omega
    refine rd_join ?_
    refine rd_fmt ?_
    walk_at "w"
    refine .inl ⟨_,rfl,small_log hr1,_,rfl,?_,?_⟩
    · rw [strLen_append,strLen_append]
      omega
    refine rd_join ?_
    walk_at "w"
    refine ⟨_,rfl,?_,?_⟩
    · rw [strLen_append,strLen_append,strLen_append]
      omega
    refine rd_join ?_
    refine rd_fmt ?_
    walk_at "w"
    refine .inl ⟨_,rfl,small_log hm1,_,rfl,?_,?_⟩
    · rw [strLen_append,strLen_append,strLen_append,strLen_append]
      omega
    refine rd_joined ?_
    walk_at "w"
    obtain ⟨fi,hfi⟩:=T.xj_NotGrown
    refine ⟨a,_,_,fi,_,rfl,ha,hfi,?_⟩
    dsimp only
    refine rd_seq ?_
    refine rd_xset ?_
    walk_at "w"
    refine ⟨a,_,_,rfl,ha,T.xs_NotGrown,taker_none T.xf_NotGrown_row, .inl ⟨rfl,fun dx hdx=> ?_⟩⟩
    dsimp only
    refine rd_xset ?_
    walk_at "w"
    have nd:dx≠a:=fun z=>by rw [z,ha] at hdx;cases hdx
    refine ⟨a,_,_,rfl,upd_same,T.xs_NotGrown,taker_none T.xf_NotGrown_column, .inr ⟨dx,_,rfl,by rw [upd_ne nd,upd_same],by show 1<1000;decide,?_⟩⟩
    refine k dx _ hdx (fun b o e nb=> ?_) ?_ upd_same
    · have n2:b≠dx:=fun z=>by rw [z,hdx] at e;cases e
      rw [upd_ne n2,upd_ne nb,upd_ne n2]
      exact e
    · rw [upd_ne (Ne.symm nd),upd_same]
theorem bar_ne {a b:Addr} {H:Hp} (h:b≠a):bar a H b=H b:=if_neg h
theorem grown_raised {c:Cs} {H:Hp} {E:XK} {r m:Nat} (hr:r<1000) (hm:m<1000) (h:∀ H' dx,Same H H'→H' dx=some (xdO dx [("row",nV r),("column",nV m)])→E (.ref c.NotGrown) (some dx) H'):
    ([nV r,nV m]:List V).length≤900∧∀ a,H a=none→sp_NotGrown c (.ref a::[nV r,nV m]) (upd H a (xnO a c.NotGrown none)) (fun v H2=>v= .non∧∃ od,H2 a=some (xnO a c.NotGrown od)∧E (.ref c.NotGrown) od (bar a H2)) E0:=by
  refine ⟨by simp,fun a ha=>⟨a,r,m,rfl,upd_same,hr,hm,fun dx H' hdx kp ea ed=>⟨rfl,some dx,ea,?_⟩⟩⟩
  have nd:dx≠a:=fun z=>by rw [z,upd_same] at hdx;cases hdx
  refine h _ dx (fun b o e=> ?_) ?_
  · have nb:b≠a:=fun z=>by rw [z,ha] at e;cases e
    rw [bar_ne nb]
    exact kp b o (by rw [upd_ne nb];exact e) nb
  · rw [bar_ne nd]
    exact ed
noncomputable def sp_need_like_sizes (c:Cs):Sp:=fun vs H Q E=>∃ x y n m rs ss,vs=[.ref x, .ref y]∧ClAt c.Cloth H x n rs∧ClAt c.Cloth H y m ss∧(n=m∧rs.length=ss.length→Q .non H)∧(¬ (n=m∧rs.length=ss.length)→E (.ref c.BadCloth) none H)
noncomputable abbrev s_need_like_sizes:Stmt:=top 24
theorem sc_need_like_sizes:FnScope ["on","off"] ["on","off"] (defScope s_need_like_sizes):=⟨rfl,rfl,rfl,by decide +kernel,rfl,by decide +kernel,by decide +kernel⟩
theorem ok_need_like_sizes {f:Addr} {fd:FuncData} (F:Fun K "need_like_sizes" "need_like_sizes" s_need_like_sizes f fd) (T:Txt K mg c) (d_Cloth_ends:MethF P w K mg base c.Cloth "ends" 1 ["self"] (sp_Cloth_ends c)) (d_Cloth_picks:MethF P w K mg base c.Cloth "picks" 1 ["self"] (sp_Cloth_picks c)):FnOk P w K mg base (CXE P w) 2 f fd ["on","off"] (sp_need_like_sizes c):=by
  refine Fun.okE F sc_need_like_sizes (fun vs H Q E h=> ?_) (fun cdv A outer s H vs Q E hr h=> ?_)
  · obtain ⟨x,y,n,m,rs,ss,rfl,_⟩:=h
    rfl
  · obtain ⟨x,y,n,m,rs,ss,rfl,cx,cy,kq,ke⟩:=h
    obtain ⟨dx,tx,hx,_⟩:=id cx
    obtain ⟨dy,ty,hy,_⟩:=id cy
    refine ⟨_,(pss_one (ps_if (PW.pt (pw_or (pt_cmpR op_ne (pe_methF0 (pv 0) d_Cloth_ends hr) (pe_methF0 (pv 1) d_Cloth_ends hr) (nomark _)) (pw_or1 (pt_cmpR op_ne (pe_methF0 (pv 0) d_Cloth_picks hr) (pe_methF0 (pv 1) d_Cloth_picks hr) (nomark _))))) (pss_one (ps_raiseK T.g_BadCloth T.xi_BadCloth (pa_cons pe_str pa_nil))) pss_nil)),?_⟩
    walk_at "w"
    refine ⟨_,_,_,rfl,hx,rfl,?_⟩
    walk_at "w"
    refine ⟨x,n,rs,rfl,cx,?_⟩
    walk_at "w"
    refine ⟨_,_,_,rfl,hy,rfl,?_⟩
    walk_at "w"
    refine ⟨y,m,ss,rfl,cy,?_⟩
    walk_at "w"
    by_cases e1:n=m
    · rw [decide_eq_true (by omega)]
      refine iteF ?_
      walk_at "w"
      refine ⟨_,_,_,rfl,hx,rfl,?_⟩
      walk_at "w"
      refine ⟨x,n,rs,rfl,cx,?_⟩
      walk_at "w"
      refine ⟨_,_,_,rfl,hy,rfl,?_⟩
      walk_at "w"
      refine ⟨y,m,ss,rfl,cy,?_⟩
      walk_at "w"
      by_cases e2:rs.length=ss.length
      · rw [decide_eq_true (by omega)]
        refine iteF ?_
        walk_at "w"
        exact kq ⟨e1,e2⟩
      · rw [decide_eq_false (by omega)]
        refine iteT ?_
        exact ⟨by decide,ke fun z=>e2 z.2⟩
    · rw [decide_eq_false (by omega)]
      refine iteT ?_
      walk_at "w"
      exact ⟨by decide,ke fun z=>e1 z.1⟩
noncomputable def partN (rs:List Nat) (w h r c:Nat):List Nat:=((rs.take ((r+1)*h)).drop (r*h)).map fun p=>(p >>> (w*c)) &&& (2 ^ w - 1)
theorem partN_len (rs:List Nat) (w h r c:Nat):(partN rs w h r c).length≤rs.length:=by
  unfold partN
  rw [List.length_map,List.length_drop,List.length_take]
  omega
theorem shr_nat (m s:Nat):((m:Nat):Int) / 2 ^ ((s:Nat):Int).toNat=((m >>> s:Nat):Int):=by
  rw [Int.toNat_natCast,Nat.shiftRight_eq_div_pow]
  push_cast
  rfl
noncomputable def sp_rows_at (c:Cs):Sp:=fun vs H Q _=>∃ x n rs,∃ r cc w' h':Nat,vs=[.ref x,nV (r+1),nV (cc+1),nV w',nV h']∧ClAt c.Cloth H x n rs∧ClOk n rs∧r≤60∧cc≤60∧w'≤60∧h'≤60∧∀ H' t,Same H H'→H' t=some (.tup ((partN rs w' h' r cc).map nV))→Q (.ref t) H'
noncomputable abbrev s_rows_at:Stmt:=top 25
theorem sc_rows_at:FnScope ["cloth","row","column","wide","high","picks"] ["cloth","row","column","wide","high"] (defScope s_rows_at):=⟨rfl,rfl,rfl,by decide +kernel,rfl,by decide +kernel,by decide +kernel⟩
theorem ok_rows_at {f:Addr} {fd:FuncData} (F:Fun K "rows_at" "rows_at" s_rows_at f fd) (T:Txt K mg c) (c_mask_to:CallF P w K mg base "mask_to" 1 ["most"] sp_mask_to):FnOk P w K mg base CX0 2 f fd ["cloth","row","column","wide","high"] (sp_rows_at c):=by
  refine F.ok sc_rows_at (fun vs H Q E h=> ?_) (fun cdv A outer s H vs Q E hr h=> ?_)
  · obtain ⟨x,n,rs,r,cc,w',h',rfl,_⟩:=h
    rfl
  · obtain ⟨x,n,rs,r,cc,w',h',rfl,cx,ok,hr',hc,hw,hh,k⟩:=h
    obtain ⟨dx,tx,hx,htx⟩:=id cx
    have p2:=ok.p2
    refine ⟨_,(pss_cons (ps_set (i:=5) sc_rows_at.nd rfl (Or.inl rfl) (pe_slice (k_slt (K:=K)) (k_fld (K:=K) (pv 0) rfl) (po_some (pe_op op_mul (pe_op op_sub (pv 1) pe_int) (pv 4))) (po_some (pe_op op_mul (pv 1) (pv 4)))))
      (pss_one (ps_ret (pe_callTy (k_tuple (K:=K)) rfl (T.own _ (by decide)) boot_tuple' (pa_cons (pe_comp1 (k_pit (K:=K) (pv 5)) (fun _ _ _ _=>pts_nil) (fun _ _ _ _=>(pe_op op_and (pe_op op_shr (pv 0) (pe_op op_mul (pv 2) (pe_op op_sub (pv 1) pe_int))) (pe_callF c_mask_to hr (pa_cons (pv 2) pa_nil))))) pa_nil))))),?_⟩
    have e1:(((r+1:Nat):Int) - 1)*((h':Nat):Int)=((r*h':Nat):Int):=by
      rw [show ((r+1:Nat):Int) - 1=((r:Nat):Int) by omega]
      push_cast
      rfl
    have e2:((r+1:Nat):Int)*((h':Nat):Int)=(((r+1)*h':Nat):Int):=by
      push_cast
      rfl
    have e3:((w':Nat):Int)*(((cc+1:Nat):Int) - 1)=((w'*cc:Nat):Int):=by
      rw [show ((cc+1:Nat):Int) - 1=((cc:Nat):Int) by omega]
      push_cast
      rfl
    have b3:w'*cc≤3600:=Nat.mul_le_mul hw hc
    have m1:r*h'≤(r+1)*h':=Nat.mul_le_mul_right _ (by omega)
    walk_at "w"
    refine ⟨_,_,_,_,_,rfl,hx,T.kd_Cloth.cl,T.na_Cloth_rows,rfl,?_⟩
    walk_at "w"
    refine rd_rI (.inl ⟨by omega,by omega⟩) ?_
    rw [e1]
    walk_at "w"
    refine rd_rI (.inl ⟨by omega,by omega⟩) ?_
    rw [e2]
    walk_at "w"
    refine rd_slN (SqT.of htx) fun H1 p s1 hp=> ?_
    rw [cut_mid (by omega) (by omega),Int.toNat_natCast,Int.toNat_natCast, ← List.map_take, ← List.map_drop] at hp
    have lq:((rs.take ((r+1)*h')).drop (r*h')).length≤60:=by
      rw [List.length_drop,List.length_take]
      omega
    generalize hps:(rs.take ((r+1)*h')).drop (r*h')=ps at hp lq
    walk_at "w"
    refine ⟨p,rfl,⟨_,hp⟩,fun D hD=> ?_⟩
    refine ints_comp (G:=fun i=>(((ps.getD i 0 >>> (w'*cc)) &&& (2 ^ w' - 1):Nat):Int)) (src_tup hp rfl) hD (by rw [List.length_map];omega) ?_ ?_
    · intro i H' R hi s kk
      rw [getD_nat hi]
      walk_at "w"
      refine rd_rI (.inl ⟨by omega,by omega⟩) ?_
      rw [e3]
      walk_at "w"
      refine rd_rI (by show (0:Int)≤_;omega) ?_
      rw [shr_nat]
      walk_at "w"
      refine ⟨w',rfl,by omega,?_⟩
      walk_at "w"
      rw [bA]
      exact kk H' (Same.refl _)
    · intro H' s hl
      walk_at "w"
      refine rd_tupOf (SqL.of hl) fun t ht=> ?_
      walk_at "w"
      refine k _ t (s1.trans (s.trans (same_new ht))) ?_
      rw [upd_same]
      unfold partN
      rw [hps,List.length_map,List.map_map,List.map_map, ← map_range_getD (nV∘fun p=>(p >>> (w'*cc)) &&& (2 ^ w' - 1)) ps 0]
      rfl
noncomputable def BadAt (rs on off:List Nat) (w h r c:Nat):Prop:=partN rs w h r c≠on∧partN rs w h r c≠off
noncomputable def sp_is_on (c:Cs):Sp:=fun vs H Q E=>∃ x n rs y nO on z nF off,∃ r cc:Nat,vs=[.ref x,nV (r+1),nV (cc+1), .ref y, .ref z]∧ClAt c.Cloth H x n rs∧ClAt c.Cloth H y nO on∧ClAt c.Cloth H z nF off∧ClOk n rs∧ClOk nO on∧ClOk nF off∧r≤60∧cc≤60∧
  (¬ BadAt rs on off nO on.length r cc→∀ H',Same H H'→Q (.bl (decide (partN rs nO on.length r cc=on))) H')∧
  (BadAt rs on off nO on.length r cc→∀ H' dx,Same H H'→H' dx=some (xdO dx [("row",nV (r+1)),("column",nV (cc+1))])→E (.ref c.NotGrown) (some dx) H')
noncomputable abbrev s_is_on:Stmt:=top 26
theorem sc_is_on:FnScope ["cloth","row","column","on","off","rows"] ["cloth","row","column","on","off"] (defScope s_is_on):=⟨rfl,rfl,rfl,by decide +kernel,rfl,by decide +kernel,by decide +kernel⟩
theorem ok_is_on {f:Addr} {fd:FuncData} (F:Fun K "is_on" "is_on" s_is_on f fd) (T:Txt K mg c) (c_rows_at:CallF P w K mg base "rows_at" 2 ["cloth","row","column","wide","high"] (sp_rows_at c)) (d_Cloth_ends:MethF P w K mg base c.Cloth "ends" 1 ["self"] (sp_Cloth_ends c)) (d_Cloth_picks:MethF P w K mg base c.Cloth "picks" 1 ["self"] (sp_Cloth_picks c)) (m_NotGrown:RaiseI P w K mg base "NotGrown" c.NotGrown 1 ["self","row","column"] (sp_NotGrown c)):FnOk P w K mg base (CXE P w) 3 f fd ["cloth","row","column","on","off"] (sp_is_on c):=by
  refine Fun.okE F sc_is_on (fun vs H Q E h=> ?_) (fun cdv A outer s H vs Q E hr h=> ?_)
  · obtain ⟨x,n,rs,y,nO,on,z,nF,off,r,cc,rfl,_⟩:=h
    rfl
  · obtain ⟨x,n,rs,y,nO,on,z,nF,off,r,cc,rfl,cx,cy,cz,okx,oky,okz,hr',hc,kq,ke⟩:=h
    obtain ⟨dy,ty,hy,hty⟩:=id cy
    obtain ⟨dz,tz,hz,htz⟩:=id cz
    have pl:=partN_len rs nO on.length r cc
    have p1:=okx.p2
    have p2:=oky.p2
    have p3:=okz.p2
    refine ⟨_,(pss_cons (ps_set (i:=5) sc_is_on.nd rfl (Or.inl rfl) (pe_callF c_rows_at hr (pa_cons (pv 0) (pa_cons (pv 1) (pa_cons (pv 2) (pa_cons (pe_methF0 (pv 3) d_Cloth_ends (hr.mono (by decide))) (pa_cons (pe_methF0 (pv 3) d_Cloth_picks (hr.mono (by decide))) pa_nil)))))))
      (pss_cons (ps_if (PW.pt (pw_and (pt_cmpR (op_neD hr.units) (pv 5) (k_fld (K:=K) (pv 3) rfl) (nomark _)) (pw_and1 (pt_cmpR (op_neD hr.units) (pv 5) (k_fld (K:=K) (pv 4) rfl) (nomark _))))) (pss_one (ps_raiseJ m_NotGrown hr (pa_cons (pv 1) (pa_cons (pv 2) pa_nil)))) pss_nil)
      (pss_one (ps_ret (pe_cmpR (op_eqD hr.units) (pv 5) (k_fld (K:=K) (pv 3) rfl) (nomark _)))))),?_⟩
    walk_at "w"
    refine ⟨_,_,_,rfl,hy,rfl,?_⟩
    walk_at "w"
    refine ⟨y,nO,on,rfl,cy,?_⟩
    walk_at "w"
    refine ⟨_,_,_,rfl,hy,rfl,?_⟩
    walk_at "w"
    refine ⟨y,nO,on,rfl,cy,?_⟩
    walk_at "w"
    refine ⟨x,n,rs,r,cc,nO,on.length,rfl,cx,okx,hr',hc,oky.n2,oky.p2,fun H1 t s1 ht=> ?_⟩
    have qy:=s1 _ _ hy
    have qz:=s1 _ _ hz
    have rT:=rp_T (F:=fun _=>True) (n:=0) ht (by omega)
    have rY:=rp_T (F:=fun _=>True) (n:=0) (s1 _ _ hty) (by omega)
    have rZ:=rp_T (F:=fun _=>True) (n:=0) (s1 _ _ htz) (by omega)
    walk_at "w"
    refine ⟨_,_,_,_,_,rfl,qy,T.kd_Cloth.cl,T.na_Cloth_rows,rfl,?_⟩
    walk_at "w"
    refine ⟨1,_,_,by decide,rT,rY,rfl,?_⟩
    rw [eqD_dT]
    by_cases h1:partN rs nO on.length r cc=on
    · rw [decide_eq_true h1]
      refine ⟨false,rfl,?_⟩
      refine iteF ?_
      refine iteF ?_
      walk_at "w"
      refine ⟨_,_,_,_,_,rfl,qy,T.kd_Cloth.cl,T.na_Cloth_rows,rfl,?_⟩
      walk_at "w"
      refine ⟨1,_,_,by decide,rT,rY,rfl,?_⟩
      rw [eqD_dT]
      exact kq (fun z=>z.1 h1) H1 s1
    · rw [decide_eq_false h1]
      refine ⟨true,rfl,?_⟩
      refine iteT ?_
      walk_at "w"
      refine ⟨_,_,_,_,_,rfl,qz,T.kd_Cloth.cl,T.na_Cloth_rows,rfl,?_⟩
      walk_at "w"
      refine ⟨1,_,_,by decide,rT,rZ,rfl,?_⟩
      rw [eqD_dT]
      by_cases h2:partN rs nO on.length r cc=off
      · rw [decide_eq_true h2]
        refine ⟨false,rfl,?_⟩
        refine iteF ?_
        walk_at "w"
        refine ⟨_,_,_,_,_,rfl,qy,T.kd_Cloth.cl,T.na_Cloth_rows,rfl,?_⟩
        walk_at "w"
        refine ⟨1,_,_,by decide,rT,rY,rfl,?_⟩
        rw [eqD_dT]
        exact kq (fun z=>z.2 h2) H1 s1
      · rw [decide_eq_false h2]
        refine ⟨true,rfl,?_⟩
        refine iteT ?_
        walk_at "w"
        refine rd_raiseI ?_
        walk_at "w"
        exact grown_raised (by omega) (by omega) fun H' dx s g=>ke ⟨h1,h2⟩ H' dx (s1.trans s) g
end
end K26
open L2
namespace K26
open PySem L2 PySem.Spec PyProof.Rows
seal L2.PE L2.PT L2.PW L2.PA L2.PS L2.PSs L2.PI L2.PG L2.PTs L2.PGs
section
variable {P:Program} {w:World} {K:PySem.W.Frag} {mg:Str→Option Value} {base:Heap} {c:Cs} {TT1 TT2:Addr}
theorem mOf_filter (p:Nat→Bool) (w:Nat):MM.mOf (((List.range w).filter p).map (· + 1))=MM.ofB p w:=by
  have e:(List.range w).filter p=(List.range w).filter (MM.ofB p w).testBit:=by
    refine List.filter_congr fun i hi=> ?_
    rw [MM.ofB_bit,decide_eq_true (List.mem_range.mp hi),Bool.true_and]
  rw [e, ← MM.nOf_wide (MM.ofB_lt p w),MM.mOf_nOf]
theorem same_updW {H H':Hp} {D:Addr} {o:HO} (s:Same H H') (hD:H D=none):Same H (upd H' D o):=fun b u e=>by
  rw [upd_ne (ne_of_none e hD)]
  exact s b u e
noncomputable def sp_plan_row (c:Cs):Sp:=fun vs H Q E=>∃ x n rs y nO on z nF off,∃ r:Nat,vs=[.ref x,nV (r+1), .ref y, .ref z]∧ClAt c.Cloth H x n rs∧ClAt c.Cloth H y nO on∧ClAt c.Cloth H z nF off∧ClOk n rs∧ClOk nO on∧ClOk nF off∧r≤60∧
  ((∀ i,i<n / nO→¬ BadAt rs on off nO on.length r i)→∀ H',Same H H'→Q (nV (MM.ofB (fun i=>decide (partN rs nO on.length r i=on)) (n / nO))) H')∧
  (∀ i,i<n / nO→(∀ j,j<i→¬ BadAt rs on off nO on.length r j)→BadAt rs on off nO on.length r i→∀ H' dx,Same H H'→H' dx=some (xdO dx [("row",nV (r+1)),("column",nV (i+1))])→E (.ref c.NotGrown) (some dx) H')
noncomputable abbrev s_plan_row:Stmt:=top 27
theorem sc_plan_row:FnScope ["cloth","row","on","off","many"] ["cloth","row","on","off"] (defScope s_plan_row):=⟨rfl,rfl,rfl,by decide +kernel,rfl,by decide +kernel,by decide +kernel⟩
theorem ok_plan_row {f:Addr} {fd:FuncData} (F:Fun K "plan_row" "plan_row" s_plan_row f fd) (T:Txt K mg c) (c_is_on:CallE P w K mg base "is_on" 3 ["cloth","row","column","on","off"] (sp_is_on c)) (c_mask_of:CallF P w K mg base "mask_of" 2 ["numbers"] (sp_mask_of K)) (d_Cloth_ends:MethF P w K mg base c.Cloth "ends" 1 ["self"] (sp_Cloth_ends c)):FnOk P w K mg base (CXE P w) 4 f fd ["cloth","row","on","off"] (sp_plan_row c):=by
  refine Fun.okE F sc_plan_row (fun vs H Q E h=> ?_) (fun cdv A outer s H vs Q E hr h=> ?_)
  · obtain ⟨x,n,rs,y,nO,on,z,nF,off,r,rfl,_⟩:=h
    rfl
  · obtain ⟨x,n,rs,y,nO,on,z,nF,off,r,rfl,cx,cy,cz,okx,oky,okz,hr',kq,ke⟩:=h
    obtain ⟨dx,tx,hx,_⟩:=id cx
    obtain ⟨dy,ty,hy,_⟩:=id cy
    have n2:=okx.n2
    have o1:=oky.n1
    have o3:=oky.n2
    have hm:n / nO≤60:=Nat.le_trans (Nat.div_le_self _ _) n2
    refine ⟨_,(pss_cons (ps_set (i:=4) sc_plan_row.nd rfl (Or.inl rfl) (pe_op op_fdivL (pe_methF0 (pv 0) d_Cloth_ends (hr.mono (by decide))) (pe_methF0 (pv 2) d_Cloth_ends (hr.mono (by decide)))))
      (pss_one (ps_ret (pe_callF c_mask_of (hr.mono (by decide)) (pa_cons (pe_comp1E passB (pi_range2 rfl (T.own _ (by decide)) (pa_cons pe_int (pa_cons (pe_op op_add (pv 4) pe_int) pa_nil))) (fun _ _ _ _=>(pts_one (pt_val (pe_callE c_is_on hr passK (pa_cons (pv 1) (pa_cons (pv 4) (pa_cons (pv 0) (pa_cons (pv 3) (pa_cons (pv 2) pa_nil))))))))) (fun _ _ _ _=>(pv 0))) pa_nil))))),?_⟩
    walk_at "w"
    refine ⟨_,_,_,rfl,hx,rfl,?_⟩
    walk_at "w"
    refine ⟨x,n,rs,rfl,cx,?_⟩
    walk_at "w"
    refine ⟨_,_,_,rfl,hy,rfl,?_⟩
    walk_at "w"
    refine ⟨y,nO,on,rfl,cy,?_⟩
    walk_at "w"
    refine rd_rI ⟨by omega,by omega⟩ ?_
    rw [show ((n:Nat):Int) / ((nO:Nat):Int)=((n / nO:Nat):Int) by push_cast;rfl]
    generalize hmy:n / nO=many at hm kq ke ⊢
    walk_at "w"
    refine ⟨_,_,rfl,⟨by decide,by decide,by omega,by omega⟩,fun D hD=> ?_⟩
    rw [show (((many:Nat):Int)+1 - 1).toNat=many by omega]
    refine comp_range (fun i ys H'=>ys=(((List.range i).filter fun i=>decide (partN rs nO on.length r i=on)).map (· + 1)).map nV∧Same H H'∧H' D=some (.lst ys)∧∀ j,j<i→¬ BadAt rs on off nO on.length r j) ⟨rfl,same_new hD,upd_same,fun j hj=>absurd hj (by omega)⟩ ?_ ?_
    · rintro i ys H' hi ⟨rfl,s,gD,nb⟩
      refine ⟨(Kp.refl _).set rfl,?_⟩
      rw [show (1:Int)+((i:Nat):Int)=((i+1:Nat):Int) by omega]
      walk_at "w"
      by_cases hb:BadAt rs on off nO on.length r i
      · exact ⟨x,n,rs,y,nO,on,z,nF,off,r,i,rfl,cx.same s,cy.same s,cz.same s,okx,oky,okz,hr',by omega,fun z=>(z hb).elim,fun _ H2 dx s2 g=>ke i hi nb hb H2 dx (s.trans s2) g⟩
      refine ⟨x,n,rs,y,nO,on,z,nF,off,r,i,rfl,cx.same s,cy.same s,cz.same s,okx,oky,okz,hr',by omega,fun _ H3 s3=> ?_,fun z=>(hb z).elim⟩
      have nb':∀ j,j<i+1→¬ BadAt rs on off nO on.length r j:=fun j hj=>by
        by_cases e:j=i
        · rw [e];exact hb
        · exact nb j (by omega)
      refine ⟨_,rfl,?_⟩
      by_cases hp:partN rs nO on.length r i=on
      · rw [decide_eq_true hp]
        refine iteT ?_
        walk_at "w"
        refine ⟨s3 _ _ gD,?_,?_,?_,upd_same,nb'⟩
        · rw [List.length_map,List.length_map]
          have:=List.length_filter_le (fun i=>decide (partN rs nO on.length r i=on)) (List.range i)
          rw [List.length_range] at this
          exact Nat.lt_of_le_of_lt this (Nat.lt_of_lt_of_le (show i<61 by omega) (by decide))
        · rw [List.range_succ,List.filter_append,List.filter_cons,if_pos (decide_eq_true hp),List.map_append,List.map_append]
          rfl
        · exact same_updW (s.trans s3) hD
      · rw [decide_eq_false hp]
        refine iteF ?_
        refine ⟨?_,s.trans s3,s3 _ _ gD,nb'⟩
        rw [List.range_succ,List.filter_append,List.filter_cons,if_neg (by simpa using hp)]
        simp
    · rintro ys H' ⟨rfl,s,gD,nb⟩
      walk_at "w"
      refine ⟨false,D,_,rfl,SqL.of gD,fun k hk=> ?_,fun H2 s2=> ?_⟩
      · obtain ⟨j,hj,rfl⟩:=List.mem_map.mp hk
        have:=List.mem_range.mp (List.mem_filter.mp hj).1
        omega
      · rw [mOf_filter]
        exact kq nb H2 (s.trans s2)
noncomputable def Into (n:Nat) (rs:List Nat) (nO:Nat) (on:List Nat) (nF:Nat) (off:List Nat):Prop:=(nO=nF∧on.length=off.length)∧on≠off∧n%nO=0∧rs.length%on.length=0
noncomputable def planL (n:Nat) (rs:List Nat) (nO:Nat) (on:List Nat):List Nat:=(List.range (rs.length / on.length)).map fun r=>MM.ofB (fun i=>decide (partN rs nO on.length r i=on)) (n / nO)
noncomputable def FirstBad (n:Nat) (rs:List Nat) (nO:Nat) (on off:List Nat) (r i:Nat):Prop:=r<rs.length / on.length∧i<n / nO∧(∀ r',r'<r→∀ j,j<n / nO→¬ BadAt rs on off nO on.length r' j)∧(∀ j,j<i→¬ BadAt rs on off nO on.length r j)∧BadAt rs on off nO on.length r i
noncomputable def NoneBad (n:Nat) (rs:List Nat) (nO:Nat) (on off:List Nat):Prop:=∀ r,r<rs.length / on.length→∀ i,i<n / nO→¬ BadAt rs on off nO on.length r i
noncomputable def sp_plan_of (c:Cs):Sp:=fun vs H Q E=>∃ x n rs y nO on z nF off,vs=[.ref x, .ref y, .ref z]∧ClAt c.Cloth H x n rs∧ClAt c.Cloth H y nO on∧ClAt c.Cloth H z nF off∧ClOk n rs∧ClOk nO on∧ClOk nF off∧
  (¬ Into n rs nO on nF off→∀ H',Same H H'→E (.ref c.BadCloth) none H')∧
  (Into n rs nO on nF off→NoneBad n rs nO on off→∀ H' u,Same H H'→H u=none→ClAt c.Cloth H' u (n / nO) (planL n rs nO on)→Q (.ref u) H')∧
  (Into n rs nO on nF off→∀ r i,FirstBad n rs nO on off r i→∀ H' dx,Same H H'→H' dx=some (xdO dx [("row",nV (r+1)),("column",nV (i+1))])→E (.ref c.NotGrown) (some dx) H')
theorem planL_ok {n:Nat} {rs:List Nat} {nO:Nat} {on:List Nat} (h1:ClOk n rs) (h2:ClOk nO on) (d1:n%nO=0) (d2:rs.length%on.length=0):ClOk (n / nO) (planL n rs nO on):=by
  have a1:=h1.n1
  have a2:=h1.n2
  have a3:=h1.p1
  have a4:=h1.p2
  have b1:=h2.n1
  have b2:=h2.p1
  have l:(planL n rs nO on).length=rs.length / on.length:=by unfold planL;simp
  refine ⟨(Nat.div_pos_iff).mpr ⟨by omega,Nat.le_of_dvd (by omega) (Nat.dvd_of_mod_eq_zero d1)⟩,Nat.le_trans (Nat.div_le_self _ _) a2,?_,?_,fun r hr=> ?_⟩
  · rw [l]
    exact (Nat.div_pos_iff).mpr ⟨by omega,Nat.le_of_dvd (by omega) (Nat.dvd_of_mod_eq_zero d2)⟩
  · rw [l]
    exact Nat.le_trans (Nat.div_le_self _ _) a4
  · unfold planL at hr
    obtain ⟨i,_,rfl⟩:=List.mem_map.mp hr
    exact MM.ofB_lt _ _
noncomputable abbrev s_plan_of:Stmt:=top 28
theorem sc_plan_of:FnScope ["cloth","on","off","rows"] ["cloth","on","off"] (defScope s_plan_of):=⟨rfl,rfl,rfl,by decide +kernel,rfl,by decide +kernel,by decide +kernel⟩
theorem ok_plan_of {f:Addr} {fd:FuncData} (F:Fun K "plan_of" "plan_of" s_plan_of f fd) (T:Txt K mg c) (c_need_like_sizes:CallE P w K mg base "need_like_sizes" 2 ["on","off"] (sp_need_like_sizes c)) (c_plan_row:CallE P w K mg base "plan_row" 4 ["cloth","row","on","off"] (sp_plan_row c)) (m_Cloth:MakeE P w K mg base "Cloth" c.Cloth 4 ["self","ends","rows"] (sp_Cloth___init__ K c)) (d_Cloth_ends:MethF P w K mg base c.Cloth "ends" 1 ["self"] (sp_Cloth_ends c)) (d_Cloth_picks:MethF P w K mg base c.Cloth "picks" 1 ["self"] (sp_Cloth_picks c)):FnOk P w K mg base (CXE P w) 6 f fd ["cloth","on","off"] (sp_plan_of c):=by
  refine Fun.okE F sc_plan_of (fun vs H Q E h=> ?_) (fun cdv A outer s H vs Q E hr h=> ?_)
  · obtain ⟨x,n,rs,y,nO,on,z,nF,off,rfl,_⟩:=h
    rfl
  · obtain ⟨x,n,rs,y,nO,on,z,nF,off,rfl,cx,cy,cz,okx,oky,okz,kb,kq,ke⟩:=h
    obtain ⟨dx,tx,hx,_⟩:=id cx
    obtain ⟨dy,ty,hy,hty⟩:=id cy
    obtain ⟨dz,tz,hz,htz⟩:=id cz
    have n2:=okx.n2
    have q2:=okx.p2
    have o1:=oky.n1
    have o2:=oky.p1
    have p2:=oky.p2
    have p3:=okz.p2
    have o3:=oky.n2
    refine ⟨_,(pss_cons (ps_expr (pe_callE c_need_like_sizes (hr.mono (by decide)) passE (pa_cons (pv 1) (pa_cons (pv 2) pa_nil))))
      (pss_cons (ps_if (pt_cmpR (op_eqD hr.units) (k_fld (K:=K) (pv 1) rfl) (k_fld (K:=K) (pv 2) rfl) (nomark _)) (pss_one (ps_raiseK T.g_BadCloth T.xi_BadCloth (pa_cons pe_str pa_nil))) pss_nil)
      (pss_cons (ps_if (PW.pt (pw_or (pt_cmpR op_ne (pe_op op_mod (pe_methF0 (pv 0) d_Cloth_ends (hr.mono (by decide))) (pe_methF0 (pv 1) d_Cloth_ends (hr.mono (by decide)))) pe_int (nomark _)) (pw_or1 (pt_cmpR op_ne (pe_op op_mod (pe_methF0 (pv 0) d_Cloth_picks (hr.mono (by decide))) (pe_methF0 (pv 1) d_Cloth_picks (hr.mono (by decide)))) pe_int (nomark _))))) (pss_one (ps_raiseK T.g_BadCloth T.xi_BadCloth (pa_cons pe_str pa_nil))) pss_nil)
      (pss_cons (ps_comp1E passB (i:=3) sc_plan_of.nd rfl (Or.inl rfl) (pi_range2 rfl (T.own _ (by decide)) (pa_cons pe_int (pa_cons (pe_op op_add (pe_op op_fdivL (pe_methF0 (pv 0) d_Cloth_picks (hr.mono (by decide))) (pe_methF0 (pv 1) d_Cloth_picks (hr.mono (by decide)))) pe_int) pa_nil))) (fun _ _ _ _=>pts_nil) (fun _ _ _ _=>(pe_callE c_plan_row (hr.mono (by decide)) passK (pa_cons (pv 1) (pa_cons (pv 0) (pa_cons (pv 3) (pa_cons (pv 2) pa_nil)))))))
      (pss_one (ps_ret (pe_makeE m_Cloth hr passE (pa_cons (pe_op op_fdivL (pe_methF0 (pv 0) d_Cloth_ends (hr.mono (by decide))) (pe_methF0 (pv 1) d_Cloth_ends (hr.mono (by decide)))) (pa_cons (pv 3) pa_nil))))))))),?_⟩
    walk_at "w"
    refine ⟨y,z,nO,nF,on,off,rfl,cy,cz,fun like=> ?_,fun bad=>kb (fun f=>bad f.1) H (Same.refl _)⟩
    walk_at "w"
    refine ⟨_,_,_,_,_,rfl,hy,T.kd_Cloth.cl,T.na_Cloth_rows,rfl,?_⟩
    walk_at "w"
    refine ⟨_,_,_,_,_,rfl,hz,T.kd_Cloth.cl,T.na_Cloth_rows,rfl,?_⟩
    walk_at "w"
    refine ⟨1,_,_,by decide,rp_T (F:=fun _=>True) (n:=0) hty (by omega),rp_T (F:=fun _=>True) (n:=0) htz (by omega),rfl,?_⟩
    rw [eqD_dT]
    by_cases h1:on=off
    · rw [decide_eq_true h1]
      refine ⟨true,rfl,?_⟩
      refine iteT ?_
      walk_at "w"
      exact ⟨by decide,kb (fun f=>f.2.1 h1) H (Same.refl _)⟩
    rw [decide_eq_false h1]
    refine ⟨false,rfl,?_⟩
    refine iteF ?_
    walk_at "w"
    refine ⟨_,_,_,rfl,hx,rfl,?_⟩
    walk_at "w"
    refine ⟨x,n,rs,rfl,cx,?_⟩
    walk_at "w"
    refine ⟨_,_,_,rfl,hy,rfl,?_⟩
    walk_at "w"
    refine ⟨y,nO,on,rfl,cy,?_⟩
    walk_at "w"
    refine rd_rI (by show (0:Int)<_;omega) ?_
    rw [show ((n:Nat):Int)%((nO:Nat):Int)=((n%nO:Nat):Int) by push_cast;rfl]
    walk_at "w"
    by_cases h2:n%nO=0
    rotate_left
    · rw [decide_eq_false (by omega)]
      refine iteT ?_
      walk_at "w"
      exact ⟨by decide,kb (fun f=>h2 f.2.2.1) H (Same.refl _)⟩
    rw [decide_eq_true (by omega)]
    refine iteF ?_
    walk_at "w"
    refine ⟨_,_,_,rfl,hx,rfl,?_⟩
    walk_at "w"
    refine ⟨x,n,rs,rfl,cx,?_⟩
    walk_at "w"
    refine ⟨_,_,_,rfl,hy,rfl,?_⟩
    walk_at "w"
    refine ⟨y,nO,on,rfl,cy,?_⟩
    walk_at "w"
    refine rd_rI (by show (0:Int)<_;omega) ?_
    rw [show ((rs.length:Nat):Int)%((on.length:Nat):Int)=((rs.length%on.length:Nat):Int) by push_cast;rfl]
    walk_at "w"
    by_cases h3:rs.length%on.length=0
    rotate_left
    · rw [decide_eq_false (by omega)]
      refine iteT ?_
      walk_at "w"
      exact ⟨by decide,kb (fun f=>h3 f.2.2.2) H (Same.refl _)⟩
    rw [decide_eq_true (by omega)]
    refine iteF ?_
    have into:Into n rs nO on nF off:=⟨like,h1,h2,h3⟩
    have hm:rs.length / on.length≤60:=Nat.le_trans (Nat.div_le_self _ _) q2
    walk_at "w"
    refine ⟨_,_,_,rfl,hx,rfl,?_⟩
    walk_at "w"
    refine ⟨x,n,rs,rfl,cx,?_⟩
    walk_at "w"
    refine ⟨_,_,_,rfl,hy,rfl,?_⟩
    walk_at "w"
    refine ⟨y,nO,on,rfl,cy,?_⟩
    walk_at "w"
    refine rd_rI ⟨by omega,by omega⟩ ?_
    rw [show ((rs.length:Nat):Int) / ((on.length:Nat):Int)=((rs.length / on.length:Nat):Int) by push_cast;rfl]
    generalize hmy:rs.length / on.length=many at hm ⊢
    walk_at "w"
    refine ⟨_,_,rfl,⟨by decide,by decide,by omega,by omega⟩,fun D hD=> ?_⟩
    rw [show (((many:Nat):Int)+1 - 1).toNat=many by omega]
    refine comp_range (fun i ys H'=>ys=((List.range i).map fun r=>MM.ofB (fun i=>decide (partN rs nO on.length r i=on)) (n / nO)).map nV∧Same H H'∧H' D=some (.lst ys)∧∀ r,r<i→∀ j,j<n / nO→¬ BadAt rs on off nO on.length r j) ⟨rfl,same_new hD,upd_same,fun j hj=>absurd hj (by omega)⟩ ?_ ?_
    · rintro i ys H' hi ⟨rfl,s,gD,nb⟩
      refine ⟨(Kp.refl _).set rfl,?_⟩
      rw [show (1:Int)+((i:Nat):Int)=((i+1:Nat):Int) by omega]
      refine tYes_i ?_
      walk_at "w"
      refine ⟨x,n,rs,y,nO,on,z,nF,off,i,rfl,cx.same s,cy.same s,cz.same s,okx,oky,okz,by omega,fun none H3 s3=> ?_,fun j hj before bad H2 dx s2 g=>ke into i j ⟨by rw [hmy];exact hi,hj,nb,before,bad⟩ H2 dx (s.trans s2) g⟩
      refine ⟨s3 _ _ gD,?_,?_,same_updW (s.trans s3) hD,upd_same,fun r hr j hj=> ?_⟩
      · rw [List.length_map,List.length_map,List.length_range]
        exact Nat.lt_of_lt_of_le (show i<61 by omega) (by decide)
      · rw [List.range_succ,List.map_append,List.map_append]
        rfl
      · by_cases e:r=i
        · rw [e];exact none j hj
        · exact nb r (by omega) j hj
    · rintro ys H' ⟨rfl,s,gD,nb⟩
      walk_at "w"
      refine rd_makeE ?_
      walk_at "w"
      refine ⟨_,_,_,rfl,s _ _ hx,rfl,?_⟩
      walk_at "w"
      refine ⟨x,n,rs,rfl,cx.same s,?_⟩
      walk_at "w"
      refine ⟨_,_,_,rfl,s _ _ hy,rfl,?_⟩
      walk_at "w"
      refine ⟨y,nO,on,rfl,cy.same s,?_⟩
      walk_at "w"
      refine rd_rI ⟨by omega,by omega⟩ ?_
      rw [show ((n:Nat):Int) / ((nO:Nat):Int)=((n / nO:Nat):Int) by push_cast;rfl]
      walk_at "w"
      have gD:H' D=some (.lst ((planL n rs nO on).map nV)):=by
        unfold planL
        rw [hmy]
        exact gD
      exact cl_make gD (planL_ok okx oky h2 h3) fun H2 u s2 hu C2=>kq into (fun r hr=>nb r (by rw [← hmy];exact hr)) H2 u (s.trans s2) (s.free hu) C2
end
end K26
open L2
namespace K26
open PySem L2 PySem.Spec PyProof.Rows
seal L2.PE L2.PT L2.PW L2.PA L2.PS L2.PSs L2.PI L2.PG L2.PTs L2.PGs
section
variable {P:Program} {w:World} {K:PySem.W.Frag} {mg:Str→Option Value} {base:Heap} {c:Cs} {TT1 TT2:Addr}
theorem kf_grown (T:Txt K mg c):KindF K c c.NotGrown 4:=⟨by decide,T.xk_NotGrown.1,T.ki_NotGrown_BadRow,T.ki_NotGrown_BadWord,T.ki_NotGrown_TooMany,T.ki_NotGrown_NotPlain,T.ki_NotGrown_NotGrown,T.ki_NotGrown_BadDraft,T.ki_NotGrown_BadCloth,T.ki_NotGrown_OutOfPlace,T.ki_NotGrown_ValueError⟩
theorem kf_cloth (T:Txt K mg c):KindF K c c.BadCloth 6:=⟨by decide,T.xk_BadCloth,T.ki_BadCloth_BadRow,T.ki_BadCloth_BadWord,T.ki_BadCloth_TooMany,T.ki_BadCloth_NotPlain,T.ki_BadCloth_NotGrown,T.ki_BadCloth_BadDraft,T.ki_BadCloth_BadCloth,T.ki_BadCloth_OutOfPlace,T.ki_BadCloth_ValueError⟩
noncomputable def sp__law_caught (K:PySem.W.Frag) (c:Cs):(XK→TE)→List V→Hp→VK→Prop:=fun tb vs H Q=>∃ (G:Hp→Prop) (Z:Addr→Option Addr→Hp→Prop),
  (∀ (E':XK) (R:VK),(∀ v H1,G H1→R v H1)→(∀ C od H1,Z C od H1→E' (.ref C) od H1)→tb E' (vs.map some) H R)∧
  (∀ H1,G H1→∀ H2 p l,Same H1 H2→H2 p=some (.tup [.ref l, .non])→H2 l=some (.lst [])→Q (.ref p) H2)∧
  (∀ C od H1,Z C od H1→PySem.W.exmOne K (.ref C) (.ref c.LoomError)=some true∧∃ j,KindF K c C j∧∀ H2 p l a,Same H1 H2→H2 a=some (excO a C od)→H2 p=some (.tup [.ref l, .ref a])→H2 l=some (.lst [.str (nmK j)])→Q (.ref p) H2)
noncomputable abbrev s__law_caught:Stmt:=top 34
theorem sc__law_caught:FnScope ["_law_asked","_law_wrong","e"] ["_law_asked"] (defScope s__law_caught):=⟨rfl,rfl,rfl,by decide +kernel,rfl,by decide +kernel,by decide +kernel⟩
theorem ok__law_caught {f:Addr} {fd:FuncData} (F:Fun K "_law_caught" "_law_caught" s__law_caught f fd) (B:Binds K fd ["_law_asked"] []) (T:Txt K mg c) (c__law_kinds:CallF P w K mg base "_law_kinds" 1 ["_law_error"] (sp__law_kinds K c)):CaughtAt P w K mg base f 8 6 (sp__law_caught K c):=by
  refine Fun.caught F B sc__law_caught (fun cdv A outer s H fl c' oc N' qual' scope cl params body pm ctv vs tb Q hr th hb h=> ?_)
  obtain ⟨G,Z,h1,kg,kz⟩:=h
  refine ⟨_,(pss_cons (ps_set (i:=1) sc__law_caught.nd rfl (Or.inl rfl) pe_non)
      (pss_cons (ps_try (j:=2) rfl rfl T.g_LoomError sc__law_caught.nd rfl rfl (fun _ _ _ hp=>(pss_one (ps_expr (pe_th th (pv 0) hp hr rfl hb)))) (fun _ _=>(pss_one (ps_set (i:=1) sc__law_caught.nd rfl (Or.inl rfl) (pv 2)))))
      (pss_one (ps_ret (pe_tup (pa_cons (pe_ifExp (pt_cmpR op_isN (pv 1) pe_non (nomark _)) (pe_lst pa_nil) (pe_callF c__law_kinds (hr.mono (by decide)) (pa_cons (pv 1) pa_nil))) (pa_cons (pv 1) pa_nil))))))),?_⟩
  walk_at "w"
  refine rd_try ?_
  walk_at "w"
  refine rd_thunk ?_
  walk_at "w"
  refine ⟨rfl,th.hc,h1 _ _ (fun v H1 g1=> ?_) (fun C od H1 z1=> ?_)⟩
  · walk_at "w"
    refine ⟨rfl,_,rfl,?_⟩
    walk_at "w"
    rw [decide_eq_true rfl]
    refine iteT ?_
    walk_at "w"
    intro l hl
    walk_at "w"
    intro p hp
    exact kg H1 g1 _ p l ((same_new hl).trans (same_new hp)) upd_same (same_new hp _ _ upd_same)
  obtain ⟨xm,j,kf,kz⟩:=kz C od H1 z1
  refine ⟨_,rfl,xm,fun a σ ha hl=> ?_⟩
  obtain ⟨x0,x1,x2,rfl⟩:∃ x0 x1 x2,σ=[x0,x1,x2]:=by
    match σ,hl with
    | [x0,x1,x2],_=>exact ⟨x0,x1,x2,rfl⟩
  have s2:=same_new (o:=excO a C od) ha
  walk_at "w"
  refine rd_end ?_
  walk_at "w"
  refine ⟨rfl,_,rfl,?_⟩
  walk_at "w"
  rw [decide_eq_false (by intro z;cases z)]
  refine iteF ?_
  walk_at "w"
  refine ⟨a,C,od,j,rfl,upd_same,kf,fun H2 l s3 hl2 g2=> ?_⟩
  walk_at "w"
  intro p hp
  exact kz _ p l a (s2.trans (s3.trans (same_new hp))) (same_new hp _ _ (s3 _ _ upd_same)) upd_same (same_new hp _ _ g2)
end
end K26
open L2
namespace K26
open PySem L2 PySem.Spec PyProof.Rows
seal L2.PE L2.PT L2.PW L2.PA L2.PS L2.PSs L2.PI L2.PG L2.PTs L2.PGs
section
variable {P:Program} {w:World} {K:PySem.W.Frag} {mg:Str→Option Value} {base:Heap} {c:Cs} {TT1 TT2:Addr}
noncomputable def mixV (x k:Int):Int:=(x%1000000007+7919*k+13)*(x%1000000007+7919*k+13)%1000000007*48271%2147483647
noncomputable def sp__law_mixed:Sp:=fun vs H Q _=>∃ x k:Int,vs=[.int x, .int k]∧(0≤k∧k≤1000)∧Q (.int (mixV x k)) H
noncomputable abbrev s__law_mixed:Stmt:=top 30
theorem sc__law_mixed:FnScope ["_law_cell","_law_k"] ["_law_cell","_law_k"] (defScope s__law_mixed):=⟨rfl,rfl,rfl,by decide +kernel,rfl,by decide +kernel,by decide +kernel⟩
theorem ok__law_mixed {f:Addr} {fd:FuncData} (F:Fun K "_law_mixed" "_law_mixed" s__law_mixed f fd) (T:Txt K mg c):FnOk P w K mg base CX0 1 f fd ["_law_cell","_law_k"] sp__law_mixed:=by
  refine F.ok sc__law_mixed (fun vs H Q E h=> ?_) (fun cdv A outer s H vs Q E hr h=> ?_)
  · obtain ⟨x,k,rfl,_⟩:=h
    rfl
  · obtain ⟨x,k,rfl,hk,q⟩:=h
    refine ⟨_,(pss_cons (ps_set (i:=0) sc__law_mixed.nd rfl (Or.inl rfl) (pe_op op_add (pe_op op_add (pe_op op_mod (pv 0) pe_int) (pe_op op_mul pe_int (pv 1))) pe_int))
      (pss_one (ps_ret (pe_op op_mod (pe_op op_mul (pe_op op_mod (pe_op op_mul (pv 0) (pv 0)) pe_int) pe_int) pe_int)))),?_⟩
    have b1:=Int.emod_nonneg x (show (1000000007:Int)≠0 by decide)
    have b2:=Int.emod_lt_of_pos x (show (0:Int)<1000000007 by decide)
    walk_at "w"
    refine rd_rI (by decide) ?_
    walk_at "w"
    refine rd_rI (.inl ⟨by decide,by decide⟩) ?_
    walk_at "w"
    refine rd_rI (.inl ⟨?_,?_⟩) ?_
    · show -(2 ^ 64)<x%1000000007+7919*k+13
      omega
    · show x%1000000007+7919*k+13<2 ^ 64
      omega
    walk_at "w"
    refine rd_rI (by decide) ?_
    walk_at "w"
    refine rd_rI (.inr ⟨by decide,by decide⟩) ?_
    walk_at "w"
    refine rd_rI (by decide) ?_
    exact q
theorem pw_pos (s:Nat):(0:Int)<1*2 ^ ((s:Nat):Int).toNat:=by
  rw [Int.one_mul]
  exact Int.pow_pos (by decide)
theorem pw_nat (s:Nat):(1:Int)*2 ^ ((s:Nat):Int).toNat=((2 ^ s:Nat):Int):=by
  rw [Int.one_mul,Int.toNat_natCast]
  simp
theorem md_nat (x:Int) (s:Nat):x%(1*2 ^ ((s:Nat):Int).toNat)=(((x%(2 ^ s:Nat)).toNat:Nat):Int):=by
  rw [pw_nat]
  have:=Int.emod_nonneg x (show ((2 ^ s:Nat):Int)≠0 by have:=Nat.two_pow_pos s;omega)
  omega
theorem md_lt (x:Int) (s:Nat):(x%(2 ^ s:Nat)).toNat<2 ^ s:=by
  have h0:=Nat.two_pow_pos s
  have:=Int.emod_lt_of_pos x (show (0:Int)<((2 ^ s:Nat):Int) by omega)
  have:=Int.emod_nonneg x (show ((2 ^ s:Nat):Int)≠0 by omega)
  omega
noncomputable def sp__law_whole (K:PySem.W.Frag):Sp:=fun vs H Q _=>∃ (a:Addr) (ns:List Int),vs=[.ref a]∧SqL K H a (ns.map V.int)∧ns.length≤63∧∀ H' W,Same H H'→Q (.int W) H'
noncomputable abbrev s__law_whole:Stmt:=top 32
theorem sc__law_whole:FnScope ["_law_script"] ["_law_script"] (defScope s__law_whole):=⟨rfl,rfl,rfl,by decide +kernel,rfl,by decide +kernel,by decide +kernel⟩
theorem ok__law_whole {f:Addr} {fd:FuncData} (F:Fun K "_law_whole" "_law_whole" s__law_whole f fd) (T:Txt K mg c):FnOk P w K mg base CX0 1 f fd ["_law_script"] (sp__law_whole K):=by
  refine F.ok sc__law_whole (fun vs H Q E h=> ?_) (fun cdv A outer s H vs Q E hr h=> ?_)
  · obtain ⟨a,ns,rfl,_⟩:=h
    rfl
  · obtain ⟨a,ns,rfl,sa,hn,k⟩:=h
    refine ⟨_,(pss_one (ps_ret (pe_callB (k_sum (K:=K)) rfl (T.own _ (by decide)) boot_sum (pa_cons (pe_comp2 (K:=K) (pi_enum (K:=K) rfl (T.own _ (by decide)) (pa_cons (pv 0) pa_nil)) (fun _ _ _ _=>pts_nil) (fun _ _ _ _=>(pe_op op_mul (pe_op op_mod (pv 1) pe_int) (pe_op op_add (pv 0) pe_int)))) pa_nil)))),?_⟩
    walk_at "w"
    refine ⟨a,rfl,⟨_,sa⟩,fun D0 hD0=> ?_⟩
    refine ints_comp (G:=fun i=>ns.getD i 0%1000000007*((i:Int)+1)) (src_enum sa rfl rfl) hD0 (by rw [List.length_map];omega) ?_ ?_
    · intro i H' R hi s kk
      have b1:=Int.emod_nonneg (ns.getD i 0) (show (1000000007:Int)≠0 by decide)
      have b2:=Int.emod_lt_of_pos (ns.getD i 0) (show (0:Int)<1000000007 by decide)
      rw [getD_int hi]
      walk_at "w"
      refine rd_rI (by decide) ?_
      walk_at "w"
      refine rd_rI (.inl ⟨by omega,by omega⟩) ?_
      exact kk H' (Same.refl _)
    intro H1 s1 hl1
    walk_at "w"
    refine rd_sum (SqL.of hl1) ?_
    exact k _ _ s1
noncomputable def grRow (m a b own:Nat):Nat→Nat
  | 0=>0
  | e+1=>grRow m a b own e+(if m.testBit e then b else a)*2 ^ (e*own)
theorem grRow_lt {m a b own:Nat} (ha:a<2 ^ own) (hb:b<2 ^ own):∀ e,grRow m a b own e<2 ^ (e*own)
  | 0=>by simp [grRow]
  | e+1=>by
    have ih:=grRow_lt (m:=m) ha hb e
    have hx:(if m.testBit e then b else a)+1≤2 ^ own:=by split <;> assumption
    show grRow m a b own e+(if m.testBit e then b else a)*2 ^ (e*own)<_
    have h2:((if m.testBit e then b else a)+1)*2 ^ (e*own)≤2 ^ own*2 ^ (e*own):=Nat.mul_le_mul_right _ hx
    rw [Nat.add_mul,Nat.one_mul] at h2
    rw [Nat.add_mul,Nat.one_mul,Nat.pow_add,Nat.mul_comm (2 ^ (e*own))]
    omega
theorem grRow_part {m a b own c:Nat} (ha:a<2 ^ own) (hb:b<2 ^ own):∀ e,c<e→(grRow m a b own e >>> (own*c)) &&& (2 ^ own - 1)=if m.testBit c then b else a
  | 0,h=>absurd h (by omega)
  | e+1,h=>by
    have lt:=grRow_lt (m:=m) ha hb e
    have hx:(if m.testBit e then b else a)<2 ^ own:=by split <;> assumption
    rw [Nat.shiftRight_eq_div_pow,Nat.and_two_pow_sub_one_eq_mod]
    show (grRow m a b own e+(if m.testBit e then b else a)*2 ^ (e*own)) / _%_=_
    by_cases hc:c=e
    · subst hc
      rw [Nat.mul_comm own c,Nat.add_mul_div_right _ _ (Nat.two_pow_pos _),Nat.div_eq_of_lt lt,Nat.zero_add,Nat.mod_eq_of_lt hx]
    · have ih:=grRow_part (m:=m) ha hb e (show c<e by omega)
      rw [Nat.shiftRight_eq_div_pow,Nat.and_two_pow_sub_one_eq_mod] at ih
      obtain ⟨d,rfl⟩:∃ d,e=c+1+d:=⟨e - (c+1),by omega⟩
      have e1:2 ^ ((c+1+d)*own)=2 ^ (d*own)*2 ^ own*2 ^ (own*c):=by
        rw [← Nat.pow_add, ← Nat.pow_add]
        congr 1
        rw [Nat.add_mul,Nat.add_mul,Nat.one_mul,Nat.mul_comm own c]
        omega
      rw [e1, ← Nat.mul_assoc,Nat.add_mul_div_right _ _ (Nat.two_pow_pos _), ← Nat.mul_assoc,Nat.add_mul_mod_self_right]
      exact ih
theorem natsV (l:List Nat):l.map nV=(l.map fun n=>((n:Nat):Int)).map V.int:=by
  rw [List.map_map]
  rfl
theorem natsL (n:Nat) (G:Nat→Nat):((List.range n).map fun i=>((G i:Nat):Int)).map V.int=((List.range n).map G).map nV:=by
  rw [List.map_map,List.map_map]
  rfl
theorem int_inj (as bs:List Nat):decide ((as.map fun n=>((n:Nat):Int))=bs.map fun n=>((n:Nat):Int))=decide (as=bs):=
  decide_eq_decide.mpr ⟨fun h=>(List.map_inj_right fun x y z=>Int.ofNat.inj z).mp h,fun h=>by rw [h]⟩
theorem rd_eqLN {H:Hp} {Q:VK} {l p:Addr} {as bs:List Nat} (c:SqL K H l (as.map nV)) (d:SqL K H p (bs.map nV)) (h:Q (.bl (decide (as=bs))) H):rEqL K false (.ref l) (.ref p) H Q:=by
  rw [natsV] at c d
  refine rd_eqLI c d ?_
  rw [int_inj]
  exact h
theorem rd_neLN {H:Hp} {Q:VK} {l p:Addr} {as bs:List Nat} (c:SqL K H l (as.map nV)) (d:SqL K H p (bs.map nV)) (h:Q (.bl (!decide (as=bs))) H):rEqL K true (.ref l) (.ref p) H Q:=by
  rw [natsV] at c d
  refine rd_neLI c d ?_
  rw [int_inj]
  exact h
noncomputable def grAt (wide:Nat) (rp on off:List Nat) (own q:Nat):Nat:=grRow (rp.getD (q / on.length) 0) (off.getD (q%on.length) 0) (on.getD (q%on.length) 0) own wide
noncomputable def grL (wide:Nat) (rp on off:List Nat) (own:Nat):List Nat:=(List.range (rp.length*on.length)).map (grAt wide rp on off own)
theorem getD_lt {l:List Nat} {w:Nat} (h:∀ r∈l,r<2 ^ w) (i:Nat):l.getD i 0<2 ^ w:=by
  by_cases hi:i<l.length
  · exact h _ (getD_mem hi)
  · rw [List.getD_eq_getElem?_getD,List.getElem?_eq_none (by omega)]
    exact Nat.two_pow_pos w
theorem grL_lt {wide:Nat} {rp on off:List Nat} {own:Nat} (h1:∀ r∈on,r<2 ^ own) (h2:∀ r∈off,r<2 ^ own):∀ r∈grL wide rp on off own,r<2 ^ (wide*own):=fun r hr=>by
  obtain ⟨q,_,rfl⟩:=List.mem_map.mp hr
  exact grRow_lt (getD_lt h2 _) (getD_lt h1 _) wide
theorem grL_len (wide:Nat) (rp on off:List Nat) (own:Nat):(grL wide rp on off own).length=rp.length*on.length:=by unfold grL;simp
theorem divmod {i t h:Nat} (ht:t<h):(i*h+t) / h=i∧(i*h+t)%h=t:=by
  constructor
  · rw [Nat.mul_comm,Nat.mul_add_div (by omega),Nat.div_eq_of_lt ht,Nat.add_zero]
  · rw [Nat.mul_comm,Nat.mul_add_mod,Nat.mod_eq_of_lt ht]
theorem grL_part {wide:Nat} {rp on off:List Nat} {own r c:Nat} (h1:∀ r∈on,r<2 ^ own) (h2:∀ r∈off,r<2 ^ own) (hl:on.length=off.length) (hr:r<rp.length) (hc:c<wide):
    partN (grL wide rp on off own) own on.length r c=if (rp.getD r 0).testBit c then on else off:=by
  have le:(r+1)*on.length≤rp.length*on.length:=Nat.mul_le_mul_right _ hr
  have e1:(r+1)*on.length=r*on.length+on.length:=by rw [Nat.add_mul,Nat.one_mul]
  have lx:(if (rp.getD r 0).testBit c then on else off).length=on.length:=by split <;> omega
  have ln:(partN (grL wide rp on off own) own on.length r c).length=on.length:=by
    unfold partN
    rw [List.length_map,List.length_drop,List.length_take,grL_len]
    omega
  refine List.ext_getElem (by rw [ln,lx]) fun j hj1 hj2=> ?_
  rw [ln] at hj1
  obtain ⟨d1,d2⟩:=divmod (i:=r) hj1
  have e2:(partN (grL wide rp on off own) own on.length r c)[j]'(by rw [ln];exact hj1)=(grAt wide rp on off own (r*on.length+j) >>> (own*c)) &&& (2 ^ own - 1):=by
    unfold partN grL
    simp
  rw [e2]
  unfold grAt
  rw [d1,d2,grRow_part (getD_lt h2 _) (getD_lt h1 _) wide hc]
  by_cases hb:(rp.getD r 0).testBit c=true
  · simp only [if_pos hb]
    rw [List.getD_eq_getElem?_getD,List.getElem?_eq_getElem hj1]
    rfl
  · simp only [if_neg hb]
    rw [List.getD_eq_getElem?_getD,List.getElem?_eq_getElem (show j<off.length by omega)]
    rfl
noncomputable def sp__law_grown:Sp:=fun vs H Q _=>∃ (p a b:Addr) (rp on off:List Nat) (wide own:Nat),vs=[.ref p,nV wide, .ref a, .ref b,nV own]∧H p=some (.lst (rp.map nV))∧H a=some (.lst (on.map nV))∧H b=some (.lst (off.map nV))∧
  on.length=off.length∧on.length≤60∧rp.length≤60∧own≤60∧wide≤60∧(∀ r∈on,r<2 ^ own)∧(∀ r∈off,r<2 ^ own)∧∀ H' l,Same H H'→H l=none→H' l=some (.lst ((grL wide rp on off own).map nV))→Q (.ref l) H'
noncomputable abbrev s__law_grown:Stmt:=top 35
theorem sc__law_grown:FnScope ["_law_plan","_law_wide","_law_on","_law_off","_law_own","_law_found","_law_mask","_law_turn","_law_row","_law_end"] ["_law_plan","_law_wide","_law_on","_law_off","_law_own"] (defScope s__law_grown):=⟨rfl,rfl,rfl,by decide +kernel,rfl,by decide +kernel,by decide +kernel⟩
theorem ok__law_grown {f:Addr} {fd:FuncData} (F:Fun K "_law_grown" "_law_grown" s__law_grown f fd) (T:Txt K mg c):FnOk P w K mg base CX0 1 f fd ["_law_plan","_law_wide","_law_on","_law_off","_law_own"] sp__law_grown:=by
  refine F.ok sc__law_grown (fun vs H Q E h=> ?_) (fun cdv A outer s H vs Q E hr h=> ?_)
  · obtain ⟨p,a,b,rp,on,off,wide,own,rfl,_⟩:=h
    rfl
  · obtain ⟨p,a,b,rp,on,off,wide,own,rfl,hp,ha,hb,hl,l1,l2,w1,w2,b1,b2,k⟩:=h
    refine ⟨_,(pss_cons (ps_set (i:=5) sc__law_grown.nd rfl (Or.inl rfl) (pe_lst pa_nil))
      (pss_cons (ps_for PassesOwn.never rfl (k_pil (K:=K) (pv 0)) (pg_name (i:=6) sc__law_grown.nd rfl (Or.inl rfl)) (pss_one (ps_for PassesOwn.never rfl (pi_range1 rfl (T.own _ (by decide)) (pa_cons (pe_callB (k_len (K:=K)) rfl (T.own _ (by decide)) boot_len (pa_cons (pv 2) pa_nil)) pa_nil)) (pg_name (i:=7) sc__law_grown.nd rfl (Or.inl rfl)) (pss_cons (ps_set (i:=8) sc__law_grown.nd rfl (Or.inl rfl) pe_int)
      (pss_cons (ps_for PassesOwn.never rfl (pi_range1 rfl (T.own _ (by decide)) (pa_cons (pv 1) pa_nil)) (pg_name (i:=9) sc__law_grown.nd rfl (Or.inl rfl)) (pss_one (ps_set (i:=8) sc__law_grown.nd rfl (Or.inl rfl) (pe_op op_add (pv 8) (pe_op op_shl (pe_ix (k_ixl (K:=K)) (pe_lst (pa_cons (pe_ix (k_ixl (K:=K)) (pv 3) (pv 7) (fun _ _=>rfl)) (pa_cons (pe_ix (k_ixl (K:=K)) (pv 2) (pv 7) (fun _ _=>rfl)) pa_nil))) (pe_op op_and (pe_op op_shr (pv 6) (pv 9)) pe_int) (fun _ _=>rfl)) (pe_op op_mul (pv 9) (pv 4)))))))
      (pss_one (ps_expr (kx_bm (K:=K) PySem.F.plainAttrs_list PySem.F.slot_list_append PySem.F.type_list_append mt_append (pv 5) (pa_cons (pv 8) pa_nil)))))))))
      (pss_one (ps_ret (pv 5))))),?_⟩
    have bm:∀ {i t},i<rp.length→t<on.length→i*on.length+t<10000:=fun {i t} hi ht=>by
      have:i*on.length≤60*60:=Nat.mul_le_mul (by omega) l1
      omega
    walk_at "w"
    intro q hq
    have s1:=same_new (o:=HO.lst []) hq
    have g1:upd H q (HO.lst []) q=some (.lst (((List.range (0*on.length)).map (grAt wide rp on off own)).map nV)):=by rw [Nat.zero_mul];exact upd_same
    generalize upd H q (HO.lst [])=H1 at s1 g1 ⊢
    walk_at "w"
    refine ⟨p,rfl,⟨_,SqL.of (s1 _ _ hp)⟩,for_srcW (H0:=H) (fs_list (SqL.of hp)) (fun i σ H3=>∃ u1 u2 u3 u4,σ=[some (.ref p),some (nV wide),some (.ref a),some (.ref b),some (nV own),some (.ref q),u1,u2,u3,u4]∧Same H H3∧H3 q=some (.lst (((List.range (i*on.length)).map (grAt wide rp on off own)).map nV))) ⟨_,_,_,_,rfl,s1,g1⟩ (fun i σ H3 ⟨_,_,_,_,_,s,_⟩=>s) ?_ ?_⟩
    · rintro i σ H' H3 hi ⟨u1,u2,u3,u4,rfl,s',g'⟩ s3
      have hi':i<rp.length:=by simpa using hi
      have sH:=s'.trans s3
      rw [getD_nat hi]
      walk_at "w"
      refine rd_lenL (SqL.of (sH _ _ ha)) ?_
      walk_at "w"
      rw [List.length_map]
      refine ⟨_,rfl,by omega,by omega,?_⟩
      rw [Int.toNat_natCast]
      refine for_srcW (H0:=H) (fs_range0 (n:=on.length)) (fun t σ H4=>∃ u2 u3 u4,σ=[some (.ref p),some (nV wide),some (.ref a),some (.ref b),some (nV own),some (.ref q),some (nV (rp.getD i 0)),u2,u3,u4]∧Same H H4∧H4 q=some (.lst (((List.range (i*on.length+t)).map (grAt wide rp on off own)).map nV))) ⟨_,_,_,rfl,sH,s3 _ _ g'⟩ (fun i σ H4 ⟨_,_,_,_,z,_⟩=>z) ?_ ?_
      · rintro t σ H4 H5 ht ⟨u2,u3,u4,rfl,s4,g4⟩ s5
        have s45:=s4.trans s5
        walk_at "w"
        refine ⟨_,rfl,by omega,by omega,?_⟩
        rw [Int.toNat_natCast]
        refine for_src (fs_range0 (n:=wide)) (fun e σ H6=>∃ u4,σ=[some (.ref p),some (nV wide),some (.ref a),some (.ref b),some (nV own),some (.ref q),some (nV (rp.getD i 0)),some (nV t),some (nV (grRow (rp.getD i 0) (off.getD t 0) (on.getD t 0) own e)),u4]∧Same H5 H6) ⟨_,rfl,Same.refl _⟩ (fun i σ H6 ⟨_,_,z⟩=>z) ?_ ?_
        · rintro e σ H6 H7 he ⟨u4,rfl,s6⟩ s7
          have s57:=s6.trans s7
          have sZ:=s45.trans s57
          have hj:((e:Nat):Int)*((own:Nat):Int)=((e*own:Nat):Int):=by push_cast;rfl
          have hjl:e*own≤3600:=Nat.mul_le_mul (show e≤60 by omega) w1
          have a1:=getD_lt b1 t
          have a2:=getD_lt b2 t
          have pw:2 ^ own≤2 ^ 60:=Nat.pow_le_pow_right (by decide) w1
          walk_at "w"
          refine rd_ixL (SqL.of (sZ _ _ hb)) (atI_natV (by omega) (by omega)) ?_
          rw [Int.toNat_natCast]
          walk_at "w"
          refine rd_ixL (SqL.of (sZ _ _ ha)) (atI_natV (by omega) (by omega)) ?_
          rw [Int.toNat_natCast]
          walk_at "w"
          intro l hl8
          walk_at "w"
          refine rd_rI (by show (0:Int)≤_;omega) ?_
          rw [shr_nat]
          walk_at "w"
          rw [show (1:Int)=((1:Nat):Int) from rfl,bA,Nat.and_one_is_mod,Nat.shiftRight_eq_div_pow,MM.bit_div]
          have pick:atI [nV (off.getD t 0),nV (on.getD t 0)] ((((rp.getD i 0).testBit e).toNat:Nat):Int)=some (nV (if (rp.getD i 0).testBit e then on.getD t 0 else off.getD t 0)):=by
            cases (rp.getD i 0).testBit e <;> rfl
          refine rd_ixL (SqL.of upd_same) pick ?_
          have hx:(if (rp.getD i 0).testBit e then on.getD t 0 else off.getD t 0)<2 ^ 60:=by split <;> omega
          have eR:grRow (rp.getD i 0) (off.getD t 0) (on.getD t 0) own (e+1)=grRow (rp.getD i 0) (off.getD t 0) (on.getD t 0) own e+(if (rp.getD i 0).testBit e then on.getD t 0 else off.getD t 0)*2 ^ (e*own):=rfl
          generalize (if (rp.getD i 0).testBit e then on.getD t 0 else off.getD t 0)=xv at hx eR ⊢
          walk_at "w"
          refine rd_rI (.inl ⟨by omega,by omega⟩) ?_
          rw [hj]
          walk_at "w"
          refine rd_rI ⟨by omega,by omega,by show ((xv:Nat):Int).natAbs<_;rw [Int.natAbs_natCast];exact Nat.lt_of_lt_of_le hx (by decide)⟩ ?_
          rw [Int.toNat_natCast,show ((xv:Nat):Int)*2 ^ (e*own)=((xv*2 ^ (e*own):Nat):Int) by push_cast;rfl]
          walk_at "w"
          rw [show ((grRow (rp.getD i 0) (off.getD t 0) (on.getD t 0) own e:Nat):Int)+((xv*2 ^ (e*own):Nat):Int)=((grRow (rp.getD i 0) (off.getD t 0) (on.getD t 0) own (e+1):Nat):Int) by rw [eR];rfl]
          exact ⟨_,rfl,s57.trans (same_new hl8)⟩
        · rintro σ H6 ⟨u4,rfl,s6⟩
          walk_at "w"
          refine tyL (SqL.of (s6 _ _ (s5 _ _ g4))) ?_
          walk_at "w"
          refine rd_app (s6 _ _ (s5 _ _ g4)) (by have:=bm hi' ht;simp;omega) ?_
          walk_at "w"
          refine ⟨_,_,_,rfl,same_updW (s45.trans s6) hq,?_⟩
          obtain ⟨d1,d2⟩:=divmod (i:=i) ht
          rw [upd_same, ← Nat.add_assoc,List.range_succ,List.map_append,List.map_append]
          show _=some (HO.lst (_++[nV (grAt wide rp on off own (i*on.length+t))]))
          unfold grAt
          rw [d1,d2]
      · rintro σ H4 ⟨u2,u3,u4,rfl,s4,g4⟩
        refine ⟨_,_,_,_,rfl,s4,?_⟩
        rw [Nat.succ_mul]
        exact g4
    · rintro σ H3 ⟨u1,u2,u3,u4,rfl,s3,g3⟩
      walk_at "w"
      rw [List.length_map] at g3
      exact k H3 q s3 hq g3
end
end K26
open L2
namespace K26
open PySem L2 PySem.Spec PyProof.Rows
seal L2.PE L2.PT L2.PW L2.PA L2.PS L2.PSs L2.PI L2.PG L2.PTs L2.PGs
section
variable {P:Program} {w:World} {K:PySem.W.Frag} {mg:Str→Option Value} {base:Heap} {c:Cs} {TT1 TT2:Addr}
theorem mask_step (m i:Nat) (b:Bool):((m:Nat):Int)+(if b=true then 1 else 0)*2 ^ ((i:Nat):Int).toNat=((m+b.toNat*2 ^ i:Nat):Int):=by
  rw [Int.toNat_natCast]
  cases b with
  | true=>
    rw [if_pos rfl,Int.one_mul,Bool.toNat_true,Nat.one_mul]
    push_cast
    rfl
  | false=>
    rw [if_neg (by decide),Int.zero_mul,Bool.toNat_false,Nat.zero_mul]
    rfl
noncomputable def sp__law_due:Sp:=fun vs H Q _=>∃ (p a b:Addr) (rs on off:List Nat) (wide own:Nat),vs=[.ref p,nV wide, .ref a, .ref b,nV own]∧H p=some (.lst (rs.map nV))∧H a=some (.lst (on.map nV))∧H b=some (.lst (off.map nV))∧
  (1≤on.length∧on.length≤60)∧rs.length≤60∧(1≤own∧own≤60)∧wide≤60∧
  ∀ H' d,Same H H'→((NoneBad (wide*own) rs own on off∧H' d=some (.lst ((planL (wide*own) rs own on).map nV)))∨∃ r i,FirstBad (wide*own) rs own on off r i∧H' d=some (.tup [nV (r+1),nV (i+1)]))→Q (.ref d) H'
noncomputable abbrev s__law_due:Stmt:=top 36
theorem sc__law_due:FnScope ["_law_rows","_law_wide","_law_on","_law_off","_law_own","_law_plan","_law_row","_law_mask","_law_column","_law_some","_law_part"] ["_law_rows","_law_wide","_law_on","_law_off","_law_own"] (defScope s__law_due):=⟨rfl,rfl,rfl,by decide +kernel,rfl,by decide +kernel,by decide +kernel⟩
theorem ok__law_due {f:Addr} {fd:FuncData} (F:Fun K "_law_due" "_law_due" s__law_due f fd) (T:Txt K mg c):FnOk P w K mg base CX0 1 f fd ["_law_rows","_law_wide","_law_on","_law_off","_law_own"] sp__law_due:=by
  refine F.ok sc__law_due (fun vs H Q E h=> ?_) (fun cdv A outer s H vs Q E hr h=> ?_)
  · obtain ⟨p,a,b,rs,on,off,wide,own,rfl,_⟩:=h
    rfl
  · obtain ⟨p,a,b,rs,on,off,wide,own,rfl,hp,ha,hb,⟨l1,l2⟩,l3,⟨w1,w2⟩,w3,k⟩:=h
    have kq:=fun (nb:NoneBad (wide*own) rs own on off) H' (l:Addr) (s:Same H H') (g:H' l=some (.lst ((planL (wide*own) rs own on).map nV)))=>k H' l s (.inl ⟨nb,g⟩)
    have kf:=fun r i (fb:FirstBad (wide*own) rs own on off r i) H' (t:Addr) (s:Same H H') (g:H' t=some (.tup [nV (r+1),nV (i+1)]))=>k H' t s (.inr ⟨r,i,fb,g⟩)
    clear k
    have ew:wide*own / own=wide:=Nat.mul_div_cancel _ w1
    unfold NoneBad planL at kq
    unfold FirstBad at kf
    rw [ew] at kq kf
    have hm:rs.length / on.length≤60:=Nat.le_trans (Nat.div_le_self _ _) l3
    generalize hmy:rs.length / on.length=many at kq kf hm
    have hu:=hr.units0
    refine ⟨_,(pss_cons (ps_set (i:=5) sc__law_due.nd rfl (Or.inl rfl) (pe_lst pa_nil))
      (pss_cons (ps_for PassesOwn.never rfl (pi_range1 rfl (T.own _ (by decide)) (pa_cons (pe_op op_fdivL (pe_callB (k_len (K:=K)) rfl (T.own _ (by decide)) boot_len (pa_cons (pv 0) pa_nil)) (pe_callB (k_len (K:=K)) rfl (T.own _ (by decide)) boot_len (pa_cons (pv 2) pa_nil))) pa_nil)) (pg_name (i:=6) sc__law_due.nd rfl (Or.inl rfl)) (pss_cons (ps_set (i:=7) sc__law_due.nd rfl (Or.inl rfl) pe_int)
      (pss_cons (ps_for PassesOwn.never rfl (pi_range1 rfl (T.own _ (by decide)) (pa_cons (pv 1) pa_nil)) (pg_name (i:=8) sc__law_due.nd rfl (Or.inr rfl)) (pss_cons (ps_set (i:=9) sc__law_due.nd rfl (Or.inl rfl) (pe_slice (k_sll (K:=K)) (pv 0) (po_some (pe_op op_mul (pv 6) (pe_callB (k_len (K:=K)) rfl (T.own _ (by decide)) boot_len (pa_cons (pv 2) pa_nil)))) (po_some (pe_op op_mul (pe_op op_add (pv 6) pe_int) (pe_callB (k_len (K:=K)) rfl (T.own _ (by decide)) boot_len (pa_cons (pv 2) pa_nil))))))
      (pss_cons (ps_comp1 (i:=10) sc__law_due.nd rfl (Or.inl rfl) (k_pil (K:=K) (pv 9)) (fun _ _ _ _=>pts_nil) (fun _ _ _ _=>(pe_op op_and (pe_op op_shr (pv 0) (pe_op op_mul (pv 1) (pv 2))) (pe_op op_sub (pe_op op_shl pe_int (pv 2)) pe_int))))
      (pss_cons (ps_if (PW.pt (pw_and (pt_cmpR (k_nel hu (K:=K)) (pv 10) (pv 2) (nomark _)) (pw_and1 (pt_cmpR (k_nel hu (K:=K)) (pv 10) (pv 3) (nomark _))))) (pss_one (ps_ret (pe_tup (pa_cons (pe_op op_add (pv 6) pe_int) (pa_cons (pe_op op_add (pv 8) pe_int) pa_nil))))) pss_nil)
      (pss_one (ps_set (i:=7) sc__law_due.nd rfl (Or.inl rfl) (pe_op op_add (pv 7) (pe_op op_shl (pe_callTy k_intB rfl (T.own _ (by decide)) boot_int (pa_cons (pe_cmpR (k_eql hu (K:=K)) (pv 10) (pv 2) (nomark _)) pa_nil)) (pv 8)))))))))
      (pss_one (ps_expr (kx_bm (K:=K) PySem.F.plainAttrs_list PySem.F.slot_list_append PySem.F.type_list_append mt_append (pv 5) (pa_cons (pv 7) pa_nil)))))))
      (pss_one (ps_ret (pv 5))))),?_⟩
    walk_at "w"
    intro q hq
    have s1:=same_new (o:=HO.lst []) hq
    have g1:upd H q (HO.lst []) q=some (.lst (((List.range 0).map fun r=>MM.ofB (fun i=>decide (partN rs own on.length r i=on)) wide).map nV)):=upd_same
    generalize upd H q (HO.lst [])=H1 at s1 g1 ⊢
    walk_at "w"
    refine rd_lenL (SqL.of (s1 _ _ hp)) ?_
    walk_at "w"
    refine rd_lenL (SqL.of (s1 _ _ ha)) ?_
    walk_at "w"
    rw [List.length_map,List.length_map]
    refine rd_rI ⟨by omega,by omega⟩ ?_
    rw [show ((rs.length:Nat):Int) / ((on.length:Nat):Int)=((rs.length / on.length:Nat):Int) by push_cast;rfl,hmy]
    walk_at "w"
    refine ⟨_,rfl,by omega,by omega,?_⟩
    rw [Int.toNat_natCast]
    refine for_srcW (H0:=H) (fs_range0 (n:=many)) (fun r σ H3=>∃ u1 u2 u3 u4 u5,σ=[some (.ref p),some (nV wide),some (.ref a),some (.ref b),some (nV own),some (.ref q),u1,u2,u3,u4,u5]∧Same H H3∧H3 q=some (.lst (((List.range r).map fun r=>MM.ofB (fun i=>decide (partN rs own on.length r i=on)) wide).map nV))∧∀ r',r'<r→∀ j,j<wide→¬ BadAt rs on off own on.length r' j) ⟨_,_,_,_,_,rfl,s1,g1,fun r' h=>absurd h (by omega)⟩ (fun i σ H3 ⟨_,_,_,_,_,_,s,_⟩=>s) ?_ ?_
    · rintro r σ H' H3 hr3 ⟨u1,u2,u3,u4,u5,rfl,s',g',nb⟩ s3
      have sH:=s'.trans s3
      have gq:=s3 _ _ g'
      walk_at "w"
      refine ⟨_,rfl,by omega,by omega,?_⟩
      rw [Int.toNat_natCast]
      refine for_src (fs_range0 (n:=wide)) (fun i σ H4=>∃ u3 u4 u5,σ=[some (.ref p),some (nV wide),some (.ref a),some (.ref b),some (nV own),some (.ref q),some (nV r),some (nV (MM.ofB (fun i=>decide (partN rs own on.length r i=on)) i)),u3,u4,u5]∧Same H3 H4∧∀ j,j<i→¬ BadAt rs on off own on.length r j) ⟨_,_,_,rfl,Same.refl _,fun j h=>absurd h (by omega)⟩ (fun i σ H4 ⟨_,_,_,_,z,_⟩=>z) ?_ ?_
      · rintro i σ H4 H5 hi ⟨u3,u4,u5,rfl,s4,nbi⟩ s5
        have s35:=s4.trans s5
        have sZ:=sH.trans s35
        have e1:((r:Nat):Int)*((on.length:Nat):Int)=((r*on.length:Nat):Int):=by push_cast;rfl
        have e2:(((r:Nat):Int)+1)*((on.length:Nat):Int)=(((r+1)*on.length:Nat):Int):=by push_cast;rfl
        have e3:((i:Nat):Int)*((own:Nat):Int)=((own*i:Nat):Int):=by rw [Nat.mul_comm];push_cast;rfl
        have m1:r*on.length≤(r+1)*on.length:=Nat.mul_le_mul_right _ (by omega)
        have b3:own*i≤3600:=Nat.mul_le_mul w2 (show i≤60 by omega)
        have pl:=partN_len rs own on.length r i
        walk_at "w"
        refine rd_lenL (SqL.of (sZ _ _ ha)) ?_
        walk_at "w"
        rw [List.length_map]
        refine rd_rI (.inl ⟨by omega,by omega⟩) ?_
        rw [e1]
        walk_at "w"
        refine rd_lenL (SqL.of (sZ _ _ ha)) ?_
        walk_at "w"
        rw [List.length_map]
        refine rd_rI (.inl ⟨by omega,by omega⟩) ?_
        rw [e2]
        walk_at "w"
        refine rd_slL (SqL.of (sZ _ _ hp)) fun t1 ht1=> ?_
        rw [cut_mid (by omega) (by omega),Int.toNat_natCast,Int.toNat_natCast, ← List.map_take, ← List.map_drop]
        have lq:((rs.take ((r+1)*on.length)).drop (r*on.length)).length≤60:=by
          rw [List.length_drop,List.length_take]
          omega
        have ep:partN rs own on.length r i=((rs.take ((r+1)*on.length)).drop (r*on.length)).map fun p=>(p >>> (own*i)) &&& (2 ^ own - 1):=rfl
        generalize (rs.take ((r+1)*on.length)).drop (r*on.length)=ps at lq ep ⊢
        have s6:=same_new (o:=HO.lst (ps.map nV)) ht1
        have g6:upd H5 t1 (HO.lst (ps.map nV)) t1=_:=upd_same
        generalize upd H5 t1 (HO.lst (ps.map nV))=H6 at s6 g6 ⊢
        walk_at "w"
        refine ⟨t1,rfl,⟨_,SqL.of g6⟩,fun D hD=> ?_⟩
        refine ints_comp (G:=fun j=>(((ps.getD j 0 >>> (own*i)) &&& (2 ^ own - 1):Nat):Int)) (src_list (SqL.of g6) rfl) hD (by rw [List.length_map];omega) ?_ ?_
        · intro j H7 R hj s7 kk
          rw [getD_nat hj]
          walk_at "w"
          refine rd_rI (.inl ⟨by omega,by omega⟩) ?_
          rw [e3]
          walk_at "w"
          refine rd_rI (by show (0:Int)≤_;omega) ?_
          rw [shr_nat]
          walk_at "w"
          refine rd_rI ⟨by omega,by omega,by decide⟩ ?_
          rw [pw_nat]
          walk_at "w"
          have hp0:=Nat.two_pow_pos own
          rw [show ((2 ^ own:Nat):Int) - 1=((2 ^ own - 1:Nat):Int) by omega,bA]
          exact kk H7 (Same.refl _)
        intro H7 s7 g7
        have g7:H7 D=some (.lst ((partN rs own on.length r i).map nV)):=by
          rw [g7,ep,natsL,List.length_map,map_range_getD (fun p=>(p >>> (own*i)) &&& (2 ^ own - 1)) ps 0]
        generalize hpp:partN rs own on.length r i=pp at g7 pl
        have s37:=s35.trans (s6.trans s7)
        have sY:=sH.trans s37
        walk_at "w"
        refine rd_neLN (SqL.of g7) (SqL.of (sY _ _ ha)) ?_
        have fin:∀ bit:Bool,decide (pp=on)=bit→(MM.ofB (fun i=>decide (partN rs own on.length r i=on)) (i+1))=MM.ofB (fun i=>decide (partN rs own on.length r i=on)) i+bit.toNat*2 ^ i:=fun bit hb=>by
          show MM.ofB _ i+(decide (partN rs own on.length r i=on)).toNat*2 ^ i=_
          rw [hpp,hb]
        by_cases h1:pp=on
        · have nbs:∀ j,j<i+1→¬ BadAt rs on off own on.length r j:=fun j hj=>by
            by_cases e:j=i
            · rw [e];exact fun z=>z.1 (hpp.trans h1)
            · exact nbi j (by omega)
          have f1:=fin true (decide_eq_true h1)
          rw [decide_eq_true h1]
          walk_at "w"
          refine rd_eqLN (SqL.of g7) (SqL.of (sY _ _ ha)) ?_
          rw [decide_eq_true h1]
          walk_at "w"
          refine ⟨true,rfl,?_⟩
          walk_at "w"
          refine rd_rI ⟨by omega,by omega,by decide⟩ ?_
          walk_at "w"
          rw [mask_step _ _ true, ← f1]
          exact ⟨_,_,_,rfl,s37,nbs⟩
        · rw [decide_eq_false h1]
          walk_at "w"
          refine rd_neLN (SqL.of g7) (SqL.of (sY _ _ hb)) ?_
          by_cases h2:pp=off
          · have nbs:∀ j,j<i+1→¬ BadAt rs on off own on.length r j:=fun j hj=>by
              by_cases e:j=i
              · rw [e];exact fun z=>z.2 (hpp.trans h2)
              · exact nbi j (by omega)
            have f1:=fin false (decide_eq_false h1)
            rw [decide_eq_true h2]
            walk_at "w"
            refine rd_eqLN (SqL.of g7) (SqL.of (sY _ _ ha)) ?_
            rw [decide_eq_false h1]
            walk_at "w"
            refine ⟨false,rfl,?_⟩
            walk_at "w"
            refine rd_rI ⟨by omega,by omega,by decide⟩ ?_
            walk_at "w"
            rw [mask_step _ _ false, ← f1]
            exact ⟨_,_,_,rfl,s37,nbs⟩
          · rw [decide_eq_false h2]
            walk_at "w"
            intro t2 ht2
            exact kf r i ⟨hr3,hi,nb,nbi,⟨by rw [hpp];exact h1,by rw [hpp];exact h2⟩⟩ _ t2 (sY.trans (same_new ht2)) upd_same
      · rintro σ H4 ⟨u3,u4,u5,rfl,s4,nbi⟩
        walk_at "w"
        refine tyL (SqL.of (s4 _ _ gq)) ?_
        walk_at "w"
        refine rd_app (s4 _ _ gq) (by simp;omega) ?_
        walk_at "w"
        refine ⟨_,_,_,_,_,rfl,same_updW (sH.trans s4) hq,?_,fun r' hr' j hj=> ?_⟩
        · rw [upd_same,List.range_succ,List.map_append,List.map_append]
          rfl
        · by_cases e:r'=r
          · rw [e];exact nbi j hj
          · exact nb r' (by omega) j hj
    · rintro σ H3 ⟨u1,u2,u3,u4,u5,rfl,s3,g3,nb⟩
      walk_at "w"
      exact kq nb H3 q s3 g3
noncomputable def sp__law_blocks:Sp:=fun vs H Q _=>∃ (W:Int) (own high:Nat),vs=[.int W,nV own,nV high]∧(1≤own∧own≤6)∧(1≤high∧high≤4)∧
  ∀ H' p a b (on off:List Nat),Same H H'→H' p=some (.tup [.ref a, .ref b])→H' a=some (.lst (on.map nV))→H' b=some (.lst (off.map nV))→on.length=high→off.length=high→(∀ r∈on,r<2 ^ own)→(∀ r∈off,r<2 ^ own)→on≠off→Q (.ref p) H'
theorem getD_len {n:Nat} {G:Nat→Nat}:((List.range n).map G).length=n:=by simp
noncomputable abbrev s__law_blocks:Stmt:=top 38
theorem sc__law_blocks:FnScope ["_law_whole_here","_law_own","_law_high","_law_on","_law_off","_law_at"] ["_law_whole_here","_law_own","_law_high"] (defScope s__law_blocks):=⟨rfl,rfl,rfl,by decide +kernel,rfl,by decide +kernel,by decide +kernel⟩
theorem ok__law_blocks {f:Addr} {fd:FuncData} (F:Fun K "_law_blocks" "_law_blocks" s__law_blocks f fd) (T:Txt K mg c) (c__law_mixed:CallF P w K mg base "_law_mixed" 1 ["_law_cell","_law_k"] sp__law_mixed):FnOk P w K mg base CX0 2 f fd ["_law_whole_here","_law_own","_law_high"] sp__law_blocks:=by
  refine F.ok sc__law_blocks (fun vs H Q E h=> ?_) (fun cdv A outer s H vs Q E hr h=> ?_)
  · obtain ⟨W,own,high,rfl,_⟩:=h
    rfl
  · obtain ⟨W,own,high,rfl,⟨o1,o2⟩,⟨h1,h2⟩,k⟩:=h
    have hu:=hr.units0
    refine ⟨_,(pss_cons (ps_comp1 (i:=3) sc__law_blocks.nd rfl (Or.inl rfl) (pi_range1 rfl (T.own _ (by decide)) (pa_cons (pv 2) pa_nil)) (fun _ _ _ _=>pts_nil) (fun _ _ _ _=>(pe_op op_mod (pe_callF c__law_mixed hr (pa_cons (pv 2) (pa_cons (pe_op op_add pe_int (pv 0)) pa_nil))) (pe_op op_shl pe_int (pv 1)))))
      (pss_cons (ps_comp1 (i:=4) sc__law_blocks.nd rfl (Or.inl rfl) (pi_range1 rfl (T.own _ (by decide)) (pa_cons (pv 2) pa_nil)) (fun _ _ _ _=>pts_nil) (fun _ _ _ _=>(pe_op op_mod (pe_callF c__law_mixed hr (pa_cons (pv 2) (pa_cons (pe_op op_add pe_int (pv 0)) pa_nil))) (pe_op op_shl pe_int (pv 1)))))
      (pss_cons (ps_if (PW.pt (pw_or (pt_cmpR (k_eql hu (K:=K)) (pv 3) (pv 4) (nomark _)) (pw_or1 (pt_cmpR op_eq (pe_op op_mod (pe_callF c__law_mixed hr (pa_cons (pv 0) (pa_cons pe_int pa_nil))) pe_int) pe_int (nomark _))))) (pss_cons (ps_set (i:=5) sc__law_blocks.nd rfl (Or.inl rfl) (pe_op op_mod (pe_callF c__law_mixed hr (pa_cons (pv 0) (pa_cons pe_int pa_nil))) (pv 2)))
      (pss_one (ps_set (i:=4) sc__law_blocks.nd rfl (Or.inl rfl) (pe_op (k_cat (K:=K)) (pe_op (k_cat (K:=K)) (pe_slice (k_sll (K:=K)) (pv 3) po_none (po_some (pv 5))) (pe_lst (pa_cons (pe_op op_xor (pe_ix (k_ixl (K:=K)) (pv 3) (pv 5) (fun _ _=>rfl)) (pe_op op_shl pe_int (pe_op op_mod (pe_callF c__law_mixed hr (pa_cons (pv 0) (pa_cons pe_int pa_nil))) (pv 1)))) pa_nil))) (pe_slice (k_sll (K:=K)) (pv 3) (po_some (pe_op op_add (pv 5) pe_int)) po_none))))) pss_nil)
      (pss_one (ps_ret (pe_tup (pa_cons (pv 3) (pa_cons (pv 4) pa_nil)))))))),?_⟩
    walk_at "w"
    refine ⟨_,rfl,by omega,by omega,fun D hD=> ?_⟩
    rw [Int.toNat_natCast]
    refine ints_comp (G:=fun i=>(((mixV W (10+(i:Nat))%(2 ^ own:Nat)).toNat:Nat):Int)) (src_range0 rfl) hD (by omega) ?_ ?_
    · intro i H' R hi s kk
      walk_at "w"
      refine ⟨_,_,rfl,⟨by omega,by omega⟩,?_⟩
      walk_at "w"
      refine rd_rI ⟨by omega,by omega,by decide⟩ ?_
      walk_at "w"
      refine rd_rI (pw_pos _) ?_
      rw [md_nat]
      exact kk H' (Same.refl _)
    intro H1 s1 g1
    rw [natsL] at g1
    generalize hon:(List.range high).map (fun i=>(mixV W (10+(i:Nat))%(2 ^ own:Nat)).toNat)=on at g1
    have lon:on.length=high:=by rw [← hon];exact getD_len
    have bon:∀ r∈on,r<2 ^ own:=fun r hr=>by
      rw [← hon] at hr
      obtain ⟨i,_,rfl⟩:=List.mem_map.mp hr
      exact md_lt _ _
    clear hon
    walk_at "w"
    refine ⟨_,rfl,by omega,by omega,fun D2 hD2=> ?_⟩
    rw [Int.toNat_natCast]
    refine ints_comp (G:=fun i=>(((mixV W (20+(i:Nat))%(2 ^ own:Nat)).toNat:Nat):Int)) (src_range0 rfl) hD2 (by omega) ?_ ?_
    · intro i H' R hi s kk
      walk_at "w"
      refine ⟨_,_,rfl,⟨by omega,by omega⟩,?_⟩
      walk_at "w"
      refine rd_rI ⟨by omega,by omega,by decide⟩ ?_
      walk_at "w"
      refine rd_rI (pw_pos _) ?_
      rw [md_nat]
      exact kk H' (Same.refl _)
    intro H2 s2 g2
    rw [natsL] at g2
    generalize hoff:(List.range high).map (fun i=>(mixV W (20+(i:Nat))%(2 ^ own:Nat)).toNat)=off at g2
    have loff:off.length=high:=by rw [← hoff];exact getD_len
    have boff:∀ r∈off,r<2 ^ own:=fun r hr=>by
      rw [← hoff] at hr
      obtain ⟨i,_,rfl⟩:=List.mem_map.mp hr
      exact md_lt _ _
    clear hoff
    have gA:=s2 _ _ g1
    have s12:=s1.trans s2
    walk_at "v"
    refine ifJ (fun σ H3=>∃ u1 b',∃ of':List Nat,σ=[some (.int W),some (nV own),some (nV high),some (.ref D),some (.ref b'),u1]∧Same H2 H3∧H3 b'=some (.lst (of'.map nV))∧of'.length=high∧(∀ r∈of',r<2 ^ own)∧on≠of') ?_ (fun key=> ?_)
    · rintro σ H3 ⟨u1,b',of',rfl,s3,g3,l3,b3,ne⟩
      walk_at "w"
      intro p hp
      exact k _ p D b' on of' (s12.trans (s3.trans (same_new hp))) upd_same (same_new hp _ _ (s3 _ _ gA)) (same_new hp _ _ g3) lon l3 bon b3 ne
    walk_at "w"
    refine rd_eqLN (SqL.of gA) (SqL.of g2) ?_
    by_cases e1:on=off
    case' neg=>
      rw [decide_eq_false e1]
      refine ⟨false,rfl,?_⟩
      refine iteF ?_
      walk_at "w"
      refine ⟨W,4,rfl,⟨by decide,by decide⟩,?_⟩
      walk_at "w"
      refine rd_rI (by decide) ?_
      walk_at "w"
      by_cases e2:mixV W 4%3=0
      case neg=>
        rw [decide_eq_false e2]
        refine iteF ?_
        exact key _ _ ⟨_,D2,off,rfl,Same.refl _,g2,loff,boff,e1⟩
      rw [decide_eq_true e2]
      refine iteT ?_
    case' pos=>
      rw [decide_eq_true e1]
      refine ⟨true,rfl,?_⟩
      refine iteT ?_
      refine iteT ?_
    all_goals
      walk_at "w"
      refine ⟨W,5,rfl,⟨by decide,by decide⟩,?_⟩
      walk_at "w"
      refine rd_rI (by show (0:Int)<_;omega) ?_
      obtain ⟨at',eA,hA⟩:∃ t:Nat,mixV W 5%((high:Nat):Int)=(t:Nat)∧t<high:=by
        have h0:=Int.emod_nonneg (mixV W 5) (show ((high:Nat):Int)≠0 by omega)
        have h1:=Int.emod_lt_of_pos (mixV W 5) (show (0:Int)<((high:Nat):Int) by omega)
        exact ⟨(mixV W 5%((high:Nat):Int)).toNat,by omega,by omega⟩
      rw [eA]
      walk_at "w"
      refine rd_slL (SqL.of gA) fun t1 ht1=> ?_
      rw [cut_to (by omega),Int.toNat_natCast, ← List.map_take]
      have z1:=same_new (o:=HO.lst ((on.take at').map nV)) ht1
      have y1:upd H2 t1 (HO.lst ((on.take at').map nV)) t1=_:=upd_same
      generalize upd H2 t1 (HO.lst ((on.take at').map nV))=H3 at z1 y1 ⊢
      walk_at "w"
      refine rd_ixL (SqL.of (z1 _ _ gA)) (atI_natV (by omega) (by omega)) ?_
      rw [Int.toNat_natCast]
      walk_at "w"
      refine ⟨W,6,rfl,⟨by decide,by decide⟩,?_⟩
      walk_at "w"
      refine rd_rI (by show (0:Int)<_;omega) ?_
      obtain ⟨m,eM,hM⟩:∃ t:Nat,mixV W 6%((own:Nat):Int)=(t:Nat)∧t<own:=by
        have h0:=Int.emod_nonneg (mixV W 6) (show ((own:Nat):Int)≠0 by omega)
        have h1:=Int.emod_lt_of_pos (mixV W 6) (show (0:Int)<((own:Nat):Int) by omega)
        exact ⟨(mixV W 6%((own:Nat):Int)).toNat,by omega,by omega⟩
      rw [eM]
      walk_at "w"
      refine rd_rI ⟨by omega,by omega,by decide⟩ ?_
      rw [pw_nat]
      walk_at "w"
      rw [bX]
      walk_at "w"
      intro t2 ht2
      have z2:=same_new (o:=HO.lst [nV (on.getD at' 0 ^^^ 2 ^ m)]) ht2
      have y2:upd H3 t2 (HO.lst [nV (on.getD at' 0 ^^^ 2 ^ m)]) t2=_:=upd_same
      generalize upd H3 t2 (HO.lst [nV (on.getD at' 0 ^^^ 2 ^ m)])=H4 at z2 y2 ⊢
      walk_at "w"
      refine rd_cat (SqL.of (z2 _ _ y1)) (SqL.of y2) (by simp;omega) fun t3 ht3=> ?_
      have z3:=same_new (o:=HO.lst ((on.take at').map nV++[nV (on.getD at' 0 ^^^ 2 ^ m)])) ht3
      have y3:upd H4 t3 (HO.lst ((on.take at').map nV++[nV (on.getD at' 0 ^^^ 2 ^ m)])) t3=_:=upd_same
      generalize upd H4 t3 (HO.lst ((on.take at').map nV++[nV (on.getD at' 0 ^^^ 2 ^ m)]))=H5 at z3 y3 ⊢
      have z15:=z1.trans (z2.trans z3)
      walk_at "w"
      refine rd_slL (SqL.of (z15 _ _ gA)) fun t4 ht4=> ?_
      rw [cut_from (by omega),show (((at':Nat):Int)+1).toNat=at'+1 by omega, ← List.map_drop]
      have z4:=same_new (o:=HO.lst ((on.drop (at'+1)).map nV)) ht4
      have y4:upd H5 t4 (HO.lst ((on.drop (at'+1)).map nV)) t4=_:=upd_same
      generalize upd H5 t4 (HO.lst ((on.drop (at'+1)).map nV))=H6 at z4 y4 ⊢
      walk_at "w"
      refine rd_cat (SqL.of (z4 _ _ y3)) (SqL.of y4) (by simp;omega) fun t5 ht5=> ?_
      refine key _ _ ⟨_,t5,on.take at'++[on.getD at' 0 ^^^ 2 ^ m]++on.drop (at'+1),rfl,z15.trans (z4.trans (same_new ht5)),?_,?_,fun r hr=> ?_,fun z=> ?_⟩
      · rw [upd_same,List.map_append,List.map_append]
        rfl
      · simp
        omega
      · rcases List.mem_append.mp hr with y | y
        · rcases List.mem_append.mp y with y | y
          · exact bon r (List.mem_of_mem_take y)
          · rw [List.mem_singleton.mp y]
            exact Nat.xor_lt_two_pow (bon _ (getD_mem (by omega))) (Nat.pow_lt_pow_right (by decide) hM)
        · exact bon r (List.mem_of_mem_drop y)
      · have q:=congrArg (fun l=>l.getD at' 0) z
        have e5:(on.take at'++[on.getD at' 0 ^^^ 2 ^ m]++on.drop (at'+1)).getD at' 0=on.getD at' 0 ^^^ 2 ^ m:=by
          have l5:(on.take at').length=at':=by rw [List.length_take];omega
          rw [List.append_assoc,List.getD_eq_getElem?_getD,List.getElem?_append_right (by omega),l5,Nat.sub_self]
          rfl
        have q:on.getD at' 0=on.getD at' 0 ^^^ 2 ^ m:=q.trans e5
        have q:=congrArg (fun n=>n.testBit m) q
        simp only [Nat.testBit_xor,Nat.testBit_two_pow_self] at q
        cases h:(on.getD at' 0).testBit m <;> rw [h] at q <;> cases q
end
end K26
open L2
namespace K26
open PySem L2 PySem.Spec PyProof.Rows
seal L2.PE L2.PT L2.PW L2.PA L2.PS L2.PSs L2.PI L2.PG L2.PTs L2.PGs
section
variable {P:Program} {w:World} {K:PySem.W.Frag} {mg:Str→Option Value} {base:Heap} {c:Cs} {TT1 TT2:Addr}
noncomputable abbrev lqR:Str:=(envOfC "_law_right" (defScope (top 37)) 0 0 .none).qual++"<lambda>"
noncomputable abbrev lqF:Str:=(envOfC "_law_refused" (defScope (top 39)) 0 0 .none).qual++"<lambda>"
theorem first_uniq {n:Nat} {rs:List Nat} {nO:Nat} {on off:List Nat} {r i r' i':Nat} (a:FirstBad n rs nO on off r i) (b:FirstBad n rs nO on off r' i'):r=r'∧i=i':=by
  obtain ⟨_,a2,a3,a4,a5⟩:=a
  obtain ⟨_,b2,b3,b4,b5⟩:=b
  have h1:¬ r<r':=fun h=>b3 r h i a2 a5
  have h2:¬ r'<r:=fun h=>a3 r' h i' b2 b5
  obtain rfl:r=r':=by omega
  have h3:¬ i<i':=fun h=>b4 i h a5
  have h4:¬ i'<i:=fun h=>a4 i' h b5
  exact ⟨rfl,by omega⟩
noncomputable def But (f:Addr) (H H':Hp):Prop:=∀ b o,b≠f→H b=some o→H' b=some o
theorem But.same {f:Addr} {H H1 H2:Hp} (x:But f H H1) (s:Same H1 H2):But f H H2:=fun b o n e=>s b o (x b o n e)
theorem But.cl {C f x:Addr} {H H':Hp} {n:Nat} {rs:List Nat} (u:But f H H') (h:ClAt C H x n rs) (hf:∀ o,H f=some o→(∀ C dx fs,o≠ .ins C dx fs)∧∀ xs,o≠ .tup xs):ClAt C H' x n rs:=by
  obtain ⟨dx,t,h1,h2⟩:=h
  exact ⟨dx,t,u _ _ (fun z=>(hf _ (by rw [← z];exact h1)).1 _ _ _ rfl) h1,u _ _ (fun z=>(hf _ (by rw [← z];exact h2)).2 _ rfl) h2⟩
theorem LamT.but {f T:Addr} {H H':Hp} {q:Str} {xs:List V} (h:LamT H T q) (u:But f H H') (hf:H f=some (.lst xs)):LamT H' T q:=by
  obtain ⟨ps,h1,h2,h3⟩:=h
  refine ⟨ps,u _ _ (fun z=>by rw [z,hf] at h1;cases h1) h1,h2,fun p cv e=> ?_⟩
  obtain ⟨c',oc,e1,e2,e3⟩:=h3 p cv e
  exact ⟨c',oc,e1,u _ _ (fun z=>by rw [z,hf] at e2;cases e2) e2,e3⟩
theorem lam_no {T:Addr} {H:Hp} {q:Str} (h:LamT H T q):∀ o,H T=some o→(∀ C dx fs,o≠ .ins C dx fs)∧∀ xs,o≠ .tup xs:=fun o e=>by
  obtain ⟨ps,h1,_⟩:=h
  rw [h1] at e
  cases e
  exact ⟨fun _ _ _ z=>(by cases z),fun _ z=>(by cases z)⟩
theorem lst_no {f:Addr} {H:Hp} {ys:List V} (h:H f=some (.lst ys)):∀ o,H f=some o→(∀ C dx fs,o≠ .ins C dx fs)∧∀ xs,o≠ .tup xs:=fun o e=>by
  rw [h] at e
  cases e
  exact ⟨fun _ _ _ z=>(by cases z),fun _ z=>(by cases z)⟩
noncomputable def sp__law_right (K:PySem.W.Frag) (c:Cs) (TT:Addr):Sp:=fun vs H Q _=>∃ x n rs y nO on z nF off,∃ d:Addr,vs=[.ref x, .ref y, .ref z, .ref d]∧ClAt c.Cloth H x n rs∧ClAt c.Cloth H y nO on∧ClAt c.Cloth H z nF off∧ClOk n rs∧ClOk nO on∧ClOk nF off∧Into n rs nO on nF off∧LamT H TT lqR∧
  ((NoneBad n rs nO on off∧H d=some (.lst ((planL n rs nO on).map nV)))∨∃ r i,FirstBad n rs nO on off r i∧H d=some (.tup [nV (r+1),nV (i+1)]))∧
  ∀ H',LamT H' TT lqR→But TT H H'→Q (.bl true) H'
noncomputable abbrev s__law_right:Stmt:=top 37
theorem sc__law_right:FnScope ["_law_cloth","_law_on","_law_off","_law_due_here","_law_kinds_here","_law_wrong","_law_found"] ["_law_cloth","_law_on","_law_off","_law_due_here"] (defScope s__law_right):=⟨rfl,rfl,rfl,by decide +kernel,rfl,by decide +kernel,by decide +kernel⟩
theorem ok__law_right {f:Addr} {fd:FuncData} {cc:Addr} (hc:fd.code= .ref cc) (hd:PySem.W.CodeHd base cc TT1) (hbt:base.BuiltinsAt mg TT1) (F:Fun K "_law_right" "_law_right" s__law_right f fd) (T:Txt K mg c) (c__law_caught:CaughtF P w K mg base "_law_caught" 8 6 (sp__law_caught K c)) (c_plan_of:CallE P w K mg base "plan_of" 6 ["cloth","on","off"] (sp_plan_of c)) (d_Cloth_told:MethF P w K mg base c.Cloth "told" 1 ["self"] (sp_Cloth_told c)) (d_Cloth_ends:MethF P w K mg base c.Cloth "ends" 1 ["self"] (sp_Cloth_ends c)):FnOk P w K mg base CX0 9 f fd ["_law_cloth","_law_on","_law_off","_law_due_here"] (sp__law_right K c TT1):=by
  refine Fun.okL F hc sc__law_right (fun vs H Q E h=> ?_) (fun A outer s H vs Q E hr h=> ?_)
  · obtain ⟨x,n,rs,y,nO,on,z,nF,off,d,rfl,_⟩:=h
    rfl
  · obtain ⟨x,n,rs,y,nO,on,z,nF,off,d,rfl,cx,cy,cz,okx,oky,okz,into,L0,hd0,k⟩:=h
    have hu:=hr.units0
    refine ⟨_,(pss_cons (ps_set (i:=6) sc__law_right.nd rfl (Or.inr rfl) (pe_lst pa_nil))
      (pss_cons (ps_asg (pe_caughtF c__law_caught hr ⟨rfl,hd,hbt⟩ ["_law_found","_law_cloth","_law_on","_law_off"] [6,0,1,2] (fun _ _ _ _ _ _ _ _ hrL=>(kx_bm (K:=K) PySem.F.plainAttrs_list PySem.F.slot_list_append PySem.F.type_list_append mt_append (pv 0) (pa_cons (pe_callE c_plan_of (hrL.mono (by decide)) (passL fun _ _ _ h=>h) (pa_cons (pv 1) (pa_cons (pv 2) (pa_cons (pv 3) pa_nil)))) pa_nil))) (show lamChk _ _ _ ["_law_cloth","_law_on","_law_off","_law_due_here","_law_kinds_here","_law_wrong","_law_found"] (defScope s__law_right).names=true by decide +kernel)) (k_gtup (K:=K) rfl (pgs_cons (pg_name (i:=4) sc__law_right.nd rfl (Or.inl rfl)) (pgs_cons (pg_name (i:=5) sc__law_right.nd rfl (Or.inl rfl)) pgs_nil))))
      (pss_cons (ps_if (pt_val (pe_callB (k_isin (K:=K)) rfl (T.own _ (by decide)) boot_isinstance (pa_cons (pv 3) (pa_cons (pe_ty rfl (T.own _ (by decide)) boot_tuple') pa_nil)))) (pss_one (ps_ret (pe_and (pe_cmpR (k_eql hu (K:=K)) (pv 4) (pe_lst (pa_cons pe_str pa_nil)) (nomark _)) (pe_one (pe_cmpR (op_eqD hr.units) (pe_tup (pa_cons (pe_xfld (K:=K) (pv 5) rfl) (pa_cons (pe_xfld (K:=K) (pv 5) rfl) pa_nil))) (pv 3) (nomark _)))))) pss_nil)
      (pss_one (ps_ret (pe_and (pe_cmpR (k_eql hu (K:=K)) (pv 4) (pe_lst pa_nil) (nomark _)) (pe_and (pe_callB (k_isinC (K:=K)) rfl (T.own _ (by decide)) boot_isinstance (pa_cons (pe_ix (k_ixl (K:=K)) (pv 6) pe_int (fun _ _=>rfl)) (pa_cons (pe_gC T.g_Cloth) pa_nil))) (pe_one (pe_cmpR (op_eqD hr.units) (pe_methF0 (pe_ix (k_ixl (K:=K)) (pv 6) pe_int (fun _ _=>rfl)) d_Cloth_told (hr.mono (by decide))) (pe_tup (pa_cons (pe_op op_fdivL (pe_methF0 (pv 0) d_Cloth_ends (hr.mono (by decide))) (pe_methF0 (pv 1) d_Cloth_ends (hr.mono (by decide)))) (pa_cons (pv 3) pa_nil))) (nomark _)))))))))),?_⟩
    walk_at "w"
    intro f hf
    have s1:=same_new (o:=HO.lst []) hf
    have g1:upd H f (HO.lst []) f=some (.lst []):=upd_same
    generalize upd H f (HO.lst [])=H1 at s1 g1 ⊢
    have L1:=L0.same s1
    walk_at "w"
    refine rd_caught L1 [.ref f, .ref x, .ref y, .ref z] rfl (fun i j h=> ?_) fun H2 Lb go=> ?_
    · match i,h with
      | 0,h=>cases h;exact ⟨_,rfl,rfl⟩
      | 1,h=>cases h;exact ⟨_,rfl,rfl⟩
      | 2,h=>cases h;exact ⟨_,rfl,rfl⟩
      | 3,h=>cases h;exact ⟨_,rfl,rfl⟩
    have go:But TT1 H1 H2:=go
    have cx2:=go.cl (cx.same s1) (lam_no L1)
    have cy2:=go.cl (cy.same s1) (lam_no L1)
    have cz2:=go.cl (cz.same s1) (lam_no L1)
    have nf:f≠TT1:=fun z=>by
      obtain ⟨ps,h1,_⟩:=L1
      rw [← z,g1] at h1
      cases h1
    have g2:=go _ _ nf g1
    have nd:∀ o,H d=some o→(∃ xs,o= .lst xs∨o= .tup xs)→H2 d=some o:=fun o e ho=>go _ _ (fun z=>by
      obtain ⟨ps,h1,_⟩:=L1
      rw [z] at e
      rw [s1 _ _ e] at h1
      obtain ⟨xs,rfl | rfl⟩:=ho <;> cases h1) (s1 _ _ e)
    have back:∀ H9,But f H2 H9→But TT1 H H9:=fun H9 u b o n e=>u b o (fun z=>by rw [z,hf] at e;cases e) (go b o n (s1 b o e))
    rcases hd0 with ⟨none,hd⟩ | ⟨r,i,fb,hd⟩
    · have hd2:=nd _ hd ⟨_, .inl rfl⟩
      have ndf:d≠f:=fun z=>by rw [z,hf] at hd;cases hd
      refine ⟨fun H3=>∃ u,But f H2 H3∧H3 f=some (.lst [.ref u])∧ClAt c.Cloth H3 u (n / nO) (planL n rs nO on),fun _ _ _=>False,fun E' R hR hE=> ?_,fun H3 g3 H4 p l s4 gp gl=> ?_,fun _ _ _ z=>z.elim⟩
      · walk_at "w"
        refine tyL (SqL.of g2) ?_
        walk_at "w"
        refine ⟨x,n,rs,y,nO,on,z,nF,off,rfl,cx2,cy2,cz2,okx,oky,okz,fun z=>(z into).elim,fun _ _ H3 u s3 hu C3=> ?_,fun _ r i fb=>(none r fb.1 i fb.2.1 fb.2.2.2.2).elim⟩
        walk_at "w"
        refine rd_app (s3 _ _ g2) (by decide) ?_
        have bt:But f H2 (upd H3 f (.lst ([]++[V.ref u]))):=fun b o n e=>by
          rw [upd_ne n]
          exact s3 b o e
        refine hR _ _ ⟨u,bt,upd_same,?_⟩
        have bt3:But f H3 (upd H3 f (.lst ([]++[V.ref u]))):=fun b o n e=>by rw [upd_ne n];exact e
        exact bt3.cl C3 (lst_no (s3 _ _ g2))
      obtain ⟨u,bt,g3f,C3⟩:=g3
      have bt4:=bt.same s4
      have cx4:=(bt.cl cx2 (lst_no g2)).same s4
      have cy4:=(bt.cl cy2 (lst_no g2)).same s4
      have gf4:=s4 _ _ g3f
      have C4:=C3.same s4
      have gd4:=bt4 _ _ ndf hd2
      have L4:=(LamT.but Lb bt g2).same s4
      obtain ⟨du,tu,gu,_⟩:=id C4
      obtain ⟨dx,tx,hx,_⟩:=id cx4
      obtain ⟨dy,ty,hy,_⟩:=id cy4
      have o1:=oky.n1
      have o3:=oky.n2
      have lp:(planL n rs nO on).length≤60:=(planL_ok okx oky into.2.2.1 into.2.2.2).p2
      refine rd_gtup (SqT.of gp) rfl ?_
      walk_at "w"
      refine rd_isin (.lst gd4) (kb (b:=false) (by decide +kernel)) ?_
      walk_at "w"
      intro e0 he0
      have s5:=same_new (o:=HO.lst []) he0
      have ge:upd H4 e0 (HO.lst []) e0=some (.lst (([]:List Str).map V.str)):=upd_same
      generalize upd H4 e0 (HO.lst [])=H5 at s5 ge ⊢
      walk_at "w"
      refine rd_eqLS (as:=[]) (SqL.of (s5 _ _ gl)) (SqL.of ge) ?_
      rw [decide_eq_true rfl]
      walk_at "w"
      refine rd_ixL (SqL.of (s5 _ _ gf4)) (atI_nat (j:=0) rfl) ?_
      walk_at "w"
      refine rd_isinC (T.kd_Cloth.ty (s5 _ _ gu)) T.is_Cloth ?_
      walk_at "w"
      refine rd_ixL (SqL.of (s5 _ _ gf4)) (atI_nat (j:=0) rfl) ?_
      walk_at "w"
      refine ⟨_,_,_,rfl,s5 _ _ gu,rfl,?_⟩
      walk_at "w"
      refine ⟨u,_,_,rfl,C4.same s5,fun H6 pt lt s6 hpt hlt q1 q2=> ?_⟩
      have s56:=s5.trans s6
      walk_at "w"
      refine ⟨_,_,_,rfl,s56 _ _ hx,rfl,?_⟩
      walk_at "w"
      refine ⟨x,n,rs,rfl,cx4.same s56,?_⟩
      walk_at "w"
      refine ⟨_,_,_,rfl,s56 _ _ hy,rfl,?_⟩
      walk_at "w"
      refine ⟨y,nO,on,rfl,cy4.same s56,?_⟩
      walk_at "w"
      refine rd_rI ⟨by omega,by omega⟩ ?_
      rw [show ((n:Nat):Int) / ((nO:Nat):Int)=((n / nO:Nat):Int) by push_cast;rfl]
      walk_at "w"
      intro p2 hp2
      have s7:=same_new (o:=HO.tup [nV (n / nO),V.ref d]) hp2
      have g7:upd H6 p2 (HO.tup [nV (n / nO),V.ref d]) p2=_:=upd_same
      generalize upd H6 p2 (HO.tup [nV (n / nO),V.ref d])=H7 at s7 g7 ⊢
      walk_at "w"
      refine ⟨2, .tup [dN (n / nO),dL (planL n rs nO on)], .tup [dN (n / nO),dL (planL n rs nO on)],by decide,rp_twoT (s7 _ _ q1) (.int _) (rp_L (F:=fun _=>True) (s7 _ _ q2) trivial (by omega)),rp_twoT g7 (.int _) (rp_L (s7 _ _ (s56 _ _ gd4)) trivial (by omega)),rfl,?_⟩
      rw [eqD_refl]
      exact k _ (L4.same (s56.trans s7)) (back _ (bt4.same (s56.trans s7)))
    · have hd2:=nd _ hd ⟨_, .inr rfl⟩
      refine ⟨fun _=>False,fun C od H3=>C=c.NotGrown∧∃ dx,od=some dx∧Same H2 H3∧H3 dx=some (xdO dx [("row",nV (r+1)),("column",nV (i+1))]),fun E' R hR hE=> ?_,fun _ z=>z.elim,fun C od H3 z=> ?_⟩
      · walk_at "w"
        refine tyL (SqL.of g2) ?_
        walk_at "w"
        exact ⟨x,n,rs,y,nO,on,z,nF,off,rfl,cx2,cy2,cz2,okx,oky,okz,fun z=>(z into).elim,fun _ none=>(none r fb.1 i fb.2.1 fb.2.2.2.2).elim,fun _ r' i' fb' H3 dx s3 g3=>by
          obtain ⟨rfl,rfl⟩:=first_uniq fb fb'
          exact hE _ _ _ ⟨rfl,dx,rfl,s3,g3⟩⟩
      obtain ⟨rfl,dx,rfl,s3,g3⟩:=z
      refine ⟨T.xm_NotGrown_LoomError,4,kf_grown T,fun H4 p l a s4 ga gp gl=> ?_⟩
      have s24:=s3.trans s4
      have L4:=Lb.same s24
      refine rd_gtup (SqT.of gp) rfl ?_
      walk_at "w"
      refine rd_isin (.tup (s24 _ _ hd2)) (kb (b:=true) (by decide +kernel)) ?_
      walk_at "w"
      intro e0 he0
      have s5:=same_new (o:=HO.lst [V.str "grown"]) he0
      have ge:upd H4 e0 (HO.lst [V.str "grown"]) e0=some (.lst (([("grown":Str)]:List Str).map V.str)):=upd_same
      generalize upd H4 e0 (HO.lst [V.str "grown"])=H5 at s5 ge ⊢
      walk_at "w"
      refine rd_eqLS (as:=["grown"]) (SqL.of (s5 _ _ gl)) (SqL.of ge) ?_
      rw [decide_eq_true rfl]
      walk_at "w"
      refine rd_xfld ?_
      walk_at "w"
      refine ⟨a,_,dx,_,_,rfl,s5 _ _ ga,s5 _ _ (s4 _ _ g3),rfl,T.xk_NotGrown,T.xf_NotGrown_row,?_⟩
      refine rd_xfld ?_
      walk_at "w"
      refine ⟨a,_,dx,_,_,rfl,s5 _ _ ga,s5 _ _ (s4 _ _ g3),rfl,T.xk_NotGrown,T.xf_NotGrown_column,?_⟩
      walk_at "w"
      intro p2 hp2
      have s6:=same_new (o:=HO.tup [nV (r+1),nV (i+1)]) hp2
      have g6:upd H5 p2 (HO.tup [nV (r+1),nV (i+1)]) p2=_:=upd_same
      generalize upd H5 p2 (HO.tup [nV (r+1),nV (i+1)])=H6 at s6 g6 ⊢
      walk_at "w"
      refine ⟨1, .tup [dN (r+1),dN (i+1)], .tup [dN (r+1),dN (i+1)],by decide,rp_twoT (F:=fun _=>True) g6 (.int _) (.int _),rp_twoT (s6 _ _ (s5 _ _ (s24 _ _ hd2))) (.int _) (.int _),rfl,?_⟩
      rw [eqD_refl]
      have s26:=s24.trans (s5.trans s6)
      exact k _ (Lb.same s26) (back _ fun b o _ e=>s26 b o e)
noncomputable def sp__law_refused (K:PySem.W.Frag) (c:Cs) (TT:Addr):Sp:=fun vs H Q _=>∃ x n rs y nO on z nF off,vs=[.ref x, .ref y, .ref z]∧ClAt c.Cloth H x n rs∧ClAt c.Cloth H y nO on∧ClAt c.Cloth H z nF off∧ClOk n rs∧ClOk nO on∧ClOk nF off∧¬ Into n rs nO on nF off∧LamT H TT lqF∧
  ∀ H',LamT H' TT lqF→But TT H H'→Q (.bl true) H'
noncomputable abbrev s__law_refused:Stmt:=top 39
theorem sc__law_refused:FnScope ["_law_cloth","_law_on","_law_off"] ["_law_cloth","_law_on","_law_off"] (defScope s__law_refused):=⟨rfl,rfl,rfl,by decide +kernel,rfl,by decide +kernel,by decide +kernel⟩
theorem ok__law_refused {f:Addr} {fd:FuncData} {cc:Addr} (hc:fd.code= .ref cc) (hd:PySem.W.CodeHd base cc TT2) (hbt:base.BuiltinsAt mg TT2) (F:Fun K "_law_refused" "_law_refused" s__law_refused f fd) (T:Txt K mg c) (c__law_caught:CaughtF P w K mg base "_law_caught" 8 6 (sp__law_caught K c)) (c_plan_of:CallE P w K mg base "plan_of" 6 ["cloth","on","off"] (sp_plan_of c)):FnOk P w K mg base CX0 9 f fd ["_law_cloth","_law_on","_law_off"] (sp__law_refused K c TT2):=by
  refine Fun.okL F hc sc__law_refused (fun vs H Q E h=> ?_) (fun A outer s H vs Q E hr h=> ?_)
  · obtain ⟨x,n,rs,y,nO,on,z,nF,off,rfl,_⟩:=h
    rfl
  · obtain ⟨x,n,rs,y,nO,on,z,nF,off,rfl,cx,cy,cz,okx,oky,okz,into,L0,k⟩:=h
    have hu:=hr.units0
    refine ⟨_,(pss_one (ps_ret (pe_cmpR (k_eql hu (K:=K)) (pe_ix (k_ixt (K:=K)) (pe_caughtF c__law_caught hr ⟨rfl,hd,hbt⟩ ["_law_cloth","_law_on","_law_off"] [0,1,2] (fun _ _ _ _ _ _ _ _ hrL=>(pe_callE c_plan_of (hrL.mono (by decide)) (passL fun _ _ _ h=>h) (pa_cons (pv 0) (pa_cons (pv 1) (pa_cons (pv 2) pa_nil))))) (show lamChk _ _ _ ["_law_cloth","_law_on","_law_off"] (defScope s__law_refused).names=true by decide +kernel)) pe_int (fun _ _=>rfl)) (pe_lst (pa_cons pe_str pa_nil)) (nomark _)))),?_⟩
    walk_at "w"
    refine rd_caught L0 [.ref x, .ref y, .ref z] rfl (fun i j h=> ?_) fun H2 Lb go=> ?_
    · match i,h with
      | 0,h=>cases h;exact ⟨_,rfl,rfl⟩
      | 1,h=>cases h;exact ⟨_,rfl,rfl⟩
      | 2,h=>cases h;exact ⟨_,rfl,rfl⟩
    have go:But TT2 H H2:=go
    refine ⟨fun _=>False,fun C od H3=>C=c.BadCloth∧od=none∧Same H2 H3,fun E' R hR hE=> ?_,fun _ z=>z.elim,fun C od H3 z=> ?_⟩
    · walk_at "w"
      exact ⟨x,n,rs,y,nO,on,z,nF,off,rfl,go.cl cx (lam_no L0),go.cl cy (lam_no L0),go.cl cz (lam_no L0),okx,oky,okz,fun _ H3 s3=>hE _ _ _ ⟨rfl,rfl,s3⟩,fun z=>(into z).elim,fun z=>(into z).elim⟩
    obtain ⟨rfl,rfl,s3⟩:=z
    refine ⟨T.xm_BadCloth_LoomError,6,kf_cloth T,fun H4 p l a s4 ga gp gl=> ?_⟩
    walk_at "w"
    refine rd_ixT (SqT.of gp) (atI_nat (j:=0) rfl) ?_
    walk_at "w"
    intro e0 he0
    have s5:=same_new (o:=HO.lst [V.str "cloth"]) he0
    have ge:upd H4 e0 (HO.lst [V.str "cloth"]) e0=some (.lst (([("cloth":Str)]:List Str).map V.str)):=upd_same
    generalize upd H4 e0 (HO.lst [V.str "cloth"])=H5 at s5 ge ⊢
    walk_at "w"
    refine rd_eqLS (as:=["cloth"]) (SqL.of (s5 _ _ gl)) (SqL.of ge) ?_
    rw [decide_eq_true rfl]
    have s25:=s3.trans (s4.trans s5)
    exact k _ (Lb.same s25) (go.same s25)
end
end K26
open L2
namespace K26
open PySem L2 PySem.Spec PyProof.Rows
seal L2.PE L2.PT L2.PW L2.PA L2.PS L2.PSs L2.PI L2.PG L2.PTs L2.PGs
section
variable {P:Program} {w:World} {K:PySem.W.Frag} {mg:Str→Option Value} {base:Heap} {c:Cs} {TT1 TT2:Addr}
theorem But.toB {T:Addr} {H H':Hp} (u:But T H H'):Same (L2.bar T H) H':=bar_go bar_same u
theorem But.of {T:Addr} {H H':Hp} (s:Same (L2.bar T H) H'):But T H H':=fun b o n e=>s b o (by rw [bar_ne n];exact e)
theorem bar_cl {T:Addr} {H:Hp} {q:Str} {C x:Addr} {n:Nat} {rs:List Nat} (L:LamT H T q) (h:ClAt C H x n rs):ClAt C (bar T H) x n rs:=by
  obtain ⟨dx,t,h1,h2⟩:=h
  obtain ⟨ps,hT,_⟩:=L
  exact ⟨dx,t,bar_some h1 hT (fun z=>by cases z),bar_some h2 hT (fun z=>by cases z)⟩
theorem bar_lst {T:Addr} {H:Hp} {q:Str} {x:Addr} {xs:List V} (L:LamT H T q) (h:H x=some (.lst xs)):bar T H x=some (.lst xs):=by
  obtain ⟨ps,hT,_⟩:=L
  exact bar_some h hT (fun z=>by cases z)
theorem bar_tup {T:Addr} {H:Hp} {q:Str} {x:Addr} {xs:List V} (L:LamT H T q) (h:H x=some (.tup xs)):bar T H x=some (.tup xs):=by
  obtain ⟨ps,hT,_⟩:=L
  exact bar_some h hT (fun z=>by cases z)
theorem same_bar {T:Addr} {H H':Hp} (s:Same H H'):Same (bar T H) H':=fun b o e=>s b o (bar_same b o e)
theorem ok_wide {n m:Nat} {rs:List Nat} (h:ClOk n rs) (h1:n≤m) (h2:m≤60):ClOk m rs:=⟨Nat.le_trans h.n1 h1,h2,h.p1,h.p2,fun r hr=>Nat.lt_of_lt_of_le (h.lt r hr) (Nat.pow_le_pow_right (by decide) h1)⟩
noncomputable def sp__law_all_refused (K:PySem.W.Frag) (TT:Addr):Sp:=fun vs H Q _=>∃ (p a b:Addr) (rs on off:List Nat) (ends own:Nat),vs=[.ref p,nV ends, .ref a, .ref b,nV own]∧H p=some (.lst (rs.map nV))∧H a=some (.lst (on.map nV))∧H b=some (.lst (off.map nV))∧ClOk ends rs∧ClOk own on∧ClOk own off∧own≤6∧on.length=off.length∧on.length≤4∧own≤ends∧LamT H TT lqF∧
  ∀ H',LamT H' TT lqF→But TT H H'→Q (.bl true) H'
noncomputable abbrev s__law_all_refused:Stmt:=top 40
theorem sc__law_all_refused:FnScope ["_law_rows","_law_ends","_law_on","_law_off","_law_own","_law_cloth","_law_one","_law_other","_law_tall"] ["_law_rows","_law_ends","_law_on","_law_off","_law_own"] (defScope s__law_all_refused):=⟨rfl,rfl,rfl,by decide +kernel,rfl,by decide +kernel,by decide +kernel⟩
theorem ok__law_all_refused {f:Addr} {fd:FuncData} (F:Fun K "_law_all_refused" "_law_all_refused" s__law_all_refused f fd) (T:Txt K mg c) (c__law_refused:CallF P w K mg base "_law_refused" 9 ["_law_cloth","_law_on","_law_off"] (sp__law_refused K c TT2)) (m_Cloth:MakeE P w K mg base "Cloth" c.Cloth 4 ["self","ends","rows"] (sp_Cloth___init__ K c)) (d_Cloth_told:MethF P w K mg base c.Cloth "told" 1 ["self"] (sp_Cloth_told c)):FnOk P w K mg base CX0 10 f fd ["_law_rows","_law_ends","_law_on","_law_off","_law_own"] (sp__law_all_refused K TT2):=by
  refine F.ok sc__law_all_refused (fun vs H Q E h=> ?_) (fun cdv A outer s H vs Q E hr h=> ?_)
  · obtain ⟨p,a,b,rs,on,off,ends,own,rfl,_⟩:=h
    rfl
  · obtain ⟨p,a,b,rs,on,off,ends,own,rfl,hp,ha,hb,okR,okN,okF,w6,ll,l4,we,L0,k⟩:=h
    have e1:=okR.n1
    have e2:=okR.n2
    have q1:=okR.p1
    have q2:=okR.p2
    have v1:=okN.n1
    have m1:=okN.p1
    refine ⟨_,(pss_cons (ps_set (i:=5) sc__law_all_refused.nd rfl (Or.inl rfl) (pe_makeE m_Cloth (hr.mono (by decide)) passN (pa_cons (pv 1) (pa_cons (pv 0) pa_nil))))
      (pss_cons (ps_set (i:=6) sc__law_all_refused.nd rfl (Or.inl rfl) (pe_makeE m_Cloth (hr.mono (by decide)) passN (pa_cons (pv 4) (pa_cons (pv 2) pa_nil))))
      (pss_cons (ps_for PassesOwn.never rfl (k_pit (K:=K) (pe_tup (pa_cons (pe_makeE m_Cloth (hr.mono (by decide)) passN (pa_cons (pv 4) (pa_cons (pv 2) pa_nil))) (pa_cons (pe_makeE m_Cloth (hr.mono (by decide)) passN (pa_cons (pe_op op_add (pv 4) pe_int) (pa_cons (pv 3) pa_nil))) (pa_cons (pe_makeE m_Cloth (hr.mono (by decide)) passN (pa_cons (pv 4) (pa_cons (pe_op (k_cat (K:=K)) (pv 3) (pe_lst (pa_cons pe_int pa_nil))) pa_nil))) pa_nil))))) (pg_name (i:=7) sc__law_all_refused.nd rfl (Or.inl rfl)) (pss_one (ps_if (pt_not (pt_val (pe_callF c__law_refused hr (pa_cons (pv 5) (pa_cons (pv 6) (pa_cons (pv 7) pa_nil)))))) (pss_one (ps_ret pe_bl)) pss_nil)))
      (pss_cons (ps_if (PW.pt (pw_and (pt_cmpR op_lt (pv 1) pe_int (nomark _)) (pw_and1 (pt_not (pt_val (pe_callF c__law_refused hr (pa_cons (pv 5) (pa_cons (pe_makeE m_Cloth (hr.mono (by decide)) passN (pa_cons (pe_op op_add (pv 1) pe_int) (pa_cons (pv 2) pa_nil))) (pa_cons (pe_makeE m_Cloth (hr.mono (by decide)) passN (pa_cons (pe_op op_add (pv 1) pe_int) (pa_cons (pv 3) pa_nil))) pa_nil))))))))) (pss_one (ps_ret pe_bl)) pss_nil)
      (pss_cons (ps_set (i:=8) sc__law_all_refused.nd rfl (Or.inl rfl) (pe_op op_rep (pe_lst (pa_cons pe_int pa_nil)) (pe_op op_add (pe_callB (k_len (K:=K)) rfl (T.own _ (by decide)) boot_len (pa_cons (pv 0) pa_nil)) pe_int)))
      (pss_cons (ps_if (PW.pt (pw_and (pt_cmpR op_lt (pe_callB (k_len (K:=K)) rfl (T.own _ (by decide)) boot_len (pa_cons (pv 8) pa_nil)) pe_int (nomark _)) (pw_and1 (pt_not (pt_val (pe_callF c__law_refused hr (pa_cons (pv 5) (pa_cons (pe_makeE m_Cloth (hr.mono (by decide)) passN (pa_cons (pv 4) (pa_cons (pv 8) pa_nil))) (pa_cons (pe_makeE m_Cloth (hr.mono (by decide)) passN (pa_cons (pv 4) (pa_cons (pe_op (k_cat (K:=K)) (pe_lst (pa_cons pe_int pa_nil)) (pe_slice (k_sll (K:=K)) (pv 8) (po_some pe_int) po_none)) pa_nil))) pa_nil))))))))) (pss_one (ps_ret pe_bl)) pss_nil)
      (pss_one (ps_ret (pe_cmpR (op_eqD hr.units) (pe_methF0 (pv 5) d_Cloth_told (hr.mono (by decide))) (pe_tup (pa_cons (pv 1) (pa_cons (pv 0) pa_nil))) (nomark _)))))))))),?_⟩
    walk_at "w"
    refine cl_mk hp okR fun H1 cx s1 hcx C1=> ?_
    walk_at "w"
    refine cl_mk (s1 _ _ ha) okN fun H2 cy s2 hcy C2=> ?_
    have s12:=s1.trans s2
    walk_at "w"
    refine cl_mk (s12 _ _ ha) okN fun H3 o1 s3 ho1 C3=> ?_
    have s13:=s12.trans s3
    walk_at "w"
    rw [show ((own:Nat):Int)+1=((own+1:Nat):Int) by omega]
    refine cl_mk (s13 _ _ hb) (ok_wide okF (m:=own+1) (by omega) (by omega)) fun H4 o2 s4 ho2 C4=> ?_
    have s14:=s13.trans s4
    walk_at "w"
    intro z0 hz0
    have s5:=same_new (o:=HO.lst [V.int 0]) hz0
    have g5:upd H4 z0 (HO.lst [V.int 0]) z0=_:=upd_same
    generalize upd H4 z0 (HO.lst [V.int 0])=H5 at s5 g5 ⊢
    have s15:=s14.trans s5
    walk_at "w"
    refine rd_cat (SqL.of (s15 _ _ hb)) (SqL.of g5) (by simp;omega) fun z1 hz1=> ?_
    have s6:=same_new (o:=HO.lst (off.map nV++[V.int 0])) hz1
    have g6:upd H5 z1 (HO.lst (off.map nV++[V.int 0])) z1=some (.lst ((off++[0]).map nV)):=by rw [upd_same,List.map_append];rfl
    generalize upd H5 z1 (HO.lst (off.map nV++[V.int 0]))=H6 at s6 g6 ⊢
    have okG:ClOk own (off++[0]):=⟨v1,by omega,by simp,by simp;omega,fun r hr=>by
      rcases List.mem_append.mp hr with z | z
      · exact okF.lt r z
      · rw [List.mem_singleton.mp z];exact Nat.two_pow_pos _⟩
    walk_at "w"
    refine cl_mk g6 okG fun H7 o3 s7 ho3 C7=> ?_
    have s67:=s6.trans s7
    walk_at "w"
    intro tp htp
    have s8:=same_new (o:=HO.tup [V.ref o1,V.ref o2,V.ref o3]) htp
    have g8:upd H7 tp (HO.tup [V.ref o1,V.ref o2,V.ref o3]) tp=_:=upd_same
    generalize upd H7 tp (HO.tup [V.ref o1,V.ref o2,V.ref o3])=H8 at s8 g8 ⊢
    have s58:=s5.trans (s67.trans s8)
    have s48:=s4.trans s58
    have s38:=s3.trans s48
    have s18:=s2.trans s38
    have s08:=s1.trans s18
    have Cx:=C1.same s18
    have Cy:=C2.same s38
    have C1':=C3.same s48
    have C2':=C4.same s58
    have C3':=C7.same s8
    have hp:=s08 _ _ hp
    have ha:=s08 _ _ ha
    have hb:=s08 _ _ hb
    have L8:=L0.same s08
    clear s1 s2 s3 s4 s5 s6 s7 s8 s12 s13 s14 s15 s67 s58 s48 s38 s18 C1 C2 C3 C4 C7 g5 g6
    walk_at "w"
    refine ⟨tp,rfl,⟨_,SqT.of g8⟩,for_srcW (H0:=bar TT2 H8) (fs_tup (SqT.of (bar_tup L8 g8))) (fun i σ H9=>∃ u w,σ=[some (.ref p),some (nV ends),some (.ref a),some (.ref b),some (nV own),some (.ref cx),some (.ref cy),u,w]∧Same (bar TT2 H8) H9∧LamT H9 TT2 lqF) ⟨_,_,rfl,bar_same,L8⟩ (fun i σ H9 ⟨_,_,_,s,_⟩=>s) ?_ ?_⟩
    · rintro i σ H' H9 hi ⟨u,w',rfl,s',L'⟩ s9
      have sB:=s'.trans s9
      have L9:=L'.same s9
      have th:∃ o m os,[V.ref o1,V.ref o2,V.ref o3].getD i .non= .ref o∧ClAt c.Cloth H8 o m os∧ClOk m os∧¬ Into ends rs own on m os:=by
        match i,hi with
        | 0,_=>exact ⟨o1,own,on,rfl,C1',okN,fun z=>z.2.1 rfl⟩
        | 1,_=>exact ⟨o2,own+1,off,rfl,C2',ok_wide okF (by omega) (by omega),fun z=>by have:=z.1.1;omega⟩
        | 2,_=>exact ⟨o3,own,off++[0],rfl,C3',okG,fun z=>by have:=z.1.2;rw [List.length_append] at this;simp at this;omega⟩
      obtain ⟨o,m,os,eo,Co,okO,bad⟩:=th
      rw [eo]
      walk_at "w"
      refine ⟨cx,ends,rs,cy,own,on,o,m,os,rfl,(bar_cl L8 Cx).same sB,(bar_cl L8 Cy).same sB,(bar_cl L8 Co).same sB,okR,okN,okO,bad,L9,fun H10 L10 b10=> ?_⟩
      refine ⟨_,rfl,?_⟩
      walk_at "w"
      exact ⟨_,_,rfl,bar_go sB b10,L10⟩
    rintro σ H9 ⟨u,w',rfl,s9,L9⟩
    have hp:=s9 _ _ (bar_lst L8 hp)
    have ha:=s9 _ _ (bar_lst L8 ha)
    have hb:=s9 _ _ (bar_lst L8 hb)
    have Cx:=(bar_cl L8 Cx).same s9
    have b0:But TT2 H H9:=fun b o n e=>s9 b o (by rw [bar_ne n];exact s08 b o e)
    clear Cy C1' C2' C3' L8 s9 s08 g8 L0
    walk_at "v"
    refine ifJ (fun σ H3=>σ=[some (.ref p),some (nV ends),some (.ref a),some (.ref b),some (nV own),some (.ref cx),some (.ref cy),u,w']∧Same (bar TT2 H9) H3∧LamT H3 TT2 lqF) ?_ (fun key=> ?_)
    rotate_left
    · walk_at "w"
      refine iteP (fun h60=> ?_) (fun h60=> ?_)
      · have h60:ends<60:=by omega
        walk_at "w"
        rw [show ((ends:Nat):Int)+1=((ends+1:Nat):Int) by omega]
        refine cl_mk ha (ok_wide okN (m:=ends+1) (by omega) (by omega)) fun H10 x1 s10 _ C10=> ?_
        walk_at "w"
        rw [show ((ends:Nat):Int)+1=((ends+1:Nat):Int) by omega]
        refine cl_mk (s10 _ _ hb) (ok_wide okF (m:=ends+1) (by omega) (by omega)) fun H11 x2 s11 _ C11=> ?_
        walk_at "w"
        have s911:=s10.trans s11
        refine ⟨cx,ends,rs,x1,ends+1,on,x2,ends+1,off,rfl,Cx.same s911,C10.same s11,C11,okR,ok_wide okN (by omega) (by omega),ok_wide okF (by omega) (by omega),fun z=> ?_,L9.same s911,fun H12 L12 b12=> ?_⟩
        · have:=z.2.2.1
          rw [Nat.mod_eq_of_lt (by omega)] at this
          omega
        · refine ⟨true,rfl,?_⟩
          refine iteF ?_
          exact key _ _ ⟨rfl,bar_go (same_bar s911) b12,L12⟩
      · refine iteF ?_
        exact key _ _ ⟨rfl,bar_same,L9⟩
    rintro σ H10 ⟨rfl,s10,L10⟩
    have hp:=s10 _ _ (bar_lst L9 hp)
    have Cx:=(bar_cl L9 Cx).same s10
    have b0:But TT2 H H10:=fun b o n e=>s10 b o (by rw [bar_ne n];exact b0 b o n e)
    clear ha hb L9 s10
    walk_at "w"
    intro l0 hl0
    have s11:=same_new (o:=HO.lst [V.int 0]) hl0
    have g11:upd H10 l0 (HO.lst [V.int 0]) l0=_:=upd_same
    generalize upd H10 l0 (HO.lst [V.int 0])=H11 at s11 g11 ⊢
    walk_at "w"
    refine rd_lenL (SqL.of (s11 _ _ hp)) ?_
    rw [List.length_map]
    walk_at "w"
    refine rd_rep g11 (by omega) (by omega) (by simp) fun l1 hl1=> ?_
    rw [show (List.replicate (((rs.length:Nat):Int)+1).toNat [V.int 0]).flatten=(List.replicate (rs.length+1) 0).map nV by
      rw [show (((rs.length:Nat):Int)+1).toNat=rs.length+1 by omega,List.map_replicate]
      simp]
    have s12:=same_new (o:=HO.lst ((List.replicate (rs.length+1) 0).map nV)) hl1
    have g12:upd H11 l1 (HO.lst ((List.replicate (rs.length+1) 0).map nV)) l1=_:=upd_same
    generalize upd H11 l1 (HO.lst ((List.replicate (rs.length+1) 0).map nV))=H12 at s12 g12 ⊢
    have s02:=s11.trans s12
    have hp:=s02 _ _ hp
    have Cx:=Cx.same s02
    have L12:=L10.same s02
    have b0:=b0.same s02
    clear s11 s12 s02 L10 g11
    walk_at "v"
    refine ifJ (fun σ H3=>σ=[some (.ref p),some (nV ends),some (.ref a),some (.ref b),some (nV own),some (.ref cx),some (.ref cy),u,some (.ref l1)]∧Same (bar TT2 H12) H3∧LamT H3 TT2 lqF) ?_ (fun key=> ?_)
    rotate_left
    · walk_at "w"
      refine rd_lenL (SqL.of g12) ?_
      rw [List.length_map,List.length_replicate]
      walk_at "w"
      refine iteP (fun h60=> ?_) (fun h60=> ?_)
      · have h60:rs.length+1≤60:=by omega
        have p0:1<2 ^ own:=Nat.lt_of_lt_of_le (show 1<2 ^ 1 by decide) (Nat.pow_le_pow_right (by decide) v1)
        have okT:ClOk own (List.replicate (rs.length+1) 0):=⟨v1,by omega,by simp,by simpa using h60,fun r hr=>by rw [(List.mem_replicate.mp hr).2];exact Nat.two_pow_pos _⟩
        have okU:ClOk own (1::List.replicate rs.length 0):=⟨v1,by omega,by simp,by simpa using h60,fun r hr=>by
          rcases List.mem_cons.mp hr with z | z
          · rw [z];exact p0
          · rw [(List.mem_replicate.mp z).2];exact Nat.two_pow_pos _⟩
        walk_at "w"
        refine cl_mk g12 okT fun H13 x1 s13 _ C13=> ?_
        walk_at "w"
        intro l2 hl2
        have s14:=same_new (o:=HO.lst [V.int 1]) hl2
        have g14:upd H13 l2 (HO.lst [V.int 1]) l2=_:=upd_same
        generalize upd H13 l2 (HO.lst [V.int 1])=H14 at s14 g14 ⊢
        walk_at "w"
        refine rd_slL (SqL.of (s14 _ _ (s13 _ _ g12))) fun l3 hl3=> ?_
        rw [cut_from (by decide),show ((1:Int)).toNat=1 from rfl, ← List.map_drop,List.drop_replicate,Nat.add_sub_cancel]
        have s15:=same_new (o:=HO.lst ((List.replicate rs.length 0).map nV)) hl3
        have g15:upd H14 l3 (HO.lst ((List.replicate rs.length 0).map nV)) l3=_:=upd_same
        generalize upd H14 l3 (HO.lst ((List.replicate rs.length 0).map nV))=H15 at s15 g15 ⊢
        walk_at "w"
        refine rd_cat (SqL.of (s15 _ _ g14)) (SqL.of g15) (by simp;omega) fun l4 hl4=> ?_
        have s16:=same_new (o:=HO.lst ([V.int 1]++(List.replicate rs.length 0).map nV)) hl4
        have g16:upd H15 l4 (HO.lst ([V.int 1]++(List.replicate rs.length 0).map nV)) l4=some (.lst ((1::List.replicate rs.length 0).map nV)):=upd_same
        generalize upd H15 l4 (HO.lst ([V.int 1]++(List.replicate rs.length 0).map nV))=H16 at s16 g16 ⊢
        walk_at "w"
        refine cl_mk g16 okU fun H17 x2 s17 _ C17=> ?_
        have s37:=s14.trans (s15.trans (s16.trans s17))
        have s27:=s13.trans s37
        walk_at "w"
        refine ⟨cx,ends,rs,x1,own,_,x2,own,_,rfl,Cx.same s27,C13.same s37,C17,okR,okT,okU,fun z=> ?_,L12.same s27,fun H18 L18 b18=> ?_⟩
        · have:=z.2.2.2
          rw [List.length_replicate,Nat.mod_eq_of_lt (by omega)] at this
          omega
        · refine ⟨true,rfl,?_⟩
          refine iteF ?_
          exact key _ _ ⟨rfl,bar_go (same_bar s27) b18,L18⟩
      · refine iteF ?_
        exact key _ _ ⟨rfl,bar_same,L12⟩
    rintro σ H13 ⟨rfl,s13,L13⟩
    have hp:=s13 _ _ (bar_lst L12 hp)
    have Cx:=(bar_cl L12 Cx).same s13
    have b0:But TT2 H H13:=fun b o n e=>s13 b o (by rw [bar_ne n];exact b0 b o n e)
    obtain ⟨dx,tx,hx,_⟩:=id Cx
    walk_at "w"
    refine ⟨_,_,_,rfl,hx,rfl,?_⟩
    walk_at "w"
    refine ⟨cx,_,_,rfl,Cx,fun H14 pt lt s14 hpt hlt y1 y2=> ?_⟩
    walk_at "w"
    intro p2 hp2
    have s15:=same_new (o:=HO.tup [nV ends,V.ref p]) hp2
    have g15:upd H14 p2 (HO.tup [nV ends,V.ref p]) p2=_:=upd_same
    generalize upd H14 p2 (HO.tup [nV ends,V.ref p])=H15 at s15 g15 ⊢
    walk_at "w"
    refine ⟨2, .tup [dN ends,dL rs], .tup [dN ends,dL rs],by decide,rp_twoT (s15 _ _ y1) (.int _) (rp_L (F:=fun _=>True) (s15 _ _ y2) trivial (by omega)),rp_twoT g15 (.int _) (rp_L (s15 _ _ (s14 _ _ hp)) trivial (by omega)),rfl,?_⟩
    rw [eqD_refl]
    have sE:=s14.trans s15
    exact k _ (L13.same sE) (b0.same sE)
end
end K26
open L2
namespace K26
open PySem L2 PySem.Spec PyProof.Rows
seal L2.PE L2.PT L2.PW L2.PA L2.PS L2.PSs L2.PI L2.PG L2.PTs L2.PGs
section
variable {P:Program} {w:World} {K:PySem.W.Frag} {mg:Str→Option Value} {base:Heap} {c:Cs} {TT1 TT2:Addr}
theorem snoc_of {l:List Nat} (h:1≤l.length):∃ i x,l=i++[x]:=⟨l.dropLast,l.getLast (fun z=>by rw [z] at h;simp at h),(List.dropLast_concat_getLast _).symm⟩
theorem mod_pred {n m:Nat} (h:n%m=0) (hm:1<m) (hn:1≤n):(n - 1)%m≠0:=fun z=>by
  have d1:=Nat.dvd_of_mod_eq_zero h
  have d2:=Nat.dvd_of_mod_eq_zero z
  have d3:=Nat.dvd_sub d1 d2
  rw [show n - (n - 1)=1 by omega] at d3
  have:=Nat.le_of_dvd (by decide) d3
  omega
noncomputable def sp__law_cut_refused (K:PySem.W.Frag) (TT:Addr):Sp:=fun vs H Q _=>∃ (p e a b:Addr) (rs bs on off:List Nat) (ends own:Nat),vs=[.ref p, .ref e,nV ends, .ref a, .ref b,nV own]∧H p=some (.lst (rs.map nV))∧H e=some (.lst (bs.map nV))∧H a=some (.lst (on.map nV))∧H b=some (.lst (off.map nV))∧ClOk ends rs∧ClOk ends bs∧ClOk own on∧ClOk own off∧
  on.length=off.length∧ends%own=0∧rs.length%on.length=0∧LamT H TT lqF∧∀ H',LamT H' TT lqF→But TT H H'→Q (.bl true) H'
noncomputable abbrev s__law_cut_refused:Stmt:=top 41
theorem sc__law_cut_refused:FnScope ["_law_rows","_law_bent","_law_ends","_law_on","_law_off","_law_own","_law_one","_law_other","_law_cut","_law_spoilt"] ["_law_rows","_law_bent","_law_ends","_law_on","_law_off","_law_own"] (defScope s__law_cut_refused):=⟨rfl,rfl,rfl,by decide +kernel,rfl,by decide +kernel,by decide +kernel⟩
theorem ok__law_cut_refused {f:Addr} {fd:FuncData} (F:Fun K "_law_cut_refused" "_law_cut_refused" s__law_cut_refused f fd) (T:Txt K mg c) (c__law_refused:CallF P w K mg base "_law_refused" 9 ["_law_cloth","_law_on","_law_off"] (sp__law_refused K c TT2)) (m_Cloth:MakeE P w K mg base "Cloth" c.Cloth 4 ["self","ends","rows"] (sp_Cloth___init__ K c)):FnOk P w K mg base CX0 10 f fd ["_law_rows","_law_bent","_law_ends","_law_on","_law_off","_law_own"] (sp__law_cut_refused K TT2):=by
  refine F.ok sc__law_cut_refused (fun vs H Q E h=> ?_) (fun cdv A outer s H vs Q E hr h=> ?_)
  · obtain ⟨p,e,a,b,rs,bs,on,off,ends,own,rfl,_⟩:=h
    rfl
  · obtain ⟨p,e,a,b,rs,bs,on,off,ends,own,rfl,hp,he,ha,hb,okR,okB,okN,okF,ll,d1,d2,L0,k⟩:=h
    have e1:=okR.n1
    have e2:=okR.n2
    have q1:=okR.p1
    have q2:=okR.p2
    have w1:=okB.p1
    have w2:=okB.p2
    refine ⟨_,(pss_cons (ps_set (i:=6) sc__law_cut_refused.nd rfl (Or.inl rfl) (pe_makeE m_Cloth (hr.mono (by decide)) passN (pa_cons (pv 5) (pa_cons (pv 3) pa_nil))))
      (pss_cons (ps_set (i:=7) sc__law_cut_refused.nd rfl (Or.inl rfl) (pe_makeE m_Cloth (hr.mono (by decide)) passN (pa_cons (pv 5) (pa_cons (pv 4) pa_nil))))
      (pss_cons (ps_comp1 (i:=8) sc__law_cut_refused.nd rfl (Or.inl rfl) (k_pil (K:=K) (pv 0)) (fun _ _ _ _=>pts_nil) (fun _ _ _ _=>(pe_op op_and (pv 0) (pe_op op_sub (pe_op op_shl pe_int (pe_op op_sub (pv 1) pe_int)) pe_int))))
      (pss_cons (ps_if (PW.pt (pw_and (pt_cmpR op_gt (pv 5) pe_int (nomark _)) (pw_and1 (pt_not (pt_val (pe_callF c__law_refused hr (pa_cons (pe_makeE m_Cloth (hr.mono (by decide)) passN (pa_cons (pe_op op_sub (pv 2) pe_int) (pa_cons (pv 8) pa_nil))) (pa_cons (pv 6) (pa_cons (pv 7) pa_nil))))))))) (pss_one (ps_ret pe_bl)) pss_nil)
      (pss_cons (ps_if (PW.pt (pw_and (pt_cmpR op_gt (pe_callB (k_len (K:=K)) rfl (T.own _ (by decide)) boot_len (pa_cons (pv 3) pa_nil)) pe_int (nomark _)) (pw_and1 (pt_not (pt_val (pe_callF c__law_refused hr (pa_cons (pe_makeE m_Cloth (hr.mono (by decide)) passN (pa_cons (pv 2) (pa_cons (pe_slice (k_sll (K:=K)) (pv 0) po_none (po_some (pe_un un_neg pe_int))) pa_nil))) (pa_cons (pv 6) (pa_cons (pv 7) pa_nil))))))))) (pss_one (ps_ret pe_bl)) pss_nil)
      (pss_cons (ps_set (i:=9) sc__law_cut_refused.nd rfl (Or.inl rfl) (pe_op (k_cat (K:=K)) (pe_lst (pa_cons (pe_op op_sub (pe_op op_sub (pe_op op_shl pe_int (pv 2)) pe_int) (pe_ix (k_ixl (K:=K)) (pv 0) pe_int (fun _ _=>rfl))) pa_nil)) (pe_slice (k_sll (K:=K)) (pv 1) (po_some pe_int) po_none)))
      (pss_one (ps_ret (pe_callF c__law_refused hr (pa_cons (pe_makeE m_Cloth (hr.mono (by decide)) passN (pa_cons (pv 2) (pa_cons (pv 9) pa_nil))) (pa_cons (pv 7) (pa_cons (pe_makeE m_Cloth (hr.mono (by decide)) passN (pa_cons (pv 5) (pa_cons (pv 4) pa_nil))) pa_nil)))))))))))),?_⟩
    walk_at "w"
    refine cl_mk ha okN fun H1 cy s1 hcy C1=> ?_
    walk_at "w"
    refine cl_mk (s1 _ _ hb) okF fun H2 cz s2 hcz C2=> ?_
    have s12:=s1.trans s2
    walk_at "w"
    refine ⟨p,rfl,⟨_,SqL.of (s12 _ _ hp)⟩,fun D hD=> ?_⟩
    refine ints_comp (G:=fun i=>((rs.getD i 0 &&& (2 ^ (ends - 1) - 1):Nat):Int)) (src_list (SqL.of (s12 _ _ hp)) rfl) hD (by rw [List.length_map];omega) ?_ ?_
    · intro i H' R hi s kk
      rw [getD_nat hi]
      walk_at "w"
      refine rd_rI ⟨by omega,by omega,by decide⟩ ?_
      rw [show ((ends:Nat):Int) - 1=((ends - 1:Nat):Int) by omega,pw_nat]
      walk_at "w"
      have hp0:=Nat.two_pow_pos (ends - 1)
      rw [show ((2 ^ (ends - 1):Nat):Int) - 1=((2 ^ (ends - 1) - 1:Nat):Int) by omega,bA]
      exact kk H' (Same.refl _)
    intro H3 s3 g3
    rw [natsL,List.length_map,map_range_getD (fun r=>r &&& (2 ^ (ends - 1) - 1)) rs 0] at g3
    generalize hcut:rs.map (fun r=>r &&& (2 ^ (ends - 1) - 1))=cut at g3
    have lcut:cut.length=rs.length:=by rw [← hcut];simp
    have bcut:∀ r∈cut,r<2 ^ (ends - 1):=fun r hr=>by
      rw [← hcut] at hr
      obtain ⟨x,_,rfl⟩:=List.mem_map.mp hr
      rw [Nat.and_two_pow_sub_one_eq_mod]
      exact Nat.mod_lt _ (Nat.two_pow_pos _)
    have s03:=s12.trans s3
    have hp:=s03 _ _ hp
    have he:=s03 _ _ he
    have ha:=s03 _ _ ha
    have hb:=s03 _ _ hb
    have Cy:=C1.same (s2.trans s3)
    have Cz:=C2.same s3
    have L3:=L0.same s03
    have b0:But TT2 H H3:=fun b o _ e=>s03 b o e
    clear hcut s1 s2 s3 s12 s03 C1 C2 L0
    walk_at "v"
    refine ifJ (fun σ H4=>σ=[some (.ref p),some (.ref e),some (nV ends),some (.ref a),some (.ref b),some (nV own),some (.ref cy),some (.ref cz),some (.ref D),none]∧Same (bar TT2 H3) H4∧LamT H4 TT2 lqF) ?_ (fun key=> ?_)
    rotate_left
    · walk_at "w"
      refine iteP (fun h1=> ?_) (fun h1=> ?_)
      · have h1:1<own:=by omega
        have ow:own≤ends:=Nat.le_of_dvd (by omega) (Nat.dvd_of_mod_eq_zero d1)
        have okC:ClOk (ends - 1) cut:=⟨by omega,by omega,by omega,by omega,bcut⟩
        walk_at "w"
        rw [show ((ends:Nat):Int) - 1=((ends - 1:Nat):Int) by omega]
        refine cl_mk g3 okC fun H4 x1 s4 _ C4=> ?_
        walk_at "w"
        refine ⟨x1,_,_,cy,own,on,cz,own,off,rfl,C4,Cy.same s4,Cz.same s4,okC,okN,okF,fun z=>mod_pred d1 h1 e1 z.2.2.1,L3.same s4,fun H5 L5 b5=> ?_⟩
        refine ⟨true,rfl,?_⟩
        refine iteF ?_
        exact key _ _ ⟨rfl,bar_go (same_bar s4) b5,L5⟩
      · refine iteF ?_
        exact key _ _ ⟨rfl,bar_same,L3⟩
    rintro σ H4 ⟨rfl,s4,L4⟩
    have hp:=s4 _ _ (bar_lst L3 hp)
    have he:=s4 _ _ (bar_lst L3 he)
    have ha:=s4 _ _ (bar_lst L3 ha)
    have hb:=s4 _ _ (bar_lst L3 hb)
    have Cy:=(bar_cl L3 Cy).same s4
    have Cz:=(bar_cl L3 Cz).same s4
    have b0:But TT2 H H4:=fun b o n e=>s4 b o (by rw [bar_ne n];exact b0 b o n e)
    clear L3 s4 g3 bcut lcut
    walk_at "v"
    refine ifJ (fun σ H5=>σ=[some (.ref p),some (.ref e),some (nV ends),some (.ref a),some (.ref b),some (nV own),some (.ref cy),some (.ref cz),some (.ref D),none]∧Same (bar TT2 H4) H5∧LamT H5 TT2 lqF) ?_ (fun key=> ?_)
    rotate_left
    · walk_at "w"
      refine rd_lenL (SqL.of ha) ?_
      rw [List.length_map]
      walk_at "w"
      refine iteP (fun h1=> ?_) (fun h1=> ?_)
      · have h1:1<on.length:=by omega
        have ow:on.length≤rs.length:=Nat.le_of_dvd (by omega) (Nat.dvd_of_mod_eq_zero d2)
        obtain ⟨rz,x,ez⟩:=snoc_of q1
        have lz:rs.length=rz.length+1:=by rw [ez];simp
        have okZ:ClOk ends rz:=⟨e1,e2,by omega,by omega,fun r hr=>okR.lt r (by rw [ez];exact List.mem_append_left _ hr)⟩
        walk_at "w"
        refine rd_slL (SqL.of hp) fun l1 hl1=> ?_
        rw [show cutV (rs.map nV) none (some (-1))=rz.map nV by rw [ez,List.map_append];exact cut_init]
        have s5:=same_new (o:=HO.lst (rz.map nV)) hl1
        have g5:upd H4 l1 (HO.lst (rz.map nV)) l1=_:=upd_same
        generalize upd H4 l1 (HO.lst (rz.map nV))=H5 at s5 g5 ⊢
        walk_at "w"
        refine cl_mk g5 okZ fun H6 x1 s6 _ C6=> ?_
        have s56:=s5.trans s6
        walk_at "w"
        refine ⟨x1,_,_,cy,own,on,cz,own,off,rfl,C6,Cy.same s56,Cz.same s56,okZ,okN,okF,fun z=>mod_pred d2 h1 q1 (by rw [lz,Nat.add_sub_cancel];exact z.2.2.2),L4.same s56,fun H7 L7 b7=> ?_⟩
        refine ⟨true,rfl,?_⟩
        refine iteF ?_
        exact key _ _ ⟨rfl,bar_go (same_bar s56) b7,L7⟩
      · refine iteF ?_
        exact key _ _ ⟨rfl,bar_same,L4⟩
    rintro σ H5 ⟨rfl,s5,L5⟩
    have hp:=s5 _ _ (bar_lst L4 hp)
    have he:=s5 _ _ (bar_lst L4 he)
    have hb:=s5 _ _ (bar_lst L4 hb)
    have Cz:=(bar_cl L4 Cz).same s5
    have b0:But TT2 H H5:=fun b o n e=>s5 b o (by rw [bar_ne n];exact b0 b o n e)
    clear L4 s5 ha Cy
    have r0:=getD_lt okR.lt 0
    have okS:ClOk ends ((2 ^ ends - 1 - rs.getD 0 0)::bs.drop 1):=⟨e1,e2,by simp,by simp;omega,fun r hr=>by
      rcases List.mem_cons.mp hr with z | z
      · rw [z];omega
      · exact okB.lt r (List.mem_of_mem_drop z)⟩
    walk_at "w"
    refine rd_rI ⟨by omega,by omega,by decide⟩ ?_
    rw [pw_nat]
    walk_at "w"
    refine rd_ixL (SqL.of hp) (atI_natV (by omega) (by omega)) ?_
    walk_at "w"
    rw [show ((2 ^ ends:Nat):Int) - 1 - ((rs.getD (0:Int).toNat 0:Nat):Int)=((2 ^ ends - 1 - rs.getD 0 0:Nat):Int) by rw [show (0:Int).toNat=0 from rfl];omega]
    intro l1 hl1
    have s6:=same_new (o:=HO.lst [nV (2 ^ ends - 1 - rs.getD 0 0)]) hl1
    have g6:upd H5 l1 (HO.lst [nV (2 ^ ends - 1 - rs.getD 0 0)]) l1=_:=upd_same
    generalize upd H5 l1 (HO.lst [nV (2 ^ ends - 1 - rs.getD 0 0)])=H6 at s6 g6 ⊢
    walk_at "w"
    refine rd_slL (SqL.of (s6 _ _ he)) fun l2 hl2=> ?_
    rw [cut_from (by decide),show ((1:Int)).toNat=1 from rfl, ← List.map_drop]
    have s7:=same_new (o:=HO.lst ((bs.drop 1).map nV)) hl2
    have g7:upd H6 l2 (HO.lst ((bs.drop 1).map nV)) l2=_:=upd_same
    generalize upd H6 l2 (HO.lst ((bs.drop 1).map nV))=H7 at s7 g7 ⊢
    walk_at "w"
    refine rd_cat (SqL.of (s7 _ _ g6)) (SqL.of g7) (by simp;omega) fun l3 hl3=> ?_
    have s8:=same_new (o:=HO.lst ([nV (2 ^ ends - 1 - rs.getD 0 0)]++(bs.drop 1).map nV)) hl3
    have g8:upd H7 l3 (HO.lst ([nV (2 ^ ends - 1 - rs.getD 0 0)]++(bs.drop 1).map nV)) l3=some (.lst (((2 ^ ends - 1 - rs.getD 0 0)::bs.drop 1).map nV)):=upd_same
    generalize upd H7 l3 (HO.lst ([nV (2 ^ ends - 1 - rs.getD 0 0)]++(bs.drop 1).map nV))=H8 at s8 g8 ⊢
    have s58:=s6.trans (s7.trans s8)
    walk_at "w"
    refine cl_mk g8 okS fun H9 x1 s9 _ C9=> ?_
    have s59:=s58.trans s9
    walk_at "w"
    refine cl_mk (s59 _ _ hb) okF fun H10 x2 s10 _ C10=> ?_
    have sA:=s59.trans s10
    walk_at "w"
    refine ⟨x1,_,_,cz,own,off,x2,own,off,rfl,C9.same s10,Cz.same sA,C10,okS,okF,okF,fun z=>z.2.1 rfl,L5.same sA,fun H11 L11 b11=> ?_⟩
    exact k _ L11 (But.of (bar_go (b0.same sA).toB b11))
end
end K26
open L2
namespace K26
open PySem L2 PySem.Spec PyProof.Rows
seal L2.PE L2.PT L2.PW L2.PA L2.PS L2.PSs L2.PI L2.PG L2.PTs L2.PGs
section
variable {P:Program} {w:World} {K:PySem.W.Frag} {mg:Str→Option Value} {base:Heap} {c:Cs} {TT1 TT2:Addr}
structure Held (C:Addr) (H:Hp) (dP dN dF dR tH cy cz:Addr) (plan on off rows:List Nat) (own:Nat):Prop where
  gP:H dP=some (.lst (plan.map nV))
  gN:H dN=some (.lst (on.map nV))
  gF:H dF=some (.lst (off.map nV))
  gR:H dR=some (.lst (rows.map nV))
  gH:H tH=some (.tup [.ref cy, .ref cz])
  Cy:ClAt C H cy own on
  Cz:ClAt C H cz own off
theorem Held.same {C:Addr} {H H':Hp} {dP dN dF dR tH cy cz:Addr} {plan on off rows:List Nat} {own:Nat} (h:Held C H dP dN dF dR tH cy cz plan on off rows own) (s:Same H H'):Held C H' dP dN dF dR tH cy cz plan on off rows own:=
  ⟨s _ _ h.gP,s _ _ h.gN,s _ _ h.gF,s _ _ h.gR,s _ _ h.gH,h.Cy.same s,h.Cz.same s⟩
theorem Held.bar {C T:Addr} {H:Hp} {q:Str} {dP dN dF dR tH cy cz:Addr} {plan on off rows:List Nat} {own:Nat} (h:Held C H dP dN dF dR tH cy cz plan on off rows own) (L:LamT H T q):Held C (L2.bar T H) dP dN dF dR tH cy cz plan on off rows own:=
  ⟨bar_lst L h.gP,bar_lst L h.gN,bar_lst L h.gF,bar_lst L h.gR,bar_tup L h.gH,bar_cl L h.Cy,bar_cl L h.Cz⟩
theorem turn_bit {wide m i:Nat} (hm:m<2 ^ wide) (hi:i<wide):(2 ^ wide - 1 - m).testBit i= !m.testBit i:=by
  rw [show 2 ^ wide - 1 - m=2 ^ wide - (m+1) by omega,Nat.testBit_two_pow_sub_succ hm,decide_eq_true hi,Bool.true_and]
noncomputable abbrev s_law:Stmt:=top 42
theorem sc_law:FnScope ["_law_script","_law_whole_here","_law_own","_law_high","_law_wide","_law_plan","_law_on","_law_off","_law_rows","_law_handed","_law_bent","_law_turn","_law_due_here","_law_at","_law_turned"] ["_law_script"] (defScope s_law):=⟨rfl,rfl,rfl,by decide +kernel,rfl,by decide +kernel,by decide +kernel⟩
theorem ok_law {f:Addr} {fd:FuncData} (F:Fun K "law" "law" s_law f fd) (T:Txt K mg c) (c__law_whole:CallF P w K mg base "_law_whole" 1 ["_law_script"] (sp__law_whole K)) (c__law_mixed:CallF P w K mg base "_law_mixed" 1 ["_law_cell","_law_k"] sp__law_mixed) (c__law_blocks:CallF P w K mg base "_law_blocks" 2 ["_law_whole_here","_law_own","_law_high"] sp__law_blocks) (c__law_grown:CallF P w K mg base "_law_grown" 1 ["_law_plan","_law_wide","_law_on","_law_off","_law_own"] sp__law_grown) (c__law_due:CallF P w K mg base "_law_due" 1 ["_law_rows","_law_wide","_law_on","_law_off","_law_own"] sp__law_due) (c__law_right:CallF P w K mg base "_law_right" 9 ["_law_cloth","_law_on","_law_off","_law_due_here"] (sp__law_right K c TT1)) (c__law_all_refused:CallF P w K mg base "_law_all_refused" 10 ["_law_rows","_law_ends","_law_on","_law_off","_law_own"] (sp__law_all_refused K TT2)) (c__law_cut_refused:CallF P w K mg base "_law_cut_refused" 10 ["_law_rows","_law_bent","_law_ends","_law_on","_law_off","_law_own"] (sp__law_cut_refused K TT2)) (m_Cloth:MakeE P w K mg base "Cloth" c.Cloth 4 ["self","ends","rows"] (sp_Cloth___init__ K c)) (d_Cloth_told:MethF P w K mg base c.Cloth "told" 1 ["self"] (sp_Cloth_told c)):FnOk P w K mg base CX0 11 f fd ["_law_script"] (spLawM K [TT2,TT1]):=by
  refine F.ok sc_law (fun vs H Q E h=> ?_) (fun cdv A outer s H vs Q E hr h=> ?_)
  · obtain ⟨a,ns,rfl,_⟩:=h
    rfl
  · obtain ⟨a,ns,rfl,sa,hl,hT,nd,k⟩:=h
    have t1:=hT TT1 (by simp)
    have t2:=hT TT2 (by simp)
    have nT:TT1≠TT2:=fun z=>by rw [z] at nd;simp at nd
    refine ⟨_,(pss_cons (ps_set (i:=1) sc_law.nd rfl (Or.inl rfl) (pe_callF c__law_whole (hr.mono (by decide)) (pa_cons (pv 0) pa_nil)))
      (pss_cons (ps_set (i:=2) sc_law.nd rfl (Or.inl rfl) (pe_op op_add pe_int (pe_op op_mod (pe_callF c__law_mixed (hr.mono (by decide)) (pa_cons (pv 1) (pa_cons pe_int pa_nil))) pe_int)))
      (pss_cons (ps_set (i:=3) sc_law.nd rfl (Or.inl rfl) (pe_op op_add pe_int (pe_op op_mod (pe_callF c__law_mixed (hr.mono (by decide)) (pa_cons (pv 1) (pa_cons pe_int pa_nil))) pe_int)))
      (pss_cons (ps_set (i:=4) sc_law.nd rfl (Or.inr rfl) (pe_op op_add pe_int (pe_op op_mod (pe_callF c__law_mixed (hr.mono (by decide)) (pa_cons (pv 1) (pa_cons pe_int pa_nil))) (pe_op op_fdivL pe_int (pv 2)))))
      (pss_cons (ps_comp1 (i:=5) sc_law.nd rfl (Or.inl rfl) (k_pil (K:=K) (pe_slice (k_sll (K:=K)) (pe_orG (K:=K) (pv 0) (pe_one (pe_lst (pa_cons pe_int pa_nil)))) po_none (po_some (pe_op op_fdivL pe_int (pv 3))))) (fun _ _ _ _=>pts_nil) (fun _ _ _ _=>(pe_op op_mod (pv 0) (pe_op op_shl pe_int (pv 1)))))
      (pss_cons (ps_asg (pe_callF c__law_blocks (hr.mono (by decide)) (pa_cons (pv 1) (pa_cons (pv 2) (pa_cons (pv 3) pa_nil)))) (k_gtup (K:=K) rfl (pgs_cons (pg_name (i:=6) sc_law.nd rfl (Or.inl rfl)) (pgs_cons (pg_name (i:=7) sc_law.nd rfl (Or.inl rfl)) pgs_nil))))
      (pss_cons (ps_set (i:=8) sc_law.nd rfl (Or.inl rfl) (pe_callF c__law_grown (hr.mono (by decide)) (pa_cons (pv 5) (pa_cons (pv 4) (pa_cons (pv 6) (pa_cons (pv 7) (pa_cons (pv 2) pa_nil)))))))
      (pss_cons (ps_set (i:=9) sc_law.nd rfl (Or.inl rfl) (pe_tup (pa_cons (pe_makeE m_Cloth (hr.mono (by decide)) passN (pa_cons (pv 2) (pa_cons (pv 6) pa_nil))) (pa_cons (pe_makeE m_Cloth (hr.mono (by decide)) passN (pa_cons (pv 2) (pa_cons (pv 7) pa_nil))) pa_nil))))
      (pss_cons (ps_set (i:=10) sc_law.nd rfl (Or.inl rfl) (pe_callTy (k_list (K:=K)) rfl (T.own _ (by decide)) boot_list' (pa_cons (pv 8) pa_nil)))
      (pss_cons (ps_for PassesOwn.never rfl (pi_range1 rfl (T.own _ (by decide)) (pa_cons pe_int pa_nil)) (pg_name (i:=11) sc_law.nd rfl (Or.inl rfl)) (pss_cons (ps_set (i:=12) sc_law.nd rfl (Or.inl rfl) (pe_callF c__law_due (hr.mono (by decide)) (pa_cons (pv 10) (pa_cons (pv 4) (pa_cons (pv 6) (pa_cons (pv 7) (pa_cons (pv 2) pa_nil)))))))
      (pss_cons (ps_if (pt_not (pt_val (pe_callF c__law_right (hr.mono (by decide)) (pa_cons (pe_makeE m_Cloth (hr.mono (by decide)) passN (pa_cons (pe_op op_mul (pv 4) (pv 2)) (pa_cons (pv 10) pa_nil))) (pa_cons (pe_ix (k_ixt (K:=K)) (pv 9) pe_int (fun _ _=>rfl)) (pa_cons (pe_ix (k_ixt (K:=K)) (pv 9) pe_int (fun _ _=>rfl)) (pa_cons (pv 12) pa_nil))))))) (pss_one (ps_ret pe_bl)) pss_nil)
      (pss_cons (ps_set (i:=13) sc_law.nd rfl (Or.inl rfl) (pe_op op_mod (pe_callF c__law_mixed (hr.mono (by decide)) (pa_cons (pv 1) (pa_cons (pe_op op_add pe_int (pv 11)) pa_nil))) (pe_callB (k_len (K:=K)) rfl (T.own _ (by decide)) boot_len (pa_cons (pv 10) pa_nil))))
      (pss_one (ps_asg (pe_op op_xor (pe_ix (k_ixl (K:=K)) (pv 10) (pv 13) (fun _ _=>rfl)) (pe_op op_shl pe_int (pe_op op_mod (pe_callF c__law_mixed (hr.mono (by decide)) (pa_cons (pv 1) (pa_cons (pe_op op_add pe_int (pv 11)) pa_nil))) (pe_op op_mul (pv 4) (pv 2))))) (pg_sub (pv 10) (pv 13) set_list)))))))
      (pss_cons (ps_comp1 (i:=14) sc_law.nd rfl (Or.inl rfl) (k_pil (K:=K) (pv 5)) (fun _ _ _ _=>pts_nil) (fun _ _ _ _=>(pe_op op_sub (pe_op op_sub (pe_op op_shl pe_int (pv 1)) pe_int) (pv 0))))
      (pss_cons (ps_if (pt_not (pt_val (pe_callF c__law_right (hr.mono (by decide)) (pa_cons (pe_makeE m_Cloth (hr.mono (by decide)) passN (pa_cons (pe_op op_mul (pv 4) (pv 2)) (pa_cons (pv 8) pa_nil))) (pa_cons (pe_ix (k_ixt (K:=K)) (pv 9) pe_int (fun _ _=>rfl)) (pa_cons (pe_ix (k_ixt (K:=K)) (pv 9) pe_int (fun _ _=>rfl)) (pa_cons (pv 14) pa_nil))))))) (pss_one (ps_ret pe_bl)) pss_nil)
      (pss_cons (ps_if (pt_not (pt_val (pe_callF c__law_all_refused hr (pa_cons (pv 8) (pa_cons (pe_op op_mul (pv 4) (pv 2)) (pa_cons (pv 6) (pa_cons (pv 7) (pa_cons (pv 2) pa_nil)))))))) (pss_one (ps_ret pe_bl)) pss_nil)
      (pss_cons (ps_if (pt_not (pt_val (pe_callF c__law_cut_refused hr (pa_cons (pv 8) (pa_cons (pv 10) (pa_cons (pe_op op_mul (pv 4) (pv 2)) (pa_cons (pv 6) (pa_cons (pv 7) (pa_cons (pv 2) pa_nil))))))))) (pss_one (ps_ret pe_bl)) pss_nil)
      (pss_one (ps_ret (pe_and (pe_cmpR (op_eqD hr.units) (pe_methF0 (pe_ix (k_ixt (K:=K)) (pv 9) pe_int (fun _ _=>rfl)) d_Cloth_told (hr.mono (by decide))) (pe_tup (pa_cons (pv 2) (pa_cons (pv 6) pa_nil))) (nomark _)) (pe_one (pe_cmpR (op_eqD hr.units) (pe_methF0 (pe_ix (k_ixt (K:=K)) (pv 9) pe_int (fun _ _=>rfl)) d_Cloth_told (hr.mono (by decide))) (pe_tup (pa_cons (pv 2) (pa_cons (pv 7) pa_nil))) (nomark _)))))))))))))))))))),?_⟩
    walk_at "w"
    refine ⟨a,ns,rfl,sa,hl,fun H1 W s1=> ?_⟩
    walk_at "w"
    refine ⟨W,1,rfl,⟨by decide,by decide⟩,?_⟩
    walk_at "w"
    refine rd_rI (by decide) ?_
    walk_at "w"
    obtain ⟨own,eO,o1,o2⟩:∃ s:Nat,1+mixV W 1%6=(s:Nat)∧1≤s∧s≤6:=by
      have h0:=Int.emod_nonneg (mixV W 1) (show (6:Int)≠0 by decide)
      have h1:=Int.emod_lt_of_pos (mixV W 1) (show (0:Int)<6 by decide)
      exact ⟨(1+mixV W 1%6).toNat,by omega,by omega,by omega⟩
    rw [eO]
    refine ⟨W,2,rfl,⟨by decide,by decide⟩,?_⟩
    walk_at "w"
    refine rd_rI (by decide) ?_
    walk_at "w"
    obtain ⟨hi,eH,i1,i2⟩:∃ s:Nat,1+mixV W 2%4=(s:Nat)∧1≤s∧s≤4:=by
      have h0:=Int.emod_nonneg (mixV W 2) (show (4:Int)≠0 by decide)
      have h1:=Int.emod_lt_of_pos (mixV W 2) (show (0:Int)<4 by decide)
      exact ⟨(1+mixV W 2%4).toNat,by omega,by omega,by omega⟩
    rw [eH]
    refine ⟨W,3,rfl,⟨by decide,by decide⟩,?_⟩
    walk_at "w"
    refine rd_rI ⟨by omega,by omega⟩ ?_
    have dO:0<60 / own:=by
      rw [Nat.div_pos_iff]
      omega
    have dO2:own*(60 / own)≤60:=Nat.mul_div_le 60 own
    have dH:0<60 / hi:=by
      rw [Nat.div_pos_iff]
      omega
    have dH2:hi*(60 / hi)≤60:=Nat.mul_div_le 60 hi
    have dO3:60 / own≤60:=Nat.div_le_self _ _
    have dH3:60 / hi≤60:=Nat.div_le_self _ _
    rw [show (60:Int) / ((own:Nat):Int)=((60 / own:Nat):Int) by push_cast;rfl]
    walk_at "w"
    refine rd_rI (by show (0:Int)<_;omega) ?_
    obtain ⟨wide,eW,w1,w2⟩:∃ s:Nat,1+mixV W 3%((60 / own:Nat):Int)=(s:Nat)∧1≤s∧s≤60 / own:=by
      have h0:=Int.emod_nonneg (mixV W 3) (show ((60 / own:Nat):Int)≠0 by omega)
      have h1:=Int.emod_lt_of_pos (mixV W 3) (show (0:Int)<((60 / own:Nat):Int) by omega)
      exact ⟨(1+mixV W 3%((60 / own:Nat):Int)).toNat,by omega,by omega,by omega⟩
    walk_at "t"
    rw [eW]
    walk_at "t"
    walk_at "t"
    walk_at "t"
    walk_at "t"
    refine rd_sl ?_
    refine teJ (fun v H'=>∃ (q:Addr) (ts:List Int),v= .ref q∧Same H1 H'∧SqL K H' q (ts.map V.int)∧1≤ts.length∧ts.length≤63) ?_ (fun R key=> ?_)
    rotate_left
    · walk_at "w"
      refine truL (s1.seq sa) ?_
      refine iteC (fun hb=> ?_) (fun hb=> ?_)
      · refine key _ _ ⟨a,ns,rfl,Same.refl _,s1.seq sa,?_,hl⟩
        cases ns with
        | nil=>simp at hb
        | cons x xs=>simp
      · walk_at "w"
        intro q hq
        exact key _ _ ⟨q,[5],rfl,same_new hq,SqL.of upd_same,by decide,by decide⟩
    rintro v H2 ⟨q,ts,rfl,s2,g2,u1,u2⟩
    walk_at "w"
    refine rd_rI ⟨by omega,by omega⟩ ?_
    rw [show (60:Int) / ((hi:Nat):Int)=((60 / hi:Nat):Int) by push_cast;rfl]
    walk_at "w"
    refine rd_slL g2 fun p3 hp3=> ?_
    rw [cut_to (by omega),Int.toNat_natCast, ← List.map_take]
    have lc1:1≤(ts.take (60 / hi)).length:=by rw [List.length_take];omega
    have lc2:(ts.take (60 / hi)).length≤60 / hi:=by rw [List.length_take];omega
    generalize ts.take (60 / hi)=cs at lc1 lc2 ⊢
    have s3:=same_new (o:=HO.lst (cs.map V.int)) hp3
    have g3:upd H2 p3 (HO.lst (cs.map V.int)) p3=_:=upd_same
    generalize upd H2 p3 (HO.lst (cs.map V.int))=H3 at s3 g3 ⊢
    walk_at "w"
    refine ⟨p3,rfl,⟨_,SqL.of g3⟩,fun D4 hD4=> ?_⟩
    refine ints_comp (G:=fun i=>(((cs.getD i 0%(2 ^ wide:Nat)).toNat:Nat):Int)) (src_list (SqL.of g3) rfl) hD4 (by rw [List.length_map];omega) ?_ ?_
    · intro i H' R hi s kk
      rw [getD_int hi]
      walk_at "w"
      refine rd_rI ⟨by omega,by omega,by decide⟩ ?_
      walk_at "w"
      refine rd_rI (pw_pos wide) ?_
      rw [md_nat]
      exact kk H' (Same.refl _)
    intro H4 s4 g4
    rw [natsL,List.length_map] at g4
    generalize er:(List.range cs.length).map (fun i=>(cs.getD i 0%(2 ^ wide:Nat)).toNat)=plan at g4
    have lp:plan.length=cs.length:=by rw [← er];simp
    have bp:∀ r∈plan,r<2 ^ wide:=fun r hr=>by
      rw [← er] at hr
      obtain ⟨i,_,rfl⟩:=List.mem_map.mp hr
      exact md_lt _ _
    clear er
    have hw60:wide≤60:=Nat.le_trans w2 dO3
    walk_at "w"
    refine ⟨W,own,hi,rfl,⟨o1,o2⟩,⟨i1,i2⟩,fun H5 pp dN dF on off s5 gp gN gF lN lF bN bF ne=> ?_⟩
    refine rd_gtup (SqT.of gp) rfl ?_
    have okN:ClOk own on:=⟨o1,by omega,by omega,by omega,bN⟩
    have okF:ClOk own off:=⟨o1,by omega,by omega,by omega,bF⟩
    walk_at "w"
    refine ⟨D4,dN,dF,plan,on,off,wide,own,rfl,s5 _ _ g4,gN,gF,by omega,by omega,by omega,by omega,hw60,bN,bF,fun H6 dR s6 hdR gR=> ?_⟩
    have lR:=grL_len wide plan on off own
    have bR:=grL_lt (wide:=wide) (rp:=plan) bN bF
    have pR:∀ r i,r<plan.length→i<wide→partN (grL wide plan on off own) own on.length r i=if (plan.getD r 0).testBit i then on else off:=fun r i hr hi=>grL_part bN bF (by omega) hr hi
    generalize grL wide plan on off own=rows at gR lR bR pR
    have m1:wide*own≤60:=by
      rw [Nat.mul_comm]
      exact Nat.le_trans (Nat.mul_le_mul_left own w2) dO2
    have m3:1≤wide*own:=Nat.mul_pos w1 o1
    have m2:plan.length*on.length≤60:=by
      rw [lN,Nat.mul_comm]
      exact Nat.le_trans (Nat.mul_le_mul_left hi (by omega)) dH2
    have m4:1≤plan.length*on.length:=Nat.mul_pos (by omega) (by omega)
    have okR:ClOk (wide*own) rows:=⟨m3,m1,by omega,by omega,bR⟩
    have dv1:wide*own%own=0:=Nat.mul_mod_left _ _
    have dv2:rows.length%on.length=0:=by rw [lR];exact Nat.mul_mod_left _ _
    walk_at "w"
    refine cl_mk (s6 _ _ gN) okN fun H7 cy s7 hcy C7=> ?_
    walk_at "w"
    refine cl_mk (s7 _ _ (s6 _ _ gF)) okF fun H8 cz s8 hcz C8=> ?_
    walk_at "w"
    intro tH htH
    have s9:=same_new (o:=HO.tup [V.ref cy,V.ref cz]) htH
    have g9:upd H8 tH (HO.tup [V.ref cy,V.ref cz]) tH=_:=upd_same
    generalize upd H8 tH (HO.tup [V.ref cy,V.ref cz])=H9 at s9 g9 ⊢
    have s69:=s7.trans (s8.trans s9)
    have held:Held c.Cloth H9 D4 dN dF dR tH cy cz plan on off rows own:=⟨s69 _ _ (s6 _ _ (s5 _ _ g4)),s69 _ _ (s6 _ _ gN),s69 _ _ (s6 _ _ gF),s69 _ _ gR,g9,C7.same (s8.trans s9),C8.same s9⟩
    have s09:Same H H9:=s1.trans (s2.trans (s3.trans (s4.trans (s5.trans (s6.trans s69)))))
    have lp60:plan.length≤60:=by omega
    have t1:=s09 _ _ t1
    have t2:=s09 _ _ t2
    clear s1 s2 s3 s4 s5 s6 s7 s8 s9 s69 s09 g2 g3 g4 gp gN gF gR g9 C7 C8 hT sa eO eH eW hp3 hD4 hdR hcy hcz htH dO dO2 dO3 dH dH2 dH3 lc1 lc2 u1 u2
    walk_at "w"
    refine rd_listOf (SqL.of held.gR) fun bt hbt=> ?_
    have hs:=same_new (o:=HO.lst (rows.map nV)) hbt
    have gb:upd H9 bt (HO.lst (rows.map nV)) bt=_:=upd_same
    have sBt:Same H9 (bar bt (upd H9 bt (HO.lst (rows.map nV)))):=fun b o e=>by
      have nb:=ne_of_none e hbt
      rw [bar_ne nb]
      exact hs b o e
    generalize upd H9 bt (HO.lst (rows.map nV))=H10 at hs gb sBt ⊢
    have L9:LamT H9 TT1 lqR:=lam_start t1
    have sB0:Same (bar TT1 H9) H10:=same_bar hs
    have heldB:=held.bar L9
    have t2B:bar TT1 H9 TT2=some (.tbl #[]):=by rw [bar_ne (Ne.symm nT)];exact t2
    have nbt:bt≠TT1:=fun z=>by rw [z,t1] at hbt;cases hbt
    have fbt:bar TT1 H9 bt=none:=by rw [bar_ne nbt];exact hbt
    walk_at "w"
    refine ⟨_,rfl,by omega,by omega,?_⟩
    rw [show ((3:Int)).toNat=3 from rfl]
    refine for_srcW (H0:=bar TT1 H9) (fs_range0 (n:=3)) (fun i σ H3=>∃ v1 v2 v3,∃ bs:List Nat,σ=[some (.ref a),some (.int W),some (nV own),some (nV hi),some (nV wide),some (.ref D4),some (.ref dN),some (.ref dF),some (.ref dR),some (.ref tH),some (.ref bt),v1,v2,v3,none]∧Same (bar TT1 H9) H3∧LamT H3 TT1 lqR∧H3 bt=some (.lst (bs.map nV))∧ClOk (wide*own) bs∧bs.length=plan.length*on.length) ⟨_,_,_,rows,rfl,sB0,L9.same hs,gb,okR,lR⟩ (fun i σ H3 ⟨_,_,_,_,_,s,_⟩=>s) ?_ ?_
    · rintro i σ H' H11 hi3 ⟨v1,v2,v3,bs,rfl,s',L',g',okB,lB⟩ s11
      have sA:=s'.trans s11
      have hA:=heldB.same sA
      have gB:=s11 _ _ g'
      have LA:=L'.same s11
      walk_at "w"
      refine ⟨bt,dN,dF,bs,on,off,wide,own,rfl,gB,hA.gN,hA.gF,⟨by omega,by omega⟩,by omega,⟨by omega,by omega⟩,hw60,fun H12 d s12 hd=> ?_⟩
      have sA:=sA.trans s12
      have hA:=heldB.same sA
      have gB:=s12 _ _ gB
      have LA:=LA.same s12
      walk_at "w"
      refine rd_rI (.inl ⟨by omega,by omega⟩) ?_
      rw [show ((wide:Nat):Int)*((own:Nat):Int)=((wide*own:Nat):Int) by push_cast;rfl]
      walk_at "w"
      refine cl_mk gB okB fun H13 cx s13 hcx C13=> ?_
      have hA:=hA.same s13
      walk_at "w"
      refine rd_ixT (SqT.of hA.gH) (atI_nat (j:=0) rfl) ?_
      walk_at "w"
      refine rd_ixT (SqT.of hA.gH) (atI_nat (j:=1) rfl) ?_
      walk_at "w"
      refine ⟨cx,_,_,cy,own,on,cz,own,off,d,rfl,C13,hA.Cy,hA.Cz,okB,okN,okF,⟨⟨rfl,by omega⟩,ne,dv1,by rw [lB];exact Nat.mul_mod_left _ _⟩,LA.same s13,?_,fun H14 L14 b14=> ?_⟩
      · rcases hd with ⟨x1,x2⟩ | ⟨r,j,x1,x2⟩
        · exact .inl ⟨x1,s13 _ _ x2⟩
        · exact .inr ⟨r,j,x1,s13 _ _ x2⟩
      have LB:=LA.same s13
      have sA14:Same (bar TT1 H9) H14:=fun b o e=>by
        have nb:b≠TT1:=fun z=>by rw [z,show bar TT1 H9 TT1=none from if_pos rfl] at e;cases e
        exact b14 b o nb ((sA.trans s13) b o e)
      have gB:=b14 _ _ nbt (s13 _ _ gB)
      refine ⟨_,rfl,?_⟩
      walk_at "w"
      refine ⟨W,30+((i:Nat):Int),rfl,⟨by omega,by omega⟩,?_⟩
      walk_at "w"
      refine rd_lenL (SqL.of gB) ?_
      rw [List.length_map]
      walk_at "w"
      refine rd_rI (by show (0:Int)<_;omega) ?_
      obtain ⟨at',eA,hA'⟩:∃ t:Nat,mixV W (30+((i:Nat):Int))%((bs.length:Nat):Int)=(t:Nat)∧t<bs.length:=by
        have h0:=Int.emod_nonneg (mixV W (30+((i:Nat):Int))) (show ((bs.length:Nat):Int)≠0 by omega)
        have h1:=Int.emod_lt_of_pos (mixV W (30+((i:Nat):Int))) (show (0:Int)<((bs.length:Nat):Int) by omega)
        exact ⟨(mixV W (30+((i:Nat):Int))%((bs.length:Nat):Int)).toNat,by omega,by omega⟩
      rw [eA]
      walk_at "w"
      refine rd_ixL (SqL.of gB) (atI_natV (by omega) (by omega)) ?_
      rw [Int.toNat_natCast]
      walk_at "w"
      refine ⟨W,40+((i:Nat):Int),rfl,⟨by omega,by omega⟩,?_⟩
      walk_at "w"
      refine rd_rI (.inl ⟨by omega,by omega⟩) ?_
      rw [show ((wide:Nat):Int)*((own:Nat):Int)=((wide*own:Nat):Int) by push_cast;rfl]
      walk_at "w"
      refine rd_rI (by show (0:Int)<_;omega) ?_
      obtain ⟨m,eM,hM⟩:∃ t:Nat,mixV W (40+((i:Nat):Int))%((wide*own:Nat):Int)=(t:Nat)∧t<wide*own:=by
        have h0:=Int.emod_nonneg (mixV W (40+((i:Nat):Int))) (show ((wide*own:Nat):Int)≠0 by omega)
        have h1:=Int.emod_lt_of_pos (mixV W (40+((i:Nat):Int))) (show (0:Int)<((wide*own:Nat):Int) by omega)
        exact ⟨(mixV W (40+((i:Nat):Int))%((wide*own:Nat):Int)).toNat,by omega,by omega⟩
      rw [eM]
      walk_at "w"
      refine rd_rI ⟨by omega,by omega,by decide⟩ ?_
      rw [pw_nat]
      walk_at "w"
      rw [bX]
      walk_at "w"
      refine rd_gsub ?_
      walk_at "w"
      refine ⟨bt,_,_,at',rfl,rfl,gB,ix_nat (by simp;omega),?_⟩
      have nl14:∀ {b:Addr} {o:HO},bar TT1 H9 b=some o→b≠bt:=fun {b o} e z=>by rw [z,fbt] at e;cases e
      refine ⟨_,_,_,bs.set at' (bs.getD at' 0 ^^^ 2 ^ m),rfl,fun b o e=> ?_,?_,?_,⟨m3,m1,by rw [List.length_set];exact okB.p1,by rw [List.length_set];exact okB.p2,fun r hr=> ?_⟩,by rw [List.length_set];exact lB⟩
      · rw [upd_ne (nl14 e)]
        exact sA14 b o e
      · have u14:But bt H14 (upd H14 bt (.lst (((bs.map nV).set at' (.int ((bs.getD at' 0 ^^^ 2 ^ m:Nat):Int)))))):=fun b o n e=>by rw [upd_ne n];exact e
        exact LamT.but L14 u14 gB
      · rw [upd_same,List.map_set]
      · rcases List.mem_or_eq_of_mem_set hr with y | y
        · exact okB.lt r y
        · rw [y]
          exact Nat.xor_lt_two_pow (okB.lt _ (getD_mem (by omega))) (Nat.pow_lt_pow_right (by decide) hM)
    rintro σ H11 ⟨v1,v2,v3,bs,rfl,s11,L11,gB,okB,lB⟩
    have hA:=heldB.same s11
    have t2A:=s11 _ _ t2B
    clear heldB t2B s11 sB0 fbt hs sBt held L9 t1 t2 hbt
    walk_at "w"
    refine ⟨D4,rfl,⟨_,SqL.of hA.gP⟩,fun D5 hD5=> ?_⟩
    refine ints_comp (G:=fun i=>((2 ^ wide - 1 - plan.getD i 0:Nat):Int)) (src_list (SqL.of hA.gP) rfl) hD5 (by rw [List.length_map];omega) ?_ ?_
    · intro i H' R hi s kk
      have hi':i<plan.length:=by simpa using hi
      have lt:plan.getD i 0<2 ^ wide:=bp _ (getD_mem hi')
      rw [getD_nat hi]
      walk_at "w"
      refine rd_rI ⟨by omega,by omega,by decide⟩ ?_
      rw [pw_nat]
      walk_at "w"
      rw [show ((2 ^ wide:Nat):Int) - 1 - ((plan.getD i 0:Nat):Int)=((2 ^ wide - 1 - plan.getD i 0:Nat):Int) by omega]
      exact kk H' (Same.refl _)
    intro H12 s12 g12
    rw [natsL,List.length_map] at g12
    have hA:=hA.same s12
    have gB:=s12 _ _ gB
    have L12:=L11.same s12
    have t2A:=s12 _ _ t2A
    walk_at "w"
    refine rd_rI (.inl ⟨by omega,by omega⟩) ?_
    rw [show ((wide:Nat):Int)*((own:Nat):Int)=((wide*own:Nat):Int) by push_cast;rfl]
    walk_at "w"
    refine cl_mk hA.gR okR fun H13 cx s13 hcx C13=> ?_
    have hA:=hA.same s13
    have gB:=s13 _ _ gB
    have L13:=L12.same s13
    have t2A:=s13 _ _ t2A
    have g12:=s13 _ _ g12
    walk_at "w"
    refine rd_ixT (SqT.of hA.gH) (atI_nat (j:=1) rfl) ?_
    walk_at "w"
    refine rd_ixT (SqT.of hA.gH) (atI_nat (j:=0) rfl) ?_
    walk_at "w"
    have ew:wide*own / own=wide:=Nat.mul_div_cancel _ o1
    have er:rows.length / off.length=plan.length:=by
      rw [lR,lN,lF]
      exact Nat.mul_div_cancel _ i1
    have eL:off.length=on.length:=by omega
    have none:NoneBad (wide*own) rows own off on:=fun r hr j hj z=>by
      rw [er] at hr
      rw [ew] at hj
      unfold BadAt at z
      rw [eL,pR r j hr hj] at z
      by_cases hb:(plan.getD r 0).testBit j=true
      · rw [if_pos hb] at z
        exact z.2 rfl
      · rw [if_neg hb] at z
        exact z.1 rfl
    have eP:planL (wide*own) rows own off=(List.range plan.length).map fun i=>2 ^ wide - 1 - plan.getD i 0:=by
      unfold planL
      rw [er,ew]
      refine List.map_congr_left fun r hr=> ?_
      have hr:=List.mem_range.mp hr
      have lt:plan.getD r 0<2 ^ wide:=bp _ (getD_mem hr)
      have h0:=Nat.two_pow_pos wide
      refine (MM.eq_ofB (by omega) fun j hj=> ?_).symm
      rw [turn_bit lt hj,eL,pR r j hr hj]
      cases hb:(plan.getD r 0).testBit j with
      | true=>
        rw [if_pos rfl,decide_eq_false ne]
        rfl
      | false=>
        rw [if_neg (by decide),decide_eq_true rfl]
        rfl
    refine ⟨cx,_,_,cz,own,off,cy,own,on,D5,rfl,C13,hA.Cz,hA.Cy,okR,okF,okN,⟨⟨rfl,by omega⟩,Ne.symm ne,dv1,by rw [eL];exact dv2⟩,L13, .inl ⟨none,by rw [eP];exact g12⟩,fun H14 L14 b14=> ?_⟩
    have hA:=(hA.bar L13).same b14.toB
    have gB:=b14.toB _ _ (bar_lst L13 gB)
    have t2A:=b14 _ _ (Ne.symm nT) t2A
    have F14:LamT H14 TT2 lqF:=lam_start t2A
    clear none eP g12 C13 s12 s13 L11 L12 L13
    refine ⟨_,rfl,?_⟩
    walk_at "w"
    refine rd_rI (.inl ⟨by omega,by omega⟩) ?_
    rw [show ((wide:Nat):Int)*((own:Nat):Int)=((wide*own:Nat):Int) by push_cast;rfl]
    walk_at "w"
    have oe:own≤wide*own:=Nat.le_mul_of_pos_left _ w1
    refine ⟨dR,dN,dF,rows,on,off,wide*own,own,rfl,hA.gR,hA.gN,hA.gF,okR,okN,okF,o2,by omega,by omega,oe,F14,fun H15 F15 b15=> ?_⟩
    have hA:=(hA.bar F14).same b15.toB
    have gB:=b15.toB _ _ (bar_lst F14 gB)
    refine ⟨_,rfl,?_⟩
    walk_at "w"
    refine rd_rI (.inl ⟨by omega,by omega⟩) ?_
    rw [show ((wide:Nat):Int)*((own:Nat):Int)=((wide*own:Nat):Int) by push_cast;rfl]
    walk_at "w"
    refine ⟨dR,bt,dN,dF,rows,bs,on,off,wide*own,own,rfl,hA.gR,gB,hA.gN,hA.gF,okR,okB,okN,okF,by omega,dv1,dv2,F15,fun H16 F16 b16=> ?_⟩
    have hA:=(hA.bar F15).same b16.toB
    refine ⟨_,rfl,?_⟩
    walk_at "w"
    refine rd_ixT (SqT.of hA.gH) (atI_nat (j:=0) rfl) ?_
    obtain ⟨dy,ty,hy,_⟩:=id hA.Cy
    obtain ⟨dz,tz,hz,_⟩:=id hA.Cz
    walk_at "w"
    refine ⟨_,_,_,rfl,hy,rfl,?_⟩
    walk_at "w"
    refine ⟨cy,_,_,rfl,hA.Cy,fun H17 p1 l1 s17 _ _ y1 y2=> ?_⟩
    walk_at "w"
    intro p2 hp2
    have s18:=same_new (o:=HO.tup [nV own,V.ref dN]) hp2
    have g18:upd H17 p2 (HO.tup [nV own,V.ref dN]) p2=_:=upd_same
    generalize upd H17 p2 (HO.tup [nV own,V.ref dN])=H18 at s18 g18 ⊢
    have s618:=s17.trans s18
    have l60:=okN.p2
    have f60:=okF.p2
    walk_at "w"
    refine ⟨2, .tup [L2.dN own,dL on], .tup [L2.dN own,dL on],by decide,rp_twoT (s18 _ _ y1) (.int _) (rp_L (F:=fun _=>True) (s18 _ _ y2) trivial (by omega)),rp_twoT g18 (.int _) (rp_L (s618 _ _ hA.gN) trivial (by omega)),rfl,?_⟩
    rw [eqD_refl]
    refine ⟨true,rfl,?_⟩
    refine iteT ?_
    walk_at "w"
    refine rd_ixT (SqT.of (s618 _ _ hA.gH)) (atI_nat (j:=1) rfl) ?_
    walk_at "w"
    refine ⟨_,_,_,rfl,s618 _ _ hz,rfl,?_⟩
    walk_at "w"
    refine ⟨cz,_,_,rfl,hA.Cz.same s618,fun H19 p3 l3 s19 _ _ y3 y4=> ?_⟩
    walk_at "w"
    intro p4 hp4
    have s20:=same_new (o:=HO.tup [nV own,V.ref dF]) hp4
    have g20:upd H19 p4 (HO.tup [nV own,V.ref dF]) p4=_:=upd_same
    generalize upd H19 p4 (HO.tup [nV own,V.ref dF])=H20 at s20 g20 ⊢
    walk_at "w"
    refine ⟨2, .tup [L2.dN own,dL off], .tup [L2.dN own,dL off],by decide,rp_twoT (s20 _ _ y3) (.int _) (rp_L (F:=fun _=>True) (s20 _ _ y4) trivial (by omega)),rp_twoT g20 (.int _) (rp_L (s20 _ _ (s19 _ _ (s618 _ _ hA.gF))) trivial (by omega)),rfl,?_⟩
    rw [eqD_refl]
    exact k _
end
end K26
namespace K26
open PySem L2 PySem.Spec PyProof.Rows
theorem all_mk {l:PySem.W.OpenLaw} {w:World} {K:PySem.W.Frag} {h:Heap} {mg:Str→Option Value} {fa:Addr} (X:K.In h) (G:h.Ns mainGlobals mg) (hfa:mg "law"=some (.ref fa))
    {C_Cloth:Addr}
    {C_LoomError:Addr}
    {C_BadRow:Addr}
    {C_BadWord:Addr}
    {C_TooMany:Addr}
    {C_NotPlain:Addr}
    {C_NotGrown:Addr}
    {C_BadDraft:Addr}
    {C_BadCloth:Addr}
    {C_OutOfPlace:Addr}
    {f0:Addr} {od0 an0:Option Addr} {sl0:Array (Option Value)} {oc0 kV0 dc0 pm0 cd0 ct0:Value}
    {f1:Addr} {od1 an1:Option Addr} {sl1:Array (Option Value)} {oc1 kV1 dc1 pm1 cd1 ct1:Value}
    {f2:Addr} {od2 an2:Option Addr} {sl2:Array (Option Value)} {oc2 kV2 dc2 pm2 cd2 ct2:Value}
    {f3:Addr} {od3 an3:Option Addr} {sl3:Array (Option Value)} {oc3 kV3 dc3 pm3 cd3 ct3:Value}
    {f4:Addr} {od4 an4:Option Addr} {sl4:Array (Option Value)} {oc4 kV4 dc4 pm4 cd4 ct4:Value}
    {f5:Addr} {od5 an5:Option Addr} {sl5:Array (Option Value)} {oc5 kV5 dc5 pm5 cd5 ct5:Value}
    {f6:Addr} {od6 an6:Option Addr} {sl6:Array (Option Value)} {oc6 kV6 dc6 pm6 cd6 ct6:Value}
    {f7:Addr} {od7 an7:Option Addr} {sl7:Array (Option Value)} {oc7 kV7 dc7 pm7 cd7 ct7:Value}
    {f8:Addr} {od8 an8:Option Addr} {sl8:Array (Option Value)} {oc8 kV8 dc8 pm8 cd8 ct8:Value}
    {f9:Addr} {od9 an9:Option Addr} {sl9:Array (Option Value)} {oc9 kV9 dc9 pm9 cd9 ct9:Value}
    {f10:Addr} {od10 an10:Option Addr} {sl10:Array (Option Value)} {oc10 kV10 dc10 pm10 cd10 ct10:Value}
    {f11:Addr} {od11 an11:Option Addr} {sl11:Array (Option Value)} {oc11 kV11 dc11 pm11 cd11 ct11:Value}
    {f12:Addr} {od12 an12:Option Addr} {sl12:Array (Option Value)} {oc12 kV12 dc12 pm12 cd12 ct12:Value}
    {f13:Addr} {od13 an13:Option Addr} {sl13:Array (Option Value)} {oc13 kV13 dc13 pm13 cd13 ct13:Value}
    {f14:Addr} {od14 an14:Option Addr} {sl14:Array (Option Value)} {oc14 kV14 dc14 pm14 cd14 ct14:Value}
    {f15:Addr} {od15 an15:Option Addr} {sl15:Array (Option Value)} {oc15 kV15 dc15 pm15 cd15 ct15:Value}
    {f16:Addr} {od16 an16:Option Addr} {sl16:Array (Option Value)} {oc16 kV16 dc16 pm16 cd16 ct16:Value}
    {f17:Addr} {od17 an17:Option Addr} {sl17:Array (Option Value)} {oc17 kV17 dc17 pm17 cd17 ct17:Value}
    {f18:Addr} {od18 an18:Option Addr} {sl18:Array (Option Value)} {oc18 kV18 dc18 pm18 cd18 ct18:Value}
    {f19:Addr} {od19 an19:Option Addr} {sl19:Array (Option Value)} {oc19 kV19 dc19 pm19 cd19 ct19:Value}
    {f20:Addr} {od20 an20:Option Addr} {sl20:Array (Option Value)} {oc20 kV20 dc20 pm20 cd20 ct20:Value}
    {f21:Addr} {od21 an21:Option Addr} {sl21:Array (Option Value)} {oc21 kV21 dc21 pm21 cd21 ct21:Value}
    {f22:Addr} {od22 an22:Option Addr} {sl22:Array (Option Value)} {oc22 kV22 dc22 pm22 cd22 ct22:Value}
    {f23:Addr} {od23 an23:Option Addr} {sl23:Array (Option Value)} {oc23 kV23 dc23 pm23 cd23 ct23:Value}
    {f24:Addr} {od24 an24:Option Addr} {sl24:Array (Option Value)} {oc24 kV24 dc24 pm24 cd24 ct24:Value}
    {f25:Addr} {od25 an25:Option Addr} {sl25:Array (Option Value)} {oc25 kV25 dc25 pm25 cd25 ct25:Value}
    {f26:Addr} {od26 an26:Option Addr} {sl26:Array (Option Value)} {oc26 kV26 dc26 pm26 cd26 ct26:Value}
    {f27:Addr} {od27 an27:Option Addr} {sl27:Array (Option Value)} {oc27 kV27 dc27 pm27 cd27 ct27:Value}
    {tk0:Tok}
    {tk1:Tok}
    {cc1 TT1 cc2 TT2:Addr} {ts:List Addr}
    (aC_Cloth:PySem.W.nsIn K mainGlobals "Cloth"=some (some (.ref C_Cloth)))
    (pg_Cloth:PySem.W.plainGet K C_Cloth Str.empty=true)
    (hd_Cloth:PySem.W.hasDictIn K C_Cloth=true)
    (po_Cloth:PySem.W.plainOver K C_Cloth=true)
    (sa_Cloth:PySem.W.findIn K (.ref C_Cloth) "__setattr__"=some (some (.builtin "object.__setattr__")))
    (mk_Cloth:PySem.W.makesIn K C_Cloth=true)
    (kc_Cloth:PySem.W.keepIn K (.ref C_Cloth)=true)
    (ha_Cloth:PySem.W.findIn K (.ref C_Cloth) "__class__"=some (some (.builtin "object.__class__")))
    (hn_Cloth:PySem.W.specialIn K (.builtin "object.__class__") "__get__"=some (some (.builtin "getset_descriptor.__get__")))
    (ht_Cloth:PySem.W.takesIn K (.builtin "object.__class__")=some true)
    (hm_Cloth:PySem.W.mroIn K C_Cloth (.type "object")=some true)
    (na_Cloth_width:PySem.W.findIn K (.ref C_Cloth) "width"=some none)
    (na_Cloth_rows:PySem.W.findIn K (.ref C_Cloth) "rows"=some none)
    (aC_LoomError:PySem.W.nsIn K mainGlobals "LoomError"=some (some (.ref C_LoomError)))
    (aC_BadRow:PySem.W.nsIn K mainGlobals "BadRow"=some (some (.ref C_BadRow)))
    (aC_BadWord:PySem.W.nsIn K mainGlobals "BadWord"=some (some (.ref C_BadWord)))
    (aC_TooMany:PySem.W.nsIn K mainGlobals "TooMany"=some (some (.ref C_TooMany)))
    (aC_NotPlain:PySem.W.nsIn K mainGlobals "NotPlain"=some (some (.ref C_NotPlain)))
    (aC_NotGrown:PySem.W.nsIn K mainGlobals "NotGrown"=some (some (.ref C_NotGrown)))
    (aC_BadDraft:PySem.W.nsIn K mainGlobals "BadDraft"=some (some (.ref C_BadDraft)))
    (aC_BadCloth:PySem.W.nsIn K mainGlobals "BadCloth"=some (some (.ref C_BadCloth)))
    (aC_OutOfPlace:PySem.W.nsIn K mainGlobals "OutOfPlace"=some (some (.ref C_OutOfPlace)))
    (xc_BadCloth:PySem.W.isClsIn K C_BadCloth=true)
    (xg_BadCloth:PySem.W.findIn K (.ref C_BadCloth) "__getattribute__"=some (some (.builtin "BaseException.__getattribute__")))
    (xn_BadCloth:PySem.W.findIn K (.ref C_BadCloth) "__getattr__"=some none)
    (xb_BadCloth:PySem.W.mroIn K C_BadCloth (.type "BaseException")=some true)
    (ha_BadCloth:PySem.W.findIn K (.ref C_BadCloth) "__class__"=some (some (.builtin "object.__class__")))
    (hn_BadCloth:PySem.W.specialIn K (.builtin "object.__class__") "__get__"=some (some (.builtin "getset_descriptor.__get__")))
    (ht_BadCloth:PySem.W.takesIn K (.builtin "object.__class__")=some true)
    (hm_BadCloth:PySem.W.mroIn K C_BadCloth (.type "object")=some true)
    (xi_BadCloth:PySem.W.excIn K C_BadCloth [.type "ValueError", .type "Exception", .type "BaseException", .type "object"] "ValueError.__new__"=true)
    (xm_BadCloth_LoomError:PySem.W.exmOne K (.ref C_BadCloth) (.ref C_LoomError)=some true)
    (ki_BadCloth_BadRow:PySem.W.kitOne K (.ref C_BadCloth) (.ref C_BadRow)=some false)
    (ki_BadCloth_BadWord:PySem.W.kitOne K (.ref C_BadCloth) (.ref C_BadWord)=some false)
    (ki_BadCloth_TooMany:PySem.W.kitOne K (.ref C_BadCloth) (.ref C_TooMany)=some false)
    (ki_BadCloth_NotPlain:PySem.W.kitOne K (.ref C_BadCloth) (.ref C_NotPlain)=some false)
    (ki_BadCloth_NotGrown:PySem.W.kitOne K (.ref C_BadCloth) (.ref C_NotGrown)=some false)
    (ki_BadCloth_BadDraft:PySem.W.kitOne K (.ref C_BadCloth) (.ref C_BadDraft)=some false)
    (ki_BadCloth_BadCloth:PySem.W.kitOne K (.ref C_BadCloth) (.ref C_BadCloth)=some true)
    (ki_BadCloth_OutOfPlace:PySem.W.kitOne K (.ref C_BadCloth) (.ref C_OutOfPlace)=some false)
    (ki_BadCloth_ValueError:PySem.W.kitOne K (.ref C_BadCloth) (.type "ValueError")=some true)
    (xc_NotGrown:PySem.W.isClsIn K C_NotGrown=true)
    (xg_NotGrown:PySem.W.findIn K (.ref C_NotGrown) "__getattribute__"=some (some (.builtin "BaseException.__getattribute__")))
    (xn_NotGrown:PySem.W.findIn K (.ref C_NotGrown) "__getattr__"=some none)
    (xb_NotGrown:PySem.W.mroIn K C_NotGrown (.type "BaseException")=some true)
    (ha_NotGrown:PySem.W.findIn K (.ref C_NotGrown) "__class__"=some (some (.builtin "object.__class__")))
    (hn_NotGrown:PySem.W.specialIn K (.builtin "object.__class__") "__get__"=some (some (.builtin "getset_descriptor.__get__")))
    (ht_NotGrown:PySem.W.takesIn K (.builtin "object.__class__")=some true)
    (hm_NotGrown:PySem.W.mroIn K C_NotGrown (.type "object")=some true)
    (hd_NotGrown:PySem.W.hasDictIn K C_NotGrown=true)
    (sa_NotGrown:PySem.W.findIn K (.ref C_NotGrown) "__setattr__"=some (some (.builtin "object.__setattr__")))
    (ov_NotGrown:HT.exOver K C_NotGrown=true)
    (kc_NotGrown:PySem.W.keepIn K (.ref C_NotGrown)=true)
    (in_NotGrown:HT.iniIn K C_NotGrown f11=true)
    (xm_NotGrown_LoomError:PySem.W.exmOne K (.ref C_NotGrown) (.ref C_LoomError)=some true)
    (ki_NotGrown_BadRow:PySem.W.kitOne K (.ref C_NotGrown) (.ref C_BadRow)=some false)
    (ki_NotGrown_BadWord:PySem.W.kitOne K (.ref C_NotGrown) (.ref C_BadWord)=some false)
    (ki_NotGrown_TooMany:PySem.W.kitOne K (.ref C_NotGrown) (.ref C_TooMany)=some false)
    (ki_NotGrown_NotPlain:PySem.W.kitOne K (.ref C_NotGrown) (.ref C_NotPlain)=some false)
    (ki_NotGrown_NotGrown:PySem.W.kitOne K (.ref C_NotGrown) (.ref C_NotGrown)=some true)
    (ki_NotGrown_BadDraft:PySem.W.kitOne K (.ref C_NotGrown) (.ref C_BadDraft)=some false)
    (ki_NotGrown_BadCloth:PySem.W.kitOne K (.ref C_NotGrown) (.ref C_BadCloth)=some false)
    (ki_NotGrown_OutOfPlace:PySem.W.kitOne K (.ref C_NotGrown) (.ref C_OutOfPlace)=some false)
    (ki_NotGrown_ValueError:PySem.W.kitOne K (.ref C_NotGrown) (.type "ValueError")=some true)
    (xf_NotGrown_row:PySem.W.findIn K (.ref C_NotGrown) "row"=some none)
    (xf_NotGrown_column:PySem.W.findIn K (.ref C_NotGrown) "column"=some none)
    (sp_LoomError:PySem.W.specialIn K (.ref C_LoomError) "__getattribute__"=some (some (.builtin "type.__getattribute__")))
    (rd_LoomError:PySem.W.readsIn K C_LoomError (.type "type")=true)
    (fc_LoomError:PySem.W.findCls K (.ref C_LoomError) (.type "type") "__init__"=some (.val (.builtin "ValueError.__init__")))
    (a0:PySem.W.nsIn K mainGlobals "bit_of"=some (some (.ref f0)))
    (l0:K.lookup f0=some ⟨oc0,od0, .func (PySem.W.fnOf "bit_of" "bit_of" (defArgs s_bit_of) (defBody s_bit_of) (defScope s_bit_of) .none kV0 dc0 pm0 an0 cd0 ct0),sl0⟩)
    (c0:PySem.W.codeIn K cd0 "bit_of"=true)
    (k0:PySem.W.keepIn K (.ref f0)=true)
    (a1:PySem.W.nsIn K mainGlobals "mask_of"=some (some (.ref f1)))
    (l1:K.lookup f1=some ⟨oc1,od1, .func (PySem.W.fnOf "mask_of" "mask_of" (defArgs s_mask_of) (defBody s_mask_of) (defScope s_mask_of) .none kV1 dc1 pm1 an1 cd1 ct1),sl1⟩)
    (c1:PySem.W.codeIn K cd1 "mask_of"=true)
    (k1:PySem.W.keepIn K (.ref f1)=true)
    (a2:PySem.W.nsIn K mainGlobals "mask_to"=some (some (.ref f2)))
    (l2:K.lookup f2=some ⟨oc2,od2, .func (PySem.W.fnOf "mask_to" "mask_to" (defArgs s_mask_to) (defBody s_mask_to) (defScope s_mask_to) .none kV2 dc2 pm2 an2 cd2 ct2),sl2⟩)
    (c2:PySem.W.codeIn K cd2 "mask_to"=true)
    (k2:PySem.W.keepIn K (.ref f2)=true)
    (a3:PySem.W.nsIn K mainGlobals "is_whole"=some (some (.ref f3)))
    (l3:K.lookup f3=some ⟨oc3,od3, .func (PySem.W.fnOf "is_whole" "is_whole" (defArgs s_is_whole) (defBody s_is_whole) (defScope s_is_whole) .none kV3 dc3 pm3 an3 cd3 ct3),sl3⟩)
    (c3:PySem.W.codeIn K cd3 "is_whole"=true)
    (k3:PySem.W.keepIn K (.ref f3)=true)
    (a4:PySem.W.nsIn K mainGlobals "is_among"=some (some (.ref f4)))
    (l4:K.lookup f4=some ⟨oc4,od4, .func (PySem.W.fnOf "is_among" "is_among" (defArgs s_is_among) (defBody s_is_among) (defScope s_is_among) .none kV4 dc4 pm4 an4 cd4 ct4),sl4⟩)
    (c4:PySem.W.codeIn K cd4 "is_among"=true)
    (k4:PySem.W.keepIn K (.ref f4)=true)
    (a5:PySem.W.nsIn K mainGlobals "need_cloth"=some (some (.ref f5)))
    (l5:K.lookup f5=some ⟨oc5,od5, .func (PySem.W.fnOf "need_cloth" "need_cloth" (defArgs s_need_cloth) (defBody s_need_cloth) (defScope s_need_cloth) .none kV5 dc5 pm5 an5 cd5 ct5),sl5⟩)
    (c5:PySem.W.codeIn K cd5 "need_cloth"=true)
    (k5:PySem.W.keepIn K (.ref f5)=true)
    (a6:PySem.W.findIn K (.ref C_Cloth) "__init__"=some (some (.ref f6)))
    (i6:PySem.W.isFn K (.ref f6)=true)
    (l6:K.lookup f6=some ⟨oc6,od6, .func (PySem.W.fnOf "__init__" "Cloth.__init__" (defArgs s_Cloth___init__) (defBody s_Cloth___init__) (defScope s_Cloth___init__) .none kV6 dc6 pm6 an6 cd6 ct6),sl6⟩)
    (c6:PySem.W.codeIn K cd6 "Cloth.__init__"=true)
    (k6:PySem.W.keepIn K (.ref f6)=true)
    (a7:PySem.W.findIn K (.ref C_Cloth) "told"=some (some (.ref f7)))
    (i7:PySem.W.isFn K (.ref f7)=true)
    (l7:K.lookup f7=some ⟨oc7,od7, .func (PySem.W.fnOf "told" "Cloth.told" (defArgs s_Cloth_told) (defBody s_Cloth_told) (defScope s_Cloth_told) .none kV7 dc7 pm7 an7 cd7 ct7),sl7⟩)
    (c7:PySem.W.codeIn K cd7 "Cloth.told"=true)
    (k7:PySem.W.keepIn K (.ref f7)=true)
    (a8:PySem.W.findIn K (.ref C_Cloth) "ends"=some (some (.ref f8)))
    (i8:PySem.W.isFn K (.ref f8)=true)
    (l8:K.lookup f8=some ⟨oc8,od8, .func (PySem.W.fnOf "ends" "Cloth.ends" (defArgs s_Cloth_ends) (defBody s_Cloth_ends) (defScope s_Cloth_ends) .none kV8 dc8 pm8 an8 cd8 ct8),sl8⟩)
    (c8:PySem.W.codeIn K cd8 "Cloth.ends"=true)
    (k8:PySem.W.keepIn K (.ref f8)=true)
    (a9:PySem.W.findIn K (.ref C_Cloth) "picks"=some (some (.ref f9)))
    (i9:PySem.W.isFn K (.ref f9)=true)
    (l9:K.lookup f9=some ⟨oc9,od9, .func (PySem.W.fnOf "picks" "Cloth.picks" (defArgs s_Cloth_picks) (defBody s_Cloth_picks) (defScope s_Cloth_picks) .none kV9 dc9 pm9 an9 cd9 ct9),sl9⟩)
    (c9:PySem.W.codeIn K cd9 "Cloth.picks"=true)
    (k9:PySem.W.keepIn K (.ref f9)=true)
    (a10:PySem.W.nsIn K mainGlobals "_law_kinds"=some (some (.ref f10)))
    (l10:K.lookup f10=some ⟨oc10,od10, .func (PySem.W.fnOf "_law_kinds" "_law_kinds" (defArgs s__law_kinds) (defBody s__law_kinds) (defScope s__law_kinds) .none kV10 dc10 pm10 an10 cd10 ct10),sl10⟩)
    (c10:PySem.W.codeIn K cd10 "_law_kinds"=true)
    (k10:PySem.W.keepIn K (.ref f10)=true)
    (a11:PySem.W.findIn K (.ref C_NotGrown) "__init__"=some (some (.ref f11)))
    (i11:PySem.W.isFn K (.ref f11)=true)
    (l11:K.lookup f11=some ⟨oc11,od11, .func (PySem.W.fnOf "__init__" "NotGrown.__init__" (defArgs s_NotGrown___init__) (defBody s_NotGrown___init__) (defScope s_NotGrown___init__) .none kV11 dc11 pm11 an11 cd11 ct11),sl11⟩)
    (c11:PySem.W.codeIn K cd11 "NotGrown.__init__"=true)
    (k11:PySem.W.keepIn K (.ref f11)=true)
    (a12:PySem.W.nsIn K mainGlobals "need_like_sizes"=some (some (.ref f12)))
    (l12:K.lookup f12=some ⟨oc12,od12, .func (PySem.W.fnOf "need_like_sizes" "need_like_sizes" (defArgs s_need_like_sizes) (defBody s_need_like_sizes) (defScope s_need_like_sizes) .none kV12 dc12 pm12 an12 cd12 ct12),sl12⟩)
    (c12:PySem.W.codeIn K cd12 "need_like_sizes"=true)
    (k12:PySem.W.keepIn K (.ref f12)=true)
    (a13:PySem.W.nsIn K mainGlobals "rows_at"=some (some (.ref f13)))
    (l13:K.lookup f13=some ⟨oc13,od13, .func (PySem.W.fnOf "rows_at" "rows_at" (defArgs s_rows_at) (defBody s_rows_at) (defScope s_rows_at) .none kV13 dc13 pm13 an13 cd13 ct13),sl13⟩)
    (c13:PySem.W.codeIn K cd13 "rows_at"=true)
    (k13:PySem.W.keepIn K (.ref f13)=true)
    (a14:PySem.W.nsIn K mainGlobals "is_on"=some (some (.ref f14)))
    (l14:K.lookup f14=some ⟨oc14,od14, .func (PySem.W.fnOf "is_on" "is_on" (defArgs s_is_on) (defBody s_is_on) (defScope s_is_on) .none kV14 dc14 pm14 an14 cd14 ct14),sl14⟩)
    (c14:PySem.W.codeIn K cd14 "is_on"=true)
    (k14:PySem.W.keepIn K (.ref f14)=true)
    (a15:PySem.W.nsIn K mainGlobals "plan_row"=some (some (.ref f15)))
    (l15:K.lookup f15=some ⟨oc15,od15, .func (PySem.W.fnOf "plan_row" "plan_row" (defArgs s_plan_row) (defBody s_plan_row) (defScope s_plan_row) .none kV15 dc15 pm15 an15 cd15 ct15),sl15⟩)
    (c15:PySem.W.codeIn K cd15 "plan_row"=true)
    (k15:PySem.W.keepIn K (.ref f15)=true)
    (a16:PySem.W.nsIn K mainGlobals "plan_of"=some (some (.ref f16)))
    (l16:K.lookup f16=some ⟨oc16,od16, .func (PySem.W.fnOf "plan_of" "plan_of" (defArgs s_plan_of) (defBody s_plan_of) (defScope s_plan_of) .none kV16 dc16 pm16 an16 cd16 ct16),sl16⟩)
    (c16:PySem.W.codeIn K cd16 "plan_of"=true)
    (k16:PySem.W.keepIn K (.ref f16)=true)
    (a17:PySem.W.nsIn K mainGlobals "_law_caught"=some (some (.ref f17)))
    (l17:K.lookup f17=some ⟨oc17,od17, .func (PySem.W.fnOf "_law_caught" "_law_caught" (defArgs s__law_caught) (defBody s__law_caught) (defScope s__law_caught) .none kV17 dc17 pm17 an17 cd17 ct17),sl17⟩)
    (c17:PySem.W.codeIn K cd17 "_law_caught"=true)
    (k17:PySem.W.keepIn K (.ref f17)=true)
    (a18:PySem.W.nsIn K mainGlobals "_law_mixed"=some (some (.ref f18)))
    (l18:K.lookup f18=some ⟨oc18,od18, .func (PySem.W.fnOf "_law_mixed" "_law_mixed" (defArgs s__law_mixed) (defBody s__law_mixed) (defScope s__law_mixed) .none kV18 dc18 pm18 an18 cd18 ct18),sl18⟩)
    (c18:PySem.W.codeIn K cd18 "_law_mixed"=true)
    (k18:PySem.W.keepIn K (.ref f18)=true)
    (a19:PySem.W.nsIn K mainGlobals "_law_whole"=some (some (.ref f19)))
    (l19:K.lookup f19=some ⟨oc19,od19, .func (PySem.W.fnOf "_law_whole" "_law_whole" (defArgs s__law_whole) (defBody s__law_whole) (defScope s__law_whole) .none kV19 dc19 pm19 an19 cd19 ct19),sl19⟩)
    (c19:PySem.W.codeIn K cd19 "_law_whole"=true)
    (k19:PySem.W.keepIn K (.ref f19)=true)
    (a20:PySem.W.nsIn K mainGlobals "_law_grown"=some (some (.ref f20)))
    (l20:K.lookup f20=some ⟨oc20,od20, .func (PySem.W.fnOf "_law_grown" "_law_grown" (defArgs s__law_grown) (defBody s__law_grown) (defScope s__law_grown) .none kV20 dc20 pm20 an20 cd20 ct20),sl20⟩)
    (c20:PySem.W.codeIn K cd20 "_law_grown"=true)
    (k20:PySem.W.keepIn K (.ref f20)=true)
    (a21:PySem.W.nsIn K mainGlobals "_law_due"=some (some (.ref f21)))
    (l21:K.lookup f21=some ⟨oc21,od21, .func (PySem.W.fnOf "_law_due" "_law_due" (defArgs s__law_due) (defBody s__law_due) (defScope s__law_due) .none kV21 dc21 pm21 an21 cd21 ct21),sl21⟩)
    (c21:PySem.W.codeIn K cd21 "_law_due"=true)
    (k21:PySem.W.keepIn K (.ref f21)=true)
    (a22:PySem.W.nsIn K mainGlobals "_law_blocks"=some (some (.ref f22)))
    (l22:K.lookup f22=some ⟨oc22,od22, .func (PySem.W.fnOf "_law_blocks" "_law_blocks" (defArgs s__law_blocks) (defBody s__law_blocks) (defScope s__law_blocks) .none kV22 dc22 pm22 an22 cd22 ct22),sl22⟩)
    (c22:PySem.W.codeIn K cd22 "_law_blocks"=true)
    (k22:PySem.W.keepIn K (.ref f22)=true)
    (a23:PySem.W.nsIn K mainGlobals "_law_right"=some (some (.ref f23)))
    (l23:K.lookup f23=some ⟨oc23,od23, .func (PySem.W.fnOf "_law_right" "_law_right" (defArgs s__law_right) (defBody s__law_right) (defScope s__law_right) .none kV23 dc23 pm23 an23 cd23 ct23),sl23⟩)
    (c23:PySem.W.codeIn K cd23 "_law_right"=true)
    (k23:PySem.W.keepIn K (.ref f23)=true)
    (a24:PySem.W.nsIn K mainGlobals "_law_refused"=some (some (.ref f24)))
    (l24:K.lookup f24=some ⟨oc24,od24, .func (PySem.W.fnOf "_law_refused" "_law_refused" (defArgs s__law_refused) (defBody s__law_refused) (defScope s__law_refused) .none kV24 dc24 pm24 an24 cd24 ct24),sl24⟩)
    (c24:PySem.W.codeIn K cd24 "_law_refused"=true)
    (k24:PySem.W.keepIn K (.ref f24)=true)
    (a25:PySem.W.nsIn K mainGlobals "_law_all_refused"=some (some (.ref f25)))
    (l25:K.lookup f25=some ⟨oc25,od25, .func (PySem.W.fnOf "_law_all_refused" "_law_all_refused" (defArgs s__law_all_refused) (defBody s__law_all_refused) (defScope s__law_all_refused) .none kV25 dc25 pm25 an25 cd25 ct25),sl25⟩)
    (c25:PySem.W.codeIn K cd25 "_law_all_refused"=true)
    (k25:PySem.W.keepIn K (.ref f25)=true)
    (a26:PySem.W.nsIn K mainGlobals "_law_cut_refused"=some (some (.ref f26)))
    (l26:K.lookup f26=some ⟨oc26,od26, .func (PySem.W.fnOf "_law_cut_refused" "_law_cut_refused" (defArgs s__law_cut_refused) (defBody s__law_cut_refused) (defScope s__law_cut_refused) .none kV26 dc26 pm26 an26 cd26 ct26),sl26⟩)
    (c26:PySem.W.codeIn K cd26 "_law_cut_refused"=true)
    (k26:PySem.W.keepIn K (.ref f26)=true)
    (a27:PySem.W.nsIn K mainGlobals "law"=some (some (.ref f27)))
    (l27:K.lookup f27=some ⟨oc27,od27, .func (PySem.W.fnOf "law" "law" (defArgs s_law) (defBody s_law) (defScope s_law) .none kV27 dc27 pm27 an27 cd27 ct27),sl27⟩)
    (c27:PySem.W.codeIn K cd27 "law"=true)
    (k27:PySem.W.keepIn K (.ref f27)=true)
    (z0:PySem.W.nsIn K mainGlobals "isinstance"=some none)
    (z1:PySem.W.nsIn K mainGlobals "int"=some none)
    (z2:PySem.W.nsIn K mainGlobals "bool"=some none)
    (z3:PySem.W.nsIn K mainGlobals "list"=some none)
    (z4:PySem.W.nsIn K mainGlobals "tuple"=some none)
    (z5:PySem.W.nsIn K mainGlobals "len"=some none)
    (z6:PySem.W.nsIn K mainGlobals "all"=some none)
    (z7:PySem.W.nsIn K mainGlobals "range"=some none)
    (z8:PySem.W.nsIn K mainGlobals "sum"=some none)
    (z9:PySem.W.nsIn K mainGlobals "enumerate"=some none)
    (z10:PySem.W.nsIn K mainGlobals "ValueError"=some none)
    (y0:PySem.W.nsIn K mainGlobals "MOST_ENDS"=some (some (.int 60 tk0)))
    (y1:PySem.W.nsIn K mainGlobals "MOST_PICKS"=some (some (.int 60 tk1)))
    (hts:ts=[TT2,TT1])
    (hcc1:cd23= .ref cc1)
    (hhd1:PySem.W.codeHdIn K cc1 TT1=true)
    (hcc2:cd24= .ref cc2)
    (hhd2:PySem.W.codeHdIn K cc2 TT2=true)
    : ∃ fd:FuncData,(∀ (s:Shared) (u:Value),BindsTo s fd ⟨[u],[]⟩ [("_law_script",u)])∧(∀ h':Heap,K.In h'→∀ T∈ts,∃ c,PySem.W.CodeHd h' c T)∧∀ base:Heap,K.In base→base.Ns mainGlobals mg→(∀ T∈ts,base.BuiltinsAt mg T)→FnOk l.prog w K mg base CX0 11 fa fd ["_law_script"] (spLawM K ts):=by
  subst hts
  subst hcc1
  subst hcc2
  have e:=hfa.symm.trans (PySem.W.mg_of X G a27)
  cases e
  have F0:=fun_mk (st:=s_bit_of) l0 c0 k0
  have B0:=F0.binds (ps:=["number"]) fun _ _ _ _ _ _=>arg1 fun _=>rfl
  have D0:DefAt K mg "bit_of" s_bit_of ["number"] _ _:=⟨F0,PySem.W.mg_of X G a0,B0⟩
  have F1:=fun_mk (st:=s_mask_of) l1 c1 k1
  have B1:=F1.binds (ps:=["numbers"]) fun _ _ _ _ _ _=>arg1 fun _=>rfl
  have D1:DefAt K mg "mask_of" s_mask_of ["numbers"] _ _:=⟨F1,PySem.W.mg_of X G a1,B1⟩
  have F2:=fun_mk (st:=s_mask_to) l2 c2 k2
  have B2:=F2.binds (ps:=["most"]) fun _ _ _ _ _ _=>arg1 fun _=>rfl
  have D2:DefAt K mg "mask_to" s_mask_to ["most"] _ _:=⟨F2,PySem.W.mg_of X G a2,B2⟩
  have F3:=fun_mk (st:=s_is_whole) l3 c3 k3
  have B3:=F3.binds (ps:=["thing"]) fun _ _ _ _ _ _=>arg1 fun _=>rfl
  have D3:DefAt K mg "is_whole" s_is_whole ["thing"] _ _:=⟨F3,PySem.W.mg_of X G a3,B3⟩
  have F4:=fun_mk (st:=s_is_among) l4 c4 k4
  have B4:=F4.binds (ps:=["thing","least","most"]) fun _ _ _ _ _ _=>arg3 fun _ _ _=>rfl
  have D4:DefAt K mg "is_among" s_is_among ["thing","least","most"] _ _:=⟨F4,PySem.W.mg_of X G a4,B4⟩
  have F5:=fun_mk (st:=s_need_cloth) l5 c5 k5
  have B5:=F5.binds (ps:=["ends","rows"]) fun _ _ _ _ _ _=>arg2 fun _ _=>rfl
  have D5:DefAt K mg "need_cloth" s_need_cloth ["ends","rows"] _ _:=⟨F5,PySem.W.mg_of X G a5,B5⟩
  have F6:=fun_mk (st:=s_Cloth___init__) l6 c6 k6
  have B6:=F6.binds (ps:=["self","ends","rows"]) fun _ _ _ _ _ _=>arg3 fun _ _ _=>rfl
  have F7:=fun_mk (st:=s_Cloth_told) l7 c7 k7
  have B7:=F7.binds (ps:=["self"]) fun _ _ _ _ _ _=>arg1 fun _=>rfl
  have F8:=fun_mk (st:=s_Cloth_ends) l8 c8 k8
  have B8:=F8.binds (ps:=["self"]) fun _ _ _ _ _ _=>arg1 fun _=>rfl
  have F9:=fun_mk (st:=s_Cloth_picks) l9 c9 k9
  have B9:=F9.binds (ps:=["self"]) fun _ _ _ _ _ _=>arg1 fun _=>rfl
  have F10:=fun_mk (st:=s__law_kinds) l10 c10 k10
  have B10:=F10.binds (ps:=["_law_error"]) fun _ _ _ _ _ _=>arg1 fun _=>rfl
  have D10:DefAt K mg "_law_kinds" s__law_kinds ["_law_error"] _ _:=⟨F10,PySem.W.mg_of X G a10,B10⟩
  have F11:=fun_mk (st:=s_NotGrown___init__) l11 c11 k11
  have B11:=F11.binds (ps:=["self","row","column"]) fun _ _ _ _ _ _=>arg3 fun _ _ _=>rfl
  have F12:=fun_mk (st:=s_need_like_sizes) l12 c12 k12
  have B12:=F12.binds (ps:=["on","off"]) fun _ _ _ _ _ _=>arg2 fun _ _=>rfl
  have D12:DefAt K mg "need_like_sizes" s_need_like_sizes ["on","off"] _ _:=⟨F12,PySem.W.mg_of X G a12,B12⟩
  have F13:=fun_mk (st:=s_rows_at) l13 c13 k13
  have B13:=F13.binds (ps:=["cloth","row","column","wide","high"]) fun _ _ _ _ _ _=>arg5 fun _ _ _ _ _=>rfl
  have D13:DefAt K mg "rows_at" s_rows_at ["cloth","row","column","wide","high"] _ _:=⟨F13,PySem.W.mg_of X G a13,B13⟩
  have F14:=fun_mk (st:=s_is_on) l14 c14 k14
  have B14:=F14.binds (ps:=["cloth","row","column","on","off"]) fun _ _ _ _ _ _=>arg5 fun _ _ _ _ _=>rfl
  have D14:DefAt K mg "is_on" s_is_on ["cloth","row","column","on","off"] _ _:=⟨F14,PySem.W.mg_of X G a14,B14⟩
  have F15:=fun_mk (st:=s_plan_row) l15 c15 k15
  have B15:=F15.binds (ps:=["cloth","row","on","off"]) fun _ _ _ _ _ _=>arg4 fun _ _ _ _=>rfl
  have D15:DefAt K mg "plan_row" s_plan_row ["cloth","row","on","off"] _ _:=⟨F15,PySem.W.mg_of X G a15,B15⟩
  have F16:=fun_mk (st:=s_plan_of) l16 c16 k16
  have B16:=F16.binds (ps:=["cloth","on","off"]) fun _ _ _ _ _ _=>arg3 fun _ _ _=>rfl
  have D16:DefAt K mg "plan_of" s_plan_of ["cloth","on","off"] _ _:=⟨F16,PySem.W.mg_of X G a16,B16⟩
  have F17:=fun_mk (st:=s__law_caught) l17 c17 k17
  have B17:=F17.binds (ps:=["_law_asked"]) fun _ _ _ _ _ _=>arg1 fun _=>rfl
  have D17:DefAt K mg "_law_caught" s__law_caught ["_law_asked"] _ _:=⟨F17,PySem.W.mg_of X G a17,B17⟩
  have F18:=fun_mk (st:=s__law_mixed) l18 c18 k18
  have B18:=F18.binds (ps:=["_law_cell","_law_k"]) fun _ _ _ _ _ _=>arg2 fun _ _=>rfl
  have D18:DefAt K mg "_law_mixed" s__law_mixed ["_law_cell","_law_k"] _ _:=⟨F18,PySem.W.mg_of X G a18,B18⟩
  have F19:=fun_mk (st:=s__law_whole) l19 c19 k19
  have B19:=F19.binds (ps:=["_law_script"]) fun _ _ _ _ _ _=>arg1 fun _=>rfl
  have D19:DefAt K mg "_law_whole" s__law_whole ["_law_script"] _ _:=⟨F19,PySem.W.mg_of X G a19,B19⟩
  have F20:=fun_mk (st:=s__law_grown) l20 c20 k20
  have B20:=F20.binds (ps:=["_law_plan","_law_wide","_law_on","_law_off","_law_own"]) fun _ _ _ _ _ _=>arg5 fun _ _ _ _ _=>rfl
  have D20:DefAt K mg "_law_grown" s__law_grown ["_law_plan","_law_wide","_law_on","_law_off","_law_own"] _ _:=⟨F20,PySem.W.mg_of X G a20,B20⟩
  have F21:=fun_mk (st:=s__law_due) l21 c21 k21
  have B21:=F21.binds (ps:=["_law_rows","_law_wide","_law_on","_law_off","_law_own"]) fun _ _ _ _ _ _=>arg5 fun _ _ _ _ _=>rfl
  have D21:DefAt K mg "_law_due" s__law_due ["_law_rows","_law_wide","_law_on","_law_off","_law_own"] _ _:=⟨F21,PySem.W.mg_of X G a21,B21⟩
  have F22:=fun_mk (st:=s__law_blocks) l22 c22 k22
  have B22:=F22.binds (ps:=["_law_whole_here","_law_own","_law_high"]) fun _ _ _ _ _ _=>arg3 fun _ _ _=>rfl
  have D22:DefAt K mg "_law_blocks" s__law_blocks ["_law_whole_here","_law_own","_law_high"] _ _:=⟨F22,PySem.W.mg_of X G a22,B22⟩
  have F23:=fun_mk (st:=s__law_right) l23 c23 k23
  have B23:=F23.binds (ps:=["_law_cloth","_law_on","_law_off","_law_due_here"]) fun _ _ _ _ _ _=>arg4 fun _ _ _ _=>rfl
  have D23:DefAt K mg "_law_right" s__law_right ["_law_cloth","_law_on","_law_off","_law_due_here"] _ _:=⟨F23,PySem.W.mg_of X G a23,B23⟩
  have F24:=fun_mk (st:=s__law_refused) l24 c24 k24
  have B24:=F24.binds (ps:=["_law_cloth","_law_on","_law_off"]) fun _ _ _ _ _ _=>arg3 fun _ _ _=>rfl
  have D24:DefAt K mg "_law_refused" s__law_refused ["_law_cloth","_law_on","_law_off"] _ _:=⟨F24,PySem.W.mg_of X G a24,B24⟩
  have F25:=fun_mk (st:=s__law_all_refused) l25 c25 k25
  have B25:=F25.binds (ps:=["_law_rows","_law_ends","_law_on","_law_off","_law_own"]) fun _ _ _ _ _ _=>arg5 fun _ _ _ _ _=>rfl
  have D25:DefAt K mg "_law_all_refused" s__law_all_refused ["_law_rows","_law_ends","_law_on","_law_off","_law_own"] _ _:=⟨F25,PySem.W.mg_of X G a25,B25⟩
  have F26:=fun_mk (st:=s__law_cut_refused) l26 c26 k26
  have B26:=F26.binds (ps:=["_law_rows","_law_bent","_law_ends","_law_on","_law_off","_law_own"]) fun _ _ _ _ _ _=>arg6 fun _ _ _ _ _ _=>rfl
  have D26:DefAt K mg "_law_cut_refused" s__law_cut_refused ["_law_rows","_law_bent","_law_ends","_law_on","_law_off","_law_own"] _ _:=⟨F26,PySem.W.mg_of X G a26,B26⟩
  have F27:=fun_mk (st:=s_law) l27 c27 k27
  have B27:=F27.binds (ps:=["_law_script"]) fun _ _ _ _ _ _=>arg1 fun _=>rfl
  have D27:DefAt K mg "law" s_law ["_law_script"] _ _:=⟨F27,PySem.W.mg_of X G a27,B27⟩
  have T:Txt K mg ⟨C_Cloth,C_LoomError,C_BadRow,C_BadWord,C_TooMany,C_NotPlain,C_NotGrown,C_BadDraft,C_BadCloth,C_OutOfPlace⟩:={
    own:=fun x hx=>by
      simp only [List.mem_cons,List.not_mem_nil,or_false] at hx
      rcases hx with rfl | rfl | rfl | rfl | rfl | rfl | rfl | rfl | rfl | rfl | rfl
      · exact PySem.W.mg_none_of X G z0
      · exact PySem.W.mg_none_of X G z1
      · exact PySem.W.mg_none_of X G z2
      · exact PySem.W.mg_none_of X G z3
      · exact PySem.W.mg_none_of X G z4
      · exact PySem.W.mg_none_of X G z5
      · exact PySem.W.mg_none_of X G z6
      · exact PySem.W.mg_none_of X G z7
      · exact PySem.W.mg_none_of X G z8
      · exact PySem.W.mg_none_of X G z9
      · exact PySem.W.mg_none_of X G z10
    g_Cloth:=PySem.W.mg_of X G aC_Cloth
    kd_Cloth:=⟨⟨pg_Cloth,hd_Cloth,po_Cloth,sa_Cloth⟩,ha_Cloth,hn_Cloth,ht_Cloth,hm_Cloth⟩
    is_Cloth:=if_pos (beq_self_eq_true _)
    na_Cloth_width:=na_Cloth_width
    na_Cloth_rows:=na_Cloth_rows
    g_LoomError:=PySem.W.mg_of X G aC_LoomError
    g_BadRow:=PySem.W.mg_of X G aC_BadRow
    g_BadWord:=PySem.W.mg_of X G aC_BadWord
    g_TooMany:=PySem.W.mg_of X G aC_TooMany
    g_NotPlain:=PySem.W.mg_of X G aC_NotPlain
    g_NotGrown:=PySem.W.mg_of X G aC_NotGrown
    g_BadDraft:=PySem.W.mg_of X G aC_BadDraft
    g_BadCloth:=PySem.W.mg_of X G aC_BadCloth
    xk_BadCloth:=⟨xc_BadCloth,xg_BadCloth,xn_BadCloth,xb_BadCloth,ha_BadCloth,hn_BadCloth,ht_BadCloth,hm_BadCloth⟩
    xi_BadCloth:=xi_BadCloth
    xm_BadCloth_LoomError:=xm_BadCloth_LoomError
    ki_BadCloth_BadRow:=ki_BadCloth_BadRow
    ki_BadCloth_BadWord:=ki_BadCloth_BadWord
    ki_BadCloth_TooMany:=ki_BadCloth_TooMany
    ki_BadCloth_NotPlain:=ki_BadCloth_NotPlain
    ki_BadCloth_NotGrown:=ki_BadCloth_NotGrown
    ki_BadCloth_BadDraft:=ki_BadCloth_BadDraft
    ki_BadCloth_BadCloth:=ki_BadCloth_BadCloth
    ki_BadCloth_OutOfPlace:=ki_BadCloth_OutOfPlace
    ki_BadCloth_ValueError:=ki_BadCloth_ValueError
    g_OutOfPlace:=PySem.W.mg_of X G aC_OutOfPlace
    xk_NotGrown:=⟨⟨xc_NotGrown,xg_NotGrown,xn_NotGrown,xb_NotGrown,ha_NotGrown,hn_NotGrown,ht_NotGrown,hm_NotGrown⟩,hd_NotGrown⟩
    xs_NotGrown:=⟨sa_NotGrown,ov_NotGrown,hd_NotGrown⟩
    xm_NotGrown_LoomError:=xm_NotGrown_LoomError
    ki_NotGrown_BadRow:=ki_NotGrown_BadRow
    ki_NotGrown_BadWord:=ki_NotGrown_BadWord
    ki_NotGrown_TooMany:=ki_NotGrown_TooMany
    ki_NotGrown_NotPlain:=ki_NotGrown_NotPlain
    ki_NotGrown_NotGrown:=ki_NotGrown_NotGrown
    ki_NotGrown_BadDraft:=ki_NotGrown_BadDraft
    ki_NotGrown_BadCloth:=ki_NotGrown_BadCloth
    ki_NotGrown_OutOfPlace:=ki_NotGrown_OutOfPlace
    ki_NotGrown_ValueError:=ki_NotGrown_ValueError
    xf_NotGrown_row:=xf_NotGrown_row
    xf_NotGrown_column:=xf_NotGrown_column
    xj_NotGrown:=⟨_,in_NotGrown⟩
    xb_LoomError:=⟨sp_LoomError,rd_LoomError,fc_LoomError⟩
    k_MOST_ENDS:=⟨_,PySem.W.mg_of X G y0⟩
    k_MOST_PICKS:=⟨_,PySem.W.mg_of X G y1⟩
  }
  have hCd:∀ h':Heap,K.In h'→∀ T∈[TT2,TT1],∃ c,PySem.W.CodeHd h' c T:=by
    intro _ X2 T hT
    rcases List.mem_cons.mp hT with z | hT
    · subst z;exact ⟨cc2,PySem.W.codeHd_of_K X2 hhd2⟩
    rcases List.mem_cons.mp hT with z | hT
    · subst z;exact ⟨cc1,PySem.W.codeHd_of_K X2 hhd1⟩
    cases hT
  exact ⟨_,fun s v=> .of_eq rfl,hCd,fun base Xb _ hbt=>by
    have hd1:=PySem.W.codeHd_of_K Xb hhd1
    have hd2:=PySem.W.codeHd_of_K Xb hhd2
    have c_bit_of:=D0.call (ok_bit_of (P:=l.prog) (w:=w) (base:=base) F0 T)
    have c_mask_of:=D1.call (ok_mask_of (P:=l.prog) (w:=w) (base:=base) F1 T c_bit_of)
    have c_mask_to:=D2.call (ok_mask_to (P:=l.prog) (w:=w) (base:=base) F2 T)
    have c_is_whole:=D3.call (ok_is_whole (P:=l.prog) (w:=w) (base:=base) F3 T)
    have c_is_among:=D4.call (ok_is_among (P:=l.prog) (w:=w) (base:=base) F4 T c_is_whole)
    have c_need_cloth:=D5.callE (ok_need_cloth (P:=l.prog) (w:=w) (base:=base) F5 T c_is_among c_mask_to)
    have m_Cloth:MakeE l.prog w K mg base "Cloth" C_Cloth 4 ["self","ends","rows"] _:=⟨_,_,PySem.W.mg_of X G aC_Cloth,⟨mk_Cloth,a6,i6,kc_Cloth⟩,ok_Cloth___init__ (P:=l.prog) (w:=w) (base:=base) F6 T c_need_cloth,B6⟩
    have d_Cloth_told:MethF l.prog w K mg base C_Cloth "told" 1 ["self"] _:=⟨_,_,T.kd_Cloth.cl,⟨a7,i7,k7⟩,ok_Cloth_told (P:=l.prog) (w:=w) (base:=base) F7 T,B7⟩
    have d_Cloth_ends:MethF l.prog w K mg base C_Cloth "ends" 1 ["self"] _:=⟨_,_,T.kd_Cloth.cl,⟨a8,i8,k8⟩,ok_Cloth_ends (P:=l.prog) (w:=w) (base:=base) F8 T,B8⟩
    have d_Cloth_picks:MethF l.prog w K mg base C_Cloth "picks" 1 ["self"] _:=⟨_,_,T.kd_Cloth.cl,⟨a9,i9,k9⟩,ok_Cloth_picks (P:=l.prog) (w:=w) (base:=base) F9 T,B9⟩
    have c__law_kinds:=D10.call (ok__law_kinds (P:=l.prog) (w:=w) (base:=base) F10 T)
    have m_NotGrown:RaiseI l.prog w K mg base "NotGrown" C_NotGrown 1 ["self","row","column"] _:=⟨_,_,PySem.W.mg_of X G aC_NotGrown,⟨in_NotGrown,i11,kc_NotGrown⟩,ok_NotGrown___init__ (P:=l.prog) (w:=w) (base:=base) F11 T,B11⟩
    have c_need_like_sizes:=D12.callE (ok_need_like_sizes (P:=l.prog) (w:=w) (base:=base) F12 T d_Cloth_ends d_Cloth_picks)
    have c_rows_at:=D13.call (ok_rows_at (P:=l.prog) (w:=w) (base:=base) F13 T c_mask_to)
    have c_is_on:=D14.callE (ok_is_on (P:=l.prog) (w:=w) (base:=base) F14 T c_rows_at d_Cloth_ends d_Cloth_picks m_NotGrown)
    have c_plan_row:=D15.callE (ok_plan_row (P:=l.prog) (w:=w) (base:=base) F15 T c_is_on c_mask_of d_Cloth_ends)
    have c_plan_of:=D16.callE (ok_plan_of (P:=l.prog) (w:=w) (base:=base) F16 T c_need_like_sizes c_plan_row m_Cloth d_Cloth_ends d_Cloth_picks)
    have c__law_caught:=D17.caught (ok__law_caught (P:=l.prog) (w:=w) (base:=base) F17 B17 T c__law_kinds)
    have c__law_mixed:=D18.call (ok__law_mixed (P:=l.prog) (w:=w) (base:=base) F18 T)
    have c__law_whole:=D19.call (ok__law_whole (P:=l.prog) (w:=w) (base:=base) F19 T)
    have c__law_grown:=D20.call (ok__law_grown (P:=l.prog) (w:=w) (base:=base) F20 T)
    have c__law_due:=D21.call (ok__law_due (P:=l.prog) (w:=w) (base:=base) F21 T)
    have c__law_blocks:=D22.call (ok__law_blocks (P:=l.prog) (w:=w) (base:=base) F22 T c__law_mixed)
    have c__law_right:=D23.call (ok__law_right (P:=l.prog) (w:=w) (base:=base) rfl hd1 (hbt _ (by simp)) F23 T c__law_caught c_plan_of d_Cloth_told d_Cloth_ends)
    have c__law_refused:=D24.call (ok__law_refused (P:=l.prog) (w:=w) (base:=base) rfl hd2 (hbt _ (by simp)) F24 T c__law_caught c_plan_of)
    have c__law_all_refused:=D25.call (ok__law_all_refused (P:=l.prog) (w:=w) (base:=base) F25 T c__law_refused m_Cloth d_Cloth_told)
    have c__law_cut_refused:=D26.call (ok__law_cut_refused (P:=l.prog) (w:=w) (base:=base) F26 T c__law_refused m_Cloth)
    exact ok_law F27 T c__law_whole c__law_mixed c__law_blocks c__law_grown c__law_due c__law_right c__law_all_refused c__law_cut_refused m_Cloth d_Cloth_told
    ⟩
theorem walk {l:PySem.W.OpenLaw} {q:Program} {loose:List Str} {XP:(Str→Option Value)→Heap→Prop} {YP:World→Heap→Prop} {d:DefRec} {K:Params→PySem.W.Frag} (hn:l.most=some 63) (hdf:d.params.defaults=[])
    (hY:∀ (w:World) (h:Heap),YP w h→(K w.params).In h)
    {ts:List Addr} (hnd:ts.Nodup)
    (hYt:∀ (w:World) (h:Heap),YP w h→∀ P∈ts,h.get? P=some (PySem.W.tabObj #[])) (hnt:∀ w:World,PySem.W.noTabs (K w.params)=true)
    (F:∀ (w:World) (mg:Str→Option Value) (fa:Addr) (h:Heap),(K w.params).In h→h.Ns mainGlobals mg→mg d.name=some (.ref fa)→
      ∃ fd:FuncData,(∀ (s:Shared) (u:Value),BindsTo s fd ⟨[u],[]⟩ [("_law_script",u)])∧(∀ h':Heap,(K w.params).In h'→∀ T∈ts,∃ c,PySem.W.CodeHd h' c T)∧∀ base:Heap,(K w.params).In base→base.Ns mainGlobals mg→(∀ T∈ts,base.BuiltinsAt mg T)→FnOk l.prog w (K w.params) mg base CX0 11 fa fd ["_law_script"] (spLawM (K w.params) ts)):
    PySem.W.WalkO q loose XP YP l.row.toRowW d [] (fun f vs=>PySem.call f vs):=
  L2.walk_ofM (n:=63) (k:=11) (x:="_law_script") (CX:=fun _=>CX0) (sp:=fun w=>spLawM (K w.params) ts) hn (by decide) hdf ⟨rfl,by decide,by decide⟩ hY hYt hnt F (fun _ _ a ns hl _ hT hS=>⟨a,ns,rfl,hS,hl,hT,hnd,fun _=>rfl⟩) fun _ _ _ _ _ z=>z
end K26
open PySem PySem.W PyProof.Rows
set_option maxRecDepth 100000 in
set_option maxHeartbeats 0 in
theorem PySem.Challenge.cw_loomwright_k26_whole_plans_found_again_holds : PySem.Challenge.rw_loomwright_k26_whole_plans_found_again.Holds := by
  w_on
  refine PySem.W.holds_law (by first | k_qdec | decide +kernel) fun said=> ?_
  refine PySem.W.holds_open (q:=K26.view) (loose:=[]) (Xt:=K26.Xt) (XP:=PySem.W.XL K26.view []) (Yf:=(PySem.W.kmHook K26.frag K26.addrs K26.addrs_eq K26.tabs).obs) (Ya:=(PySem.W.kmHook K26.frag K26.addrs K26.addrs_eq K26.tabs).val) (YP:=(PySem.W.kmHook K26.frag K26.addrs K26.addrs_eq K26.tabs).says) (N:=K26.fuel) K26.left (PySem.W.kmHook K26.frag K26.addrs K26.addrs_eq K26.tabs).of (PySem.W.kmHook K26.frag K26.addrs K26.addrs_eq K26.tabs).keeps (fun s e=>PySem.W.xl_of s (Bool.and_eq_true_iff.mp e).1) PySem.W.XL.keeps (by rfl) (by rfl) (by rfl) (fun s e=>PySem.W.recFacts_of (Bool.and_eq_true_iff.mp e).2) (by rfl) (by first | assumption | decide +kernel) (by first | k_qdec | decide +kernel) ⟨rfl,rfl,rfl,rfl,rfl,by decide +kernel⟩ ?hw ?hc
  (case hw=>w_witness2)
  k_fill
  refine K26.walk (l:=PySem.Challenge.rw_loomwright_k26_whole_plans_found_again) rfl rfl (fun w h Y=>PySem.W.km_in_of Y) (by decide) (fun w h Y=>PySem.W.km_tabs_of Y) (fun w=>by kernel_rfl) ?F
  case F=>
    intro w mg fa h KX G hmg
    refine' K26.all_mk (TT2:=354) (TT1:=342) (cc1:=346) (cc2:=358) KX G hmg ?_ ?_ ?_ ?_ ?_ ?_ ?_ ?_ ?_ ?_ ?_ ?_ ?_ ?_ ?_ ?_ ?_ ?_ ?_ ?_ ?_ ?_ ?_ ?_ ?_ ?_ ?_ ?_ ?_ ?_ ?_ ?_ ?_ ?_ ?_ ?_ ?_ ?_ ?_ ?_ ?_ ?_ ?_ ?_ ?_ ?_ ?_ ?_ ?_ ?_ ?_ ?_ ?_ ?_ ?_ ?_ ?_ ?_ ?_ ?_ ?_ ?_ ?_ ?_ ?_ ?_ ?_ ?_ ?_ ?_ ?_ ?_ ?_ ?_ ?_ ?_ ?_ ?_ ?_ ?_ ?_ ?_ ?_ ?_ ?_ ?_ ?_ ?_ ?_ ?_ ?_ ?_ ?_ ?_ ?_ ?_ ?_ ?_ ?_ ?_ ?_ ?_ ?_ ?_ ?_ ?_ ?_ ?_ ?_ ?_ ?_ ?_ ?_ ?_ ?_ ?_ ?_ ?_ ?_ ?_ ?_ ?_ ?_ ?_ ?_ ?_ ?_ ?_ ?_ ?_ ?_ ?_ ?_ ?_ ?_ ?_ ?_ ?_ ?_ ?_ ?_ ?_ ?_ ?_ ?_ ?_ ?_ ?_ ?_ ?_ ?_ ?_ ?_ ?_ ?_ ?_ ?_ ?_ ?_ ?_ ?_ ?_ ?_ ?_ ?_ ?_ ?_ ?_ ?_ ?_ ?_ ?_ ?_ ?_ ?_ ?_ ?_ ?_ ?_ ?_ ?_ ?_ ?_ ?_ ?_ ?_ ?_ ?_ ?_ ?_ ?_ ?_ ?_ ?_ ?_ ?_ ?_ ?_ ?_ rfl rfl ?_ rfl ?_
    all_goals first | k_is | k_exc | kts_exm | kit_is | kernel_rfl | rfl | exact List.mem_cons_self | decide | skip
