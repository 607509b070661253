import PyProof.Rows.All
import Wide.All
import OpenK.AllK
import Wide.FinOn
import Lean
import PyProof.EqAt
import PyProof.EqKinds
import PyProof.TupleCall
import KE.KIntText
import PyProof.EnumFor
import PyProof.EnumMake
import PyProof.ZipIter
import PyProof.LayNew
import KE.KTurns
import PyProof.Rows.Range3
import KE.KRevSl
import KE.KDictList
import PyProof.Draws
import PyProof.Rows.RuleM_int
import PyProof.Rows.BitMore
import PyProof.NeKinds
import KE.KRevIter
import PyProof.JoinWalk
import KE.KTryMore
import PyProof.ExcArgs
import OpenK.KOwn
import PyProof.ExcBaseAll.ValueError
import KE.KLam
import KE.KNestM
import PyProof.AttrMissHeap
import KE.KDictOf
import PySem.Challenge.RW_loomwright_k17_whole_joined_and_told_ove
set_option Elab.async false
set_option linter.all false
set_option maxRecDepth 100000
set_option maxHeartbeats 4000000
noncomputable section
namespace L2
open PySem
def inClass (s:Stmt) (j:Nat):Stmt:=match s with
  | .ClassDef _ _ _ body _ _ _ _ _ _ _=>body.getD j (.Pass ⟨0,0,0,0⟩)
  | _=> .Pass ⟨0,0,0,0⟩
def defArgs (s:Stmt):Arguments:=match s with
  | .FunctionDef _ a _ _ _ _ _ _ _ _=>a
  | _=>{ posonlyargs:=[],args:=[],vararg:=none,kwonlyargs:=[],kw_defaults:=[],kwarg:=none,defaults:=[] }
def defBody (s:Stmt):List Stmt:=match s with
  | .FunctionDef _ _ b _ _ _ _ _ _ _=>b
  | _=>[]
def defScope (s:Stmt):Scope:=match s with
  | .FunctionDef _ _ _ _ _ _ sc _ _ _=>sc
  | _=>{ kind:= .function,names:=[],isGenerator:=false,isCoroutine:=false }
end L2
namespace K17
open PySem
def top (i:Nat):Stmt:=PySem.Challenge.pw_loomwright_k17_whole_joined_and_told_ove.main.body.getD i (.Pass ⟨0,0,0,0⟩)
end K17
namespace HX
open PySem PySem.W PySem.Calls PyProof.Rows
def topT (tb:String→Option Builtin) (p:Program) (w:World) (n₀:Nat) (ann:Option Value):Nat→SharedT→Thread→Option SharedT
  | 0,_,_=>none
  | n+1,s,t=>match through t with
    | true=>some s
    | false=>match stepOk n₀ ann t with
      | false=>none
      | true=>match stepT (denote tb) p w s t with
        | some (s',t')=>topT tb p w n₀ ann n s' t'
        | none=>none
theorem topT_of {tb:String→Option Builtin} {p:Program} {w:World} {n₀:Nat} {ann:Option Value}:∀ {n:Nat} {s s':SharedT} {t:Thread},topT tb p w n₀ ann n s t=some s'→topRun tb p w n₀ ann n s.abs t=some s'.abs
  | 0,_,_,_,h=>by cases h
  | n+1,s,s',t,h=>by
    unfold topT at h
    unfold topRun
    cases ht:through t with
    | true=>rw [ht] at h;cases h;rfl
    | false=>
      rw [ht] at h
      cases hk:stepOk n₀ ann t with
      | false=>rw [hk] at h;cases h
      | true=>
        rw [hk] at h
        cases hs:stepT (denote tb) p w s t with
        | none=>rw [hs] at h;cases h
        | some x=>
          obtain ⟨s2,t2⟩:=x
          rw [hs] at h
          dsimp only
          rw [stepT_spec hs]
          exact topT_of h
def ofL:List Obj→Nat→BT→BT
  | [],_,t=>t
  | o::r,i,t=>ofL r (i+1) (t.ins i o)
def bootT (P:Params):BT:=ofL (boot_heap P).objs.toList 0 .nil
def fn0 (name qual:Str) (a:Arguments) (b:List Stmt) (sc:Scope):FuncData:=
  { name,qualname:=qual,params:=a,body:= .stmts b,scope:=sc,globals:=0,closure:=[],defaults:= .none,kwdefaults:= .none }
end HX
namespace HX
open PySem PySem.W PySem.Calls PyProof.Rows
theorem left_run {p q:Program} {loose:List Str} {Xt:Shared→Bool} {α:Type} {Yf:Shared→α} {Ya:World→α} {N:Nat} {g0:Bool}
    (e:opening p=plainProg p.main.scope.names) (hN:Nat.ble 600 N=true) (f:∀ s,fenceModules? p s=some s)
    (hb:∀ P:Params,(absHeap (bootT P) 11 {},boot_drawn,(boot_heap P).isNs mainGlobals,(boot_heap P).objs.size,(boot_heap P).nsMap mainGlobals "__annotations__")=(boot_heap P,boot_drawn,true,11,some (.ref 6)))
    (run:∀ (w:World) (os:OsState),∃ s:Shared,topRun treeTable p w 11 (some (.ref 6)) N (⟨bootT w.params,11,{},Array.mk [],boot_drawn,boot_toks,os⟩:SharedT).abs (topStub p)=some s∧((staticsOk (importedModules p.main.body) (boot_heap w.params) s.heap&&namesBound p s.heap&&gensDone s&&laidKept (boot_heap w.params) s.heap),openSeen q loose (importedModules p.main.body) Xt g0 s,Yf s)=(true,openGood q loose,Ya w)):LeftO p q loose Xt Yf Ya N g0:=fun w=>by
  obtain ⟨⟨h,gs,d,k,os⟩,e1,e'⟩:=Option.map_eq_some_iff.mp (boot_open (p:=p) (N:=N) e hN f w)
  obtain ⟨rfl,rfl,rfl,rfl⟩:h=boot_heap w.params∧gs=Array.mk []∧d=boot_drawn∧k=boot_toks:=by simpa using e'
  have hb':=hb w.params
  simp only [Prod.mk.injEq] at hb'
  obtain ⟨b1,_,b2,b3,b4⟩:=hb'
  obtain ⟨s,r,l⟩:=run w os
  obtain ⟨l1,l2,l3⟩:_∧_∧_:=by simpa only [Prod.mk.injEq] using l
  have b0:(⟨bootT w.params,11,{},Array.mk [],boot_drawn,boot_toks,os⟩:SharedT).abs=⟨boot_heap w.params,Array.mk [],boot_drawn,boot_toks,os⟩:=by
    show (⟨absHeap (bootT w.params) 11 {},_,_,_,_⟩:Shared)=_
    rw [b1]
  rw [b0] at r
  have t:topFrom treeTable p w N ⟨boot_heap w.params,Array.mk [],boot_drawn,boot_toks,os⟩=some s:=by
    unfold topFrom
    dsimp only
    rw [b2,b3,b4]
    show Option.bind (topRun treeTable p w 11 (some (.ref 6)) N ⟨boot_heap w.params,Array.mk [],boot_drawn,boot_toks,os⟩ (topStub p)) _=_
    rw [r]
    show (match staticsOk (importedModules p.main.body) (boot_heap w.params) s.heap&&namesBound p s.heap&&gensDone s&&laidKept (boot_heap w.params) s.heap with | true=>_ | false=>_)=_
    rw [l1]
  unfold openEnds
  rw [e1]
  show (topFrom treeTable p w N _).map _=_
  rw [t]
  exact congrArg some (Prod.ext l2 l3)
theorem three {α β γ:Type} {a a':α} {b b':β} {c c':γ} (h:(a,c)=(a',c')) (k:b=b'):(a,b,c)=(a',b',c'):=by
  cases h
  cases k
  rfl
theorem hb (P:Params):(absHeap (bootT P) 11 {},boot_drawn,(boot_heap P).isNs mainGlobals,(boot_heap P).objs.size,(boot_heap P).nsMap mainGlobals "__annotations__")=(boot_heap P,boot_drawn,true,11,some (.ref 6)):=by kernel_rfl
end HX
namespace K17
open PySem L2 PySem.W PySem.Calls PyProof.Rows
abbrev Ob:=Params→Obj
abbrev dE (P:Params) (s:Str) (t:Tok) (v:Value):DictEntry:=⟨PyData.keyHash P s, .str s t,v⟩
abbrev dR (P:Params) (s:Str) (t:Tok) (a:Addr):DictEntry:=⟨PyData.keyHash P s, .str s t, .ref a⟩
abbrev tu (xs:Array Value):Obj:=⟨.type "tuple",none, .seq xs 0, #[]⟩
abbrev di (es:Array DictEntry) (n:Nat):Obj:=⟨.type "dict",none, .dict es n, #[]⟩
abbrev f0 (n q:Str) (st:Stmt):FuncData:=HX.fn0 n q (defArgs st) (defBody st) (defScope st)
abbrev fo (n q:Str) (st:Stmt) (m:Str) (t:Tok) (c:Addr):Obj:=⟨.type "function",none, .func (fnOf n q (defArgs st) (defBody st) (defScope st) .none .none .none (.str m t) none (.ref c) .none), #[]⟩
abbrev co (n q:Str) (t:Tok) (l ac nl:Int) (a:Addr) (b:Bool) (r:Addr) (c d e:Value) (k:Int) (t4:Tok):Obj:=⟨.type "code",none, .fields #[.str n t, .str q (t+1), .str "/claim/cut.py" (t+2), .int l 0, .int ac 0, .int 0 0, .int 0 0, .int nl 0, .ref a, .bool b, .int 181 0, .ref r, .none,c,d,e, .int k 0, .int l 0, .str "/claim/cut.py" t4], #[]⟩
def o3:Ob:=fun P=>di #[dE P "__name__" 165 (.str "law_loomwright_k17_whole_joined_and_told_ove" 761),dE P "__doc__" 166 .none,dE P "__package__" 167 .none,dE P "__loader__" 168 (.builtin "__main__.__loader__#opaque"),dE P "__spec__" 169 .none,dR P "__annotations__" 170 6,dR P "__builtins__" 171 4,dE P "__file__" 173 (.str "/claim/cut.py" 172),dE P "__cached__" 174 .none,dR P "_wall" 193 21,dE P "MOST_SHAFTS" 195 (.int 16 194),dE P "MOST_TREADLES" 197 (.int 16 196),dE P "MOST_ENDS" 199 (.int 60 198),dE P "MOST_PICKS" 201 (.int 60 200),dR P "LoomError" 221 31,dR P "BadRow" 248 51,dR P "BadWord" 273 70,dR P "TooMany" 300 89,dR P "NotPlain" 327 108,dR P "NotGrown" 354 127,dR P "BadDraft" 370 139,dR P "BadCloth" 386 151,dR P "OutOfPlace" 402 163,dR P "bit_of" 411 172,dR P "mask_of" 420 179,dR P "mask_to" 427 186,dR P "has_number" 435 193,dR P "numbers_of" 441 198,dR P "union_of" 450 205,dE P "COLOURS" 454 (.str "abcdefghijklmnopqrstuvwxyz" 453),dR P "is_whole" 461 212,dR P "is_among" 470 219,dR P "is_colour" 477 226,dR P "need_cloth" 485 231,dR P "Cloth" 562 290,dR P "PARTS" 572 295,dR P "need" 580 302,dR P "is_list" 589 309,dR P "is_rising" 599 316,dR P "are_rising" 605 321,dR P "are_colours" 611 326,dR P "need_draft" 617 331,dR P "Draft" 670 365,dR P "changed_draft" 679 376,dR P "beside" 687 381,dR P "below" 695 388,dR P "row_over" 701 393,dR P "goes_over" 710 400,dR P "told_over" 716 405,dR P "draft_told_over" 722 410,dR P "lift_by" 730 415,dR P "lifts_of" 736 420,dR P "ends_through" 742 425,dR P "shaft_ends" 748 430,dR P "row_by" 754 435,dR P "woven" 760 440,dR P "_law_mixed" 770 447,dR P "_law_kinds" 776 452,dR P "_law_same" 782 457,dR P "_law_cells" 788 462,dR P "_law_numbers" 794 467,dR P "_law_draft" 800 472,dR P "_law_copied" 806 477,dR P "_law_made" 820 484,dR P "_law_cloths" 826 489,dR P "_law_refused" 839 496,dR P "_law_bits" 845 501,dR P "_law_told" 854 508,dR P "_law_joined_right" 860 513,dR P "_law_count" 869 520,dR P "_law_over_right" 875 525,dR P "_law_draft_right" 881 530,dR P "law" 887 535] 73
def o15:Ob:=fun P=>tu #[]
def o17:Ob:=fun P=>tu #[(.str "k" 190)]
def o18:Ob:=fun P=>tu #[]
def o20:Ob:=fun P=>co "_wall" "_wall" 187 1 1 3 15 true 16 (.ref 17) (.ref 18) (.ref 19) 191 192
def o21:Ob:=fun P=>fo "_wall" "_wall" (top 0) "__main__" 164 20
def o22:Ob:=fun P=>tu #[(.type "ValueError")]
def o29:Ob:=fun P=>tu #[]
def o30:Ob:=fun P=>di #[dE P "__module__" 211 (.str "loomwright.errors" 202),dE P "__firstlineno__" 215 (.int 9 214),dR P "__static_attributes__" 216 29,dR P "__weakref__" 218 32,dE P "__doc__" 219 .none] 3
def o31:Ob:=fun P=>⟨(.type "type"),none,(.cls ⟨"LoomError",[(.type "ValueError")],[(.ref 31),(.type "ValueError"),(.type "Exception"),(.type "BaseException"),(.type "object")],30,"LoomError",true,[],[(.ref 51),(.ref 70),(.ref 89),(.ref 108),(.ref 127),(.ref 139),(.ref 151),(.ref 163)],false,none,false⟩), #[(some (.ref 22)),none,(some (.str "LoomError" 204)),(some (.str "LoomError" 212)),(some (.builtin "ValueError.__new__")),(some (.bool true))]⟩
def o32:Ob:=fun P=>⟨(.type "getset_descriptor"),none,(.fields #[(.str "__weakref__" 217),(.ref 31),(.builtin "ExceptionGroup.__weakref__"), .none]), #[]⟩
def o35:Ob:=fun P=>tu #[(.ref 31)]
def o42:Ob:=fun P=>tu #[]
def o44:Ob:=fun P=>tu #[(.str "self" 237),(.str "row" 238),(.str "word" 239)]
def o45:Ob:=fun P=>tu #[]
def o47:Ob:=fun P=>co "__init__" "BadRow.__init__" 234 13 3 3 42 true 43 (.ref 44) (.ref 45) (.ref 46) 240 241
def o48:Ob:=fun P=>fo "__init__" "BadRow.__init__" (inClass (top 7) 0) "loomwright.errors" 202 47
def o49:Ob:=fun P=>tu #[(.str "row" 243),(.str "word" 244)]
def o50:Ob:=fun P=>di #[dE P "__module__" 229 (.str "loomwright.errors" 202),dE P "__firstlineno__" 233 (.int 11 232),dR P "__init__" 242 48,dR P "__static_attributes__" 245 49,dE P "__doc__" 246 .none] 2
def o51:Ob:=fun P=>⟨(.type "type"),none,(.cls ⟨"BadRow",[(.ref 31)],[(.ref 51),(.ref 31),(.type "ValueError"),(.type "Exception"),(.type "BaseException"),(.type "object")],50,"BadRow",true,[],[],false,none,false⟩), #[(some (.ref 35)),none,(some (.str "BadRow" 222)),(some (.str "BadRow" 230)),(some (.builtin "ValueError.__new__")),(some (.bool true))]⟩
def o54:Ob:=fun P=>tu #[(.ref 31)]
def o61:Ob:=fun P=>tu #[]
def o63:Ob:=fun P=>tu #[(.str "self" 264),(.str "place" 265)]
def o64:Ob:=fun P=>tu #[]
def o66:Ob:=fun P=>co "__init__" "BadWord.__init__" 261 19 2 3 61 true 62 (.ref 63) (.ref 64) (.ref 65) 266 267
def o67:Ob:=fun P=>fo "__init__" "BadWord.__init__" (inClass (top 8) 0) "loomwright.errors" 202 66
def o68:Ob:=fun P=>tu #[(.str "place" 269)]
def o69:Ob:=fun P=>di #[dE P "__module__" 256 (.str "loomwright.errors" 202),dE P "__firstlineno__" 260 (.int 17 259),dR P "__init__" 268 67,dR P "__static_attributes__" 270 68,dE P "__doc__" 271 .none] 2
def o70:Ob:=fun P=>⟨(.type "type"),none,(.cls ⟨"BadWord",[(.ref 31)],[(.ref 70),(.ref 31),(.type "ValueError"),(.type "Exception"),(.type "BaseException"),(.type "object")],69,"BadWord",true,[],[],false,none,false⟩), #[(some (.ref 54)),none,(some (.str "BadWord" 249)),(some (.str "BadWord" 257)),(some (.builtin "ValueError.__new__")),(some (.bool true))]⟩
def o73:Ob:=fun P=>tu #[(.ref 31)]
def o80:Ob:=fun P=>tu #[]
def o82:Ob:=fun P=>tu #[(.str "self" 289),(.str "what" 290),(.str "many" 291)]
def o83:Ob:=fun P=>tu #[]
def o85:Ob:=fun P=>co "__init__" "TooMany.__init__" 286 24 3 3 80 true 81 (.ref 82) (.ref 83) (.ref 84) 292 293
def o86:Ob:=fun P=>fo "__init__" "TooMany.__init__" (inClass (top 9) 0) "loomwright.errors" 202 85
def o87:Ob:=fun P=>tu #[(.str "many" 295),(.str "what" 296)]
def o88:Ob:=fun P=>di #[dE P "__module__" 281 (.str "loomwright.errors" 202),dE P "__firstlineno__" 285 (.int 22 284),dR P "__init__" 294 86,dR P "__static_attributes__" 297 87,dE P "__doc__" 298 .none] 2
def o89:Ob:=fun P=>⟨(.type "type"),none,(.cls ⟨"TooMany",[(.ref 31)],[(.ref 89),(.ref 31),(.type "ValueError"),(.type "Exception"),(.type "BaseException"),(.type "object")],88,"TooMany",true,[],[],false,none,false⟩), #[(some (.ref 73)),none,(some (.str "TooMany" 274)),(some (.str "TooMany" 282)),(some (.builtin "ValueError.__new__")),(some (.bool true))]⟩
def o92:Ob:=fun P=>tu #[(.ref 31)]
def o99:Ob:=fun P=>tu #[]
def o101:Ob:=fun P=>tu #[(.str "self" 316),(.str "what" 317),(.str "number" 318)]
def o102:Ob:=fun P=>tu #[]
def o104:Ob:=fun P=>co "__init__" "NotPlain.__init__" 313 30 3 3 99 true 100 (.ref 101) (.ref 102) (.ref 103) 319 320
def o105:Ob:=fun P=>fo "__init__" "NotPlain.__init__" (inClass (top 10) 0) "loomwright.errors" 202 104
def o106:Ob:=fun P=>tu #[(.str "number" 322),(.str "what" 323)]
def o107:Ob:=fun P=>di #[dE P "__module__" 308 (.str "loomwright.errors" 202),dE P "__firstlineno__" 312 (.int 28 311),dR P "__init__" 321 105,dR P "__static_attributes__" 324 106,dE P "__doc__" 325 .none] 2
def o108:Ob:=fun P=>⟨(.type "type"),none,(.cls ⟨"NotPlain",[(.ref 31)],[(.ref 108),(.ref 31),(.type "ValueError"),(.type "Exception"),(.type "BaseException"),(.type "object")],107,"NotPlain",true,[],[],false,none,false⟩), #[(some (.ref 92)),none,(some (.str "NotPlain" 301)),(some (.str "NotPlain" 309)),(some (.builtin "ValueError.__new__")),(some (.bool true))]⟩
def o111:Ob:=fun P=>tu #[(.ref 31)]
def o118:Ob:=fun P=>tu #[]
def o120:Ob:=fun P=>tu #[(.str "self" 343),(.str "row" 344),(.str "column" 345)]
def o121:Ob:=fun P=>tu #[]
def o123:Ob:=fun P=>co "__init__" "NotGrown.__init__" 340 36 3 3 118 true 119 (.ref 120) (.ref 121) (.ref 122) 346 347
def o124:Ob:=fun P=>fo "__init__" "NotGrown.__init__" (inClass (top 11) 0) "loomwright.errors" 202 123
def o125:Ob:=fun P=>tu #[(.str "column" 349),(.str "row" 350)]
def o126:Ob:=fun P=>di #[dE P "__module__" 335 (.str "loomwright.errors" 202),dE P "__firstlineno__" 339 (.int 34 338),dR P "__init__" 348 124,dR P "__static_attributes__" 351 125,dE P "__doc__" 352 .none] 2
def o127:Ob:=fun P=>⟨(.type "type"),none,(.cls ⟨"NotGrown",[(.ref 31)],[(.ref 127),(.ref 31),(.type "ValueError"),(.type "Exception"),(.type "BaseException"),(.type "object")],126,"NotGrown",true,[],[],false,none,false⟩), #[(some (.ref 111)),none,(some (.str "NotGrown" 328)),(some (.str "NotGrown" 336)),(some (.builtin "ValueError.__new__")),(some (.bool true))]⟩
def o130:Ob:=fun P=>tu #[(.ref 31)]
def o137:Ob:=fun P=>tu #[]
def o138:Ob:=fun P=>di #[dE P "__module__" 362 (.str "loomwright.errors" 202),dE P "__firstlineno__" 366 (.int 40 365),dR P "__static_attributes__" 367 137,dE P "__doc__" 368 .none] 2
def o139:Ob:=fun P=>⟨(.type "type"),none,(.cls ⟨"BadDraft",[(.ref 31)],[(.ref 139),(.ref 31),(.type "ValueError"),(.type "Exception"),(.type "BaseException"),(.type "object")],138,"BadDraft",true,[],[],false,none,false⟩), #[(some (.ref 130)),none,(some (.str "BadDraft" 355)),(some (.str "BadDraft" 363)),(some (.builtin "ValueError.__new__")),(some (.bool true))]⟩
def o142:Ob:=fun P=>tu #[(.ref 31)]
def o149:Ob:=fun P=>tu #[]
def o150:Ob:=fun P=>di #[dE P "__module__" 378 (.str "loomwright.errors" 202),dE P "__firstlineno__" 382 (.int 42 381),dR P "__static_attributes__" 383 149,dE P "__doc__" 384 .none] 2
def o151:Ob:=fun P=>⟨(.type "type"),none,(.cls ⟨"BadCloth",[(.ref 31)],[(.ref 151),(.ref 31),(.type "ValueError"),(.type "Exception"),(.type "BaseException"),(.type "object")],150,"BadCloth",true,[],[],false,none,false⟩), #[(some (.ref 142)),none,(some (.str "BadCloth" 371)),(some (.str "BadCloth" 379)),(some (.builtin "ValueError.__new__")),(some (.bool true))]⟩
def o154:Ob:=fun P=>tu #[(.ref 31)]
def o161:Ob:=fun P=>tu #[]
def o162:Ob:=fun P=>di #[dE P "__module__" 394 (.str "loomwright.errors" 202),dE P "__firstlineno__" 398 (.int 44 397),dR P "__static_attributes__" 399 161,dE P "__doc__" 400 .none] 2
def o163:Ob:=fun P=>⟨(.type "type"),none,(.cls ⟨"OutOfPlace",[(.ref 31)],[(.ref 163),(.ref 31),(.type "ValueError"),(.type "Exception"),(.type "BaseException"),(.type "object")],162,"OutOfPlace",true,[],[],false,none,false⟩), #[(some (.ref 154)),none,(some (.str "OutOfPlace" 387)),(some (.str "OutOfPlace" 395)),(some (.builtin "ValueError.__new__")),(some (.bool true))]⟩
def o166:Ob:=fun P=>tu #[]
def o168:Ob:=fun P=>tu #[(.str "number" 408)]
def o169:Ob:=fun P=>tu #[]
def o171:Ob:=fun P=>co "bit_of" "bit_of" 405 47 1 3 166 true 167 (.ref 168) (.ref 169) (.ref 170) 409 410
def o172:Ob:=fun P=>fo "bit_of" "bit_of" (top 16) "loomwright.masks" 403 171
def o173:Ob:=fun P=>tu #[]
def o175:Ob:=fun P=>tu #[(.str "numbers" 415),(.str "mask" 416),(.str "number" 417)]
def o176:Ob:=fun P=>tu #[]
def o178:Ob:=fun P=>co "mask_of" "mask_of" 412 49 1 3 173 true 174 (.ref 175) (.ref 176) (.ref 177) 418 419
def o179:Ob:=fun P=>fo "mask_of" "mask_of" (top 17) "loomwright.masks" 403 178
def o180:Ob:=fun P=>tu #[]
def o182:Ob:=fun P=>tu #[(.str "most" 424)]
def o183:Ob:=fun P=>tu #[]
def o185:Ob:=fun P=>co "mask_to" "mask_to" 421 54 1 3 180 true 181 (.ref 182) (.ref 183) (.ref 184) 425 426
def o186:Ob:=fun P=>fo "mask_to" "mask_to" (top 18) "loomwright.masks" 403 185
def o187:Ob:=fun P=>tu #[]
def o189:Ob:=fun P=>tu #[(.str "mask" 431),(.str "number" 432)]
def o190:Ob:=fun P=>tu #[]
def o192:Ob:=fun P=>co "has_number" "has_number" 428 56 2 3 187 true 188 (.ref 189) (.ref 190) (.ref 191) 433 434
def o193:Ob:=fun P=>fo "has_number" "has_number" (top 19) "loomwright.masks" 403 192
def o194:Ob:=fun P=>tu #[]
def o197:Ob:=fun P=>co "numbers_of" "numbers_of" 436 58 1 3 194 true 195 .none .none (.ref 196) 439 440
def o198:Ob:=fun P=>fo "numbers_of" "numbers_of" (top 20) "loomwright.masks" 403 197
def o199:Ob:=fun P=>tu #[]
def o201:Ob:=fun P=>tu #[(.str "masks" 445),(.str "union" 446),(.str "mask" 447)]
def o202:Ob:=fun P=>tu #[]
def o204:Ob:=fun P=>co "union_of" "union_of" 442 60 1 3 199 true 200 (.ref 201) (.ref 202) (.ref 203) 448 449
def o205:Ob:=fun P=>fo "union_of" "union_of" (top 21) "loomwright.masks" 403 204
def o206:Ob:=fun P=>tu #[]
def o208:Ob:=fun P=>tu #[(.str "thing" 458)]
def o209:Ob:=fun P=>tu #[]
def o211:Ob:=fun P=>co "is_whole" "is_whole" 455 67 1 3 206 true 207 (.ref 208) (.ref 209) (.ref 210) 459 460
def o212:Ob:=fun P=>fo "is_whole" "is_whole" (top 24) "loomwright.words" 451 211
def o213:Ob:=fun P=>tu #[]
def o215:Ob:=fun P=>tu #[(.str "thing" 465),(.str "least" 466),(.str "most" 467)]
def o216:Ob:=fun P=>tu #[]
def o218:Ob:=fun P=>co "is_among" "is_among" 462 69 3 3 213 true 214 (.ref 215) (.ref 216) (.ref 217) 468 469
def o219:Ob:=fun P=>fo "is_among" "is_among" (top 25) "loomwright.words" 451 218
def o220:Ob:=fun P=>tu #[]
def o222:Ob:=fun P=>tu #[(.str "thing" 474)]
def o223:Ob:=fun P=>tu #[]
def o225:Ob:=fun P=>co "is_colour" "is_colour" 471 71 1 3 220 true 221 (.ref 222) (.ref 223) (.ref 224) 475 476
def o226:Ob:=fun P=>fo "is_colour" "is_colour" (top 26) "loomwright.words" 451 225
def o227:Ob:=fun P=>tu #[]
def o230:Ob:=fun P=>co "need_cloth" "need_cloth" 480 74 2 3 227 true 228 .none .none (.ref 229) 483 484
def o231:Ob:=fun P=>fo "need_cloth" "need_cloth" (top 28) "loomwright.cloth" 478 230
def o239:Ob:=fun P=>tu #[]
def o241:Ob:=fun P=>tu #[(.str "self" 501),(.str "ends" 502),(.str "rows" 503)]
def o242:Ob:=fun P=>tu #[]
def o244:Ob:=fun P=>co "__init__" "Cloth.__init__" 498 83 3 3 239 true 240 (.ref 241) (.ref 242) (.ref 243) 504 505
def o245:Ob:=fun P=>fo "__init__" "Cloth.__init__" (inClass (top 29) 0) "loomwright.cloth" 478 244
def o246:Ob:=fun P=>tu #[]
def o248:Ob:=fun P=>tu #[(.str "self" 510)]
def o249:Ob:=fun P=>tu #[]
def o251:Ob:=fun P=>co "told" "Cloth.told" 507 88 1 3 246 true 247 (.ref 248) (.ref 249) (.ref 250) 511 512
def o252:Ob:=fun P=>fo "told" "Cloth.told" (inClass (top 29) 1) "loomwright.cloth" 478 251
def o253:Ob:=fun P=>tu #[]
def o255:Ob:=fun P=>tu #[(.str "self" 517)]
def o256:Ob:=fun P=>tu #[]
def o258:Ob:=fun P=>co "ends" "Cloth.ends" 514 91 1 3 253 true 254 (.ref 255) (.ref 256) (.ref 257) 518 519
def o259:Ob:=fun P=>fo "ends" "Cloth.ends" (inClass (top 29) 2) "loomwright.cloth" 478 258
def o260:Ob:=fun P=>tu #[]
def o262:Ob:=fun P=>tu #[(.str "self" 524)]
def o263:Ob:=fun P=>tu #[]
def o265:Ob:=fun P=>co "picks" "Cloth.picks" 521 94 1 3 260 true 261 (.ref 262) (.ref 263) (.ref 264) 525 526
def o266:Ob:=fun P=>fo "picks" "Cloth.picks" (inClass (top 29) 3) "loomwright.cloth" 478 265
def o267:Ob:=fun P=>tu #[]
def o269:Ob:=fun P=>tu #[(.str "self" 531),(.str "pick" 532)]
def o270:Ob:=fun P=>tu #[]
def o272:Ob:=fun P=>co "row_at" "Cloth.row_at" 528 97 2 3 267 true 268 (.ref 269) (.ref 270) (.ref 271) 533 534
def o273:Ob:=fun P=>fo "row_at" "Cloth.row_at" (inClass (top 29) 4) "loomwright.cloth" 478 272
def o274:Ob:=fun P=>tu #[]
def o276:Ob:=fun P=>tu #[(.str "self" 539),(.str "end" 540)]
def o277:Ob:=fun P=>tu #[]
def o279:Ob:=fun P=>co "column_at" "Cloth.column_at" 536 100 2 3 274 true 275 (.ref 276) (.ref 277) (.ref 278) 541 542
def o280:Ob:=fun P=>fo "column_at" "Cloth.column_at" (inClass (top 29) 5) "loomwright.cloth" 478 279
def o281:Ob:=fun P=>tu #[]
def o283:Ob:=fun P=>tu #[(.str "self" 547),(.str "end" 548),(.str "pick" 549)]
def o284:Ob:=fun P=>tu #[]
def o286:Ob:=fun P=>co "is_up" "Cloth.is_up" 544 103 3 3 281 true 282 (.ref 283) (.ref 284) (.ref 285) 550 551
def o287:Ob:=fun P=>fo "is_up" "Cloth.is_up" (inClass (top 29) 6) "loomwright.cloth" 478 286
def o288:Ob:=fun P=>tu #[(.str "rows" 553),(.str "width" 554)]
def o289:Ob:=fun P=>di #[dE P "__module__" 493 (.str "loomwright.cloth" 478),dE P "__firstlineno__" 497 (.int 81 496),dR P "__init__" 506 245,dR P "told" 513 252,dR P "ends" 520 259,dR P "picks" 527 266,dR P "row_at" 535 273,dR P "column_at" 543 280,dR P "is_up" 552 287,dR P "__static_attributes__" 555 288,dR P "__dict__" 557 291,dR P "__weakref__" 559 292,dE P "__doc__" 560 .none] 4
def o290:Ob:=fun P=>⟨(.type "type"),none,(.cls ⟨"Cloth",[(.type "object")],[(.ref 290),(.type "object")],289,"Cloth",true,[],[],false,none,false⟩), #[none,none,(some (.str "Cloth" 486)),(some (.str "Cloth" 494)),(some (.builtin "object.__new__")),(some (.bool true))]⟩
def o291:Ob:=fun P=>⟨(.type "getset_descriptor"),none,(.fields #[(.str "__dict__" 556),(.ref 290),(.builtin "function.__dict__"),(.builtin "function.__dict__#set")]), #[]⟩
def o292:Ob:=fun P=>⟨(.type "getset_descriptor"),none,(.fields #[(.str "__weakref__" 558),(.ref 290),(.builtin "ExceptionGroup.__weakref__"), .none]), #[]⟩
def o295:Ob:=fun P=>tu #[(.str "shafts" 565),(.str "treadles" 566),(.str "threading" 567),(.str "ties" 568),(.str "treading" 569),(.str "warp" 570),(.str "weft" 571)]
def o296:Ob:=fun P=>tu #[]
def o298:Ob:=fun P=>tu #[(.str "holds" 576),(.str "words" 577)]
def o299:Ob:=fun P=>tu #[]
def o301:Ob:=fun P=>co "need" "need" 573 107 2 3 296 true 297 (.ref 298) (.ref 299) (.ref 300) 578 579
def o302:Ob:=fun P=>fo "need" "need" (top 32) "loomwright.draft" 563 301
def o303:Ob:=fun P=>tu #[]
def o305:Ob:=fun P=>tu #[(.str "thing" 584),(.str "least" 585),(.str "most" 586)]
def o306:Ob:=fun P=>tu #[]
def o308:Ob:=fun P=>co "is_list" "is_list" 581 110 3 3 303 true 304 (.ref 305) (.ref 306) (.ref 307) 587 588
def o309:Ob:=fun P=>fo "is_list" "is_list" (top 33) "loomwright.draft" 563 308
def o310:Ob:=fun P=>tu #[]
def o312:Ob:=fun P=>tu #[(.str "thing" 593),(.str "most" 594),(.str "last" 595),(.str "number" 596)]
def o313:Ob:=fun P=>tu #[]
def o315:Ob:=fun P=>co "is_rising" "is_rising" 590 112 2 3 310 true 311 (.ref 312) (.ref 313) (.ref 314) 597 598
def o316:Ob:=fun P=>fo "is_rising" "is_rising" (top 34) "loomwright.draft" 563 315
def o317:Ob:=fun P=>tu #[]
def o320:Ob:=fun P=>co "are_rising" "are_rising" 600 121 2 3 317 true 318 .none .none (.ref 319) 603 604
def o321:Ob:=fun P=>fo "are_rising" "are_rising" (top 35) "loomwright.draft" 563 320
def o322:Ob:=fun P=>tu #[]
def o325:Ob:=fun P=>co "are_colours" "are_colours" 606 123 2 3 322 true 323 .none .none (.ref 324) 609 610
def o326:Ob:=fun P=>fo "are_colours" "are_colours" (top 36) "loomwright.draft" 563 325
def o327:Ob:=fun P=>tu #[]
def o330:Ob:=fun P=>co "need_draft" "need_draft" 612 125 7 3 327 true 328 .none .none (.ref 329) 615 616
def o331:Ob:=fun P=>fo "need_draft" "need_draft" (top 37) "loomwright.draft" 563 330
def o339:Ob:=fun P=>tu #[]
def o342:Ob:=fun P=>co "__init__" "Draft.__init__" 630 138 8 3 339 true 340 .none .none (.ref 341) 633 634
def o343:Ob:=fun P=>fo "__init__" "Draft.__init__" (inClass (top 38) 0) "loomwright.draft" 563 342
def o344:Ob:=fun P=>tu #[]
def o347:Ob:=fun P=>co "told" "Draft.told" 636 148 1 3 344 true 345 .none .none (.ref 346) 639 640
def o348:Ob:=fun P=>fo "told" "Draft.told" (inClass (top 38) 1) "loomwright.draft" 563 347
def o349:Ob:=fun P=>tu #[]
def o351:Ob:=fun P=>tu #[(.str "self" 645)]
def o352:Ob:=fun P=>tu #[]
def o354:Ob:=fun P=>co "ends" "Draft.ends" 642 151 1 3 349 true 350 (.ref 351) (.ref 352) (.ref 353) 646 647
def o355:Ob:=fun P=>fo "ends" "Draft.ends" (inClass (top 38) 2) "loomwright.draft" 563 354
def o356:Ob:=fun P=>tu #[]
def o358:Ob:=fun P=>tu #[(.str "self" 652)]
def o359:Ob:=fun P=>tu #[]
def o361:Ob:=fun P=>co "picks" "Draft.picks" 649 154 1 3 356 true 357 (.ref 358) (.ref 359) (.ref 360) 653 654
def o362:Ob:=fun P=>fo "picks" "Draft.picks" (inClass (top 38) 3) "loomwright.draft" 563 361
def o363:Ob:=fun P=>tu #[(.str "shafts" 656),(.str "threading" 657),(.str "ties" 658),(.str "treading" 659),(.str "treadles" 660),(.str "warp" 661),(.str "weft" 662)]
def o364:Ob:=fun P=>di #[dE P "__module__" 625 (.str "loomwright.draft" 563),dE P "__firstlineno__" 629 (.int 136 628),dR P "__init__" 635 343,dR P "told" 641 348,dR P "ends" 648 355,dR P "picks" 655 362,dR P "__static_attributes__" 663 363,dR P "__dict__" 665 366,dR P "__weakref__" 667 367,dE P "__doc__" 668 .none] 4
def o365:Ob:=fun P=>⟨(.type "type"),none,(.cls ⟨"Draft",[(.type "object")],[(.ref 365),(.type "object")],364,"Draft",true,[],[],false,none,false⟩), #[none,none,(some (.str "Draft" 618)),(some (.str "Draft" 626)),(some (.builtin "object.__new__")),(some (.bool true))]⟩
def o366:Ob:=fun P=>⟨(.type "getset_descriptor"),none,(.fields #[(.str "__dict__" 664),(.ref 365),(.builtin "function.__dict__"),(.builtin "function.__dict__#set")]), #[]⟩
def o367:Ob:=fun P=>⟨(.type "getset_descriptor"),none,(.fields #[(.str "__weakref__" 666),(.ref 365),(.builtin "ExceptionGroup.__weakref__"), .none]), #[]⟩
def o370:Ob:=fun P=>tu #[]
def o372:Ob:=fun P=>tu #[(.str "draft" 674),(.str "changes" 675),(.str "parts" 676)]
def o373:Ob:=fun P=>tu #[]
def o375:Ob:=fun P=>co "changed_draft" "changed_draft" 671 156 2 3 370 true 371 (.ref 372) (.ref 373) (.ref 374) 677 678
def o376:Ob:=fun P=>fo "changed_draft" "changed_draft" (top 39) "loomwright.draft" 563 375
def o377:Ob:=fun P=>tu #[]
def o380:Ob:=fun P=>co "beside" "beside" 682 161 2 3 377 true 378 .none .none (.ref 379) 685 686
def o381:Ob:=fun P=>fo "beside" "beside" (top 41) "loomwright.joins" 680 380
def o382:Ob:=fun P=>tu #[]
def o384:Ob:=fun P=>tu #[(.str "one" 691),(.str "other" 692)]
def o385:Ob:=fun P=>tu #[]
def o387:Ob:=fun P=>co "below" "below" 688 166 2 3 382 true 383 (.ref 384) (.ref 385) (.ref 386) 693 694
def o388:Ob:=fun P=>fo "below" "below" (top 42) "loomwright.joins" 680 387
def o389:Ob:=fun P=>tu #[]
def o392:Ob:=fun P=>co "row_over" "row_over" 696 170 3 3 389 true 390 .none .none (.ref 391) 699 700
def o393:Ob:=fun P=>fo "row_over" "row_over" (top 43) "loomwright.joins" 680 392
def o394:Ob:=fun P=>tu #[]
def o396:Ob:=fun P=>tu #[(.str "thing" 705),(.str "across" 706),(.str "down" 707)]
def o397:Ob:=fun P=>tu #[]
def o399:Ob:=fun P=>co "goes_over" "goes_over" 702 172 3 3 394 true 395 (.ref 396) (.ref 397) (.ref 398) 708 709
def o400:Ob:=fun P=>fo "goes_over" "goes_over" (top 44) "loomwright.joins" 680 399
def o401:Ob:=fun P=>tu #[]
def o404:Ob:=fun P=>co "told_over" "told_over" 711 174 3 3 401 true 402 .none .none (.ref 403) 714 715
def o405:Ob:=fun P=>fo "told_over" "told_over" (top 45) "loomwright.joins" 680 404
def o406:Ob:=fun P=>tu #[]
def o409:Ob:=fun P=>co "draft_told_over" "draft_told_over" 717 179 3 3 406 true 407 .none .none (.ref 408) 720 721
def o410:Ob:=fun P=>fo "draft_told_over" "draft_told_over" (top 46) "loomwright.joins" 680 409
def o411:Ob:=fun P=>tu #[]
def o414:Ob:=fun P=>co "lift_by" "lift_by" 725 185 2 3 411 true 412 .none .none (.ref 413) 728 729
def o415:Ob:=fun P=>fo "lift_by" "lift_by" (top 48) "loomwright.weaving" 723 414
def o416:Ob:=fun P=>tu #[]
def o419:Ob:=fun P=>co "lifts_of" "lifts_of" 731 187 1 3 416 true 417 .none .none (.ref 418) 734 735
def o420:Ob:=fun P=>fo "lifts_of" "lifts_of" (top 49) "loomwright.weaving" 723 419
def o421:Ob:=fun P=>tu #[]
def o424:Ob:=fun P=>co "ends_through" "ends_through" 737 190 2 3 421 true 422 .none .none (.ref 423) 740 741
def o425:Ob:=fun P=>fo "ends_through" "ends_through" (top 50) "loomwright.weaving" 723 424
def o426:Ob:=fun P=>tu #[]
def o429:Ob:=fun P=>co "shaft_ends" "shaft_ends" 743 192 2 3 426 true 427 .none .none (.ref 428) 746 747
def o430:Ob:=fun P=>fo "shaft_ends" "shaft_ends" (top 51) "loomwright.weaving" 723 429
def o431:Ob:=fun P=>tu #[]
def o434:Ob:=fun P=>co "row_by" "row_by" 749 194 2 3 431 true 432 .none .none (.ref 433) 752 753
def o435:Ob:=fun P=>fo "row_by" "row_by" (top 52) "loomwright.weaving" 723 434
def o436:Ob:=fun P=>tu #[]
def o439:Ob:=fun P=>co "woven" "woven" 755 196 1 3 436 true 437 .none .none (.ref 438) 758 759
def o440:Ob:=fun P=>fo "woven" "woven" (top 53) "loomwright.weaving" 723 439
def o441:Ob:=fun P=>tu #[]
def o443:Ob:=fun P=>tu #[(.str "_law_cell" 766),(.str "_law_k" 767)]
def o444:Ob:=fun P=>tu #[]
def o446:Ob:=fun P=>co "_law_mixed" "_law_mixed" 763 200 2 3 441 true 442 (.ref 443) (.ref 444) (.ref 445) 768 769
def o447:Ob:=fun P=>fo "_law_mixed" "_law_mixed" (top 55) "law_loomwright_k17_whole_joined_and_told_ove" 761 446
def o448:Ob:=fun P=>tu #[]
def o451:Ob:=fun P=>co "_law_kinds" "_law_kinds" 771 203 1 3 448 true 449 .none .none (.ref 450) 774 775
def o452:Ob:=fun P=>fo "_law_kinds" "_law_kinds" (top 56) "law_loomwright_k17_whole_joined_and_told_ove" 761 451
def o453:Ob:=fun P=>tu #[]
def o456:Ob:=fun P=>co "_law_same" "_law_same" 777 210 2 3 453 true 454 .none .none (.ref 455) 780 781
def o457:Ob:=fun P=>fo "_law_same" "_law_same" (top 57) "law_loomwright_k17_whole_joined_and_told_ove" 761 456
def o458:Ob:=fun P=>tu #[]
def o461:Ob:=fun P=>co "_law_cells" "_law_cells" 783 216 2 3 458 true 459 .none .none (.ref 460) 786 787
def o462:Ob:=fun P=>fo "_law_cells" "_law_cells" (top 58) "law_loomwright_k17_whole_joined_and_told_ove" 761 461
def o463:Ob:=fun P=>tu #[]
def o466:Ob:=fun P=>co "_law_numbers" "_law_numbers" 789 219 2 3 463 true 464 .none .none (.ref 465) 792 793
def o467:Ob:=fun P=>fo "_law_numbers" "_law_numbers" (top 59) "law_loomwright_k17_whole_joined_and_told_ove" 761 466
def o468:Ob:=fun P=>tu #[]
def o471:Ob:=fun P=>co "_law_draft" "_law_draft" 795 221 2 3 468 true 469 .none .none (.ref 470) 798 799
def o472:Ob:=fun P=>fo "_law_draft" "_law_draft" (top 60) "law_loomwright_k17_whole_joined_and_told_ove" 761 471
def o473:Ob:=fun P=>tu #[]
def o476:Ob:=fun P=>co "_law_copied" "_law_copied" 801 235 1 3 473 true 474 .none .none (.ref 475) 804 805
def o477:Ob:=fun P=>fo "_law_copied" "_law_copied" (top 61) "law_loomwright_k17_whole_joined_and_told_ove" 761 476
def o478:Ob:=fun P=>tu #[]
def o480:Ob:=fun P=>tu #[(.str "_law_due" 810),(.str "_law_shafts" 811),(.str "_law_treadles" 812),(.str "_law_threading" 813),(.str "_law_ties" 814),(.str "_law_treading" 815),(.str "_law_warp" 816),(.str "_law_weft" 817)]
def o481:Ob:=fun P=>tu #[]
def o483:Ob:=fun P=>co "_law_made" "_law_made" 807 241 1 3 478 true 479 (.ref 480) (.ref 481) (.ref 482) 818 819
def o484:Ob:=fun P=>fo "_law_made" "_law_made" (top 62) "law_loomwright_k17_whole_joined_and_told_ove" 761 483
def o485:Ob:=fun P=>tu #[]
def o488:Ob:=fun P=>co "_law_cloths" "_law_cloths" 821 244 2 3 485 true 486 .none .none (.ref 487) 824 825
def o489:Ob:=fun P=>fo "_law_cloths" "_law_cloths" (top 63) "law_loomwright_k17_whole_joined_and_told_ove" 761 488
def o490:Ob:=fun P=>tu #[]
def o492:Ob:=fun P=>tu #[(.str "_law_which" 830),(.str "_law_one" 831),(.str "_law_other" 832),(.str "_law_across" 833),(.str "_law_down" 834),(.str "_law_error" 835),(.str "caught" 836)]
def o493:Ob:=fun P=>tu #[]
def o495:Ob:=fun P=>co "_law_refused" "_law_refused" 827 256 5 3 490 true 491 (.ref 492) (.ref 493) (.ref 494) 837 838
def o496:Ob:=fun P=>fo "_law_refused" "_law_refused" (top 64) "law_loomwright_k17_whole_joined_and_told_ove" 761 495
def o497:Ob:=fun P=>tu #[]
def o500:Ob:=fun P=>co "_law_bits" "_law_bits" 840 270 2 3 497 true 498 .none .none (.ref 499) 843 844
def o501:Ob:=fun P=>fo "_law_bits" "_law_bits" (top 65) "law_loomwright_k17_whole_joined_and_told_ove" 761 500
def o502:Ob:=fun P=>tu #[]
def o504:Ob:=fun P=>tu #[(.str "_law_cloth" 849),(.str "_law_wide" 850),(.str "_law_masks" 851)]
def o505:Ob:=fun P=>tu #[]
def o507:Ob:=fun P=>co "_law_told" "_law_told" 846 272 1 3 502 true 503 (.ref 504) (.ref 505) (.ref 506) 852 853
def o508:Ob:=fun P=>fo "_law_told" "_law_told" (top 66) "law_loomwright_k17_whole_joined_and_told_ove" 761 507
def o509:Ob:=fun P=>tu #[]
def o512:Ob:=fun P=>co "_law_joined_right" "_law_joined_right" 855 275 4 3 509 true 510 .none .none (.ref 511) 858 859
def o513:Ob:=fun P=>fo "_law_joined_right" "_law_joined_right" (top 67) "law_loomwright_k17_whole_joined_and_told_ove" 761 512
def o514:Ob:=fun P=>tu #[]
def o516:Ob:=fun P=>tu #[(.str "_law_number" 864),(.str "_law_size" 865),(.str "_law_fits" 866)]
def o517:Ob:=fun P=>tu #[]
def o519:Ob:=fun P=>co "_law_count" "_law_count" 861 290 2 3 514 true 515 (.ref 516) (.ref 517) (.ref 518) 867 868
def o520:Ob:=fun P=>fo "_law_count" "_law_count" (top 68) "law_loomwright_k17_whole_joined_and_told_ove" 761 519
def o521:Ob:=fun P=>tu #[]
def o524:Ob:=fun P=>co "_law_over_right" "_law_over_right" 870 293 4 3 521 true 522 .none .none (.ref 523) 873 874
def o525:Ob:=fun P=>fo "_law_over_right" "_law_over_right" (top 69) "law_loomwright_k17_whole_joined_and_told_ove" 761 524
def o526:Ob:=fun P=>tu #[]
def o529:Ob:=fun P=>co "_law_draft_right" "_law_draft_right" 876 299 3 3 526 true 527 .none .none (.ref 528) 879 880
def o530:Ob:=fun P=>fo "_law_draft_right" "_law_draft_right" (top 70) "law_loomwright_k17_whole_joined_and_told_ove" 761 529
def o531:Ob:=fun P=>tu #[]
def o534:Ob:=fun P=>co "law" "law" 882 310 1 3 531 true 532 .none .none (.ref 533) 885 886
def o535:Ob:=fun P=>fo "law" "law" (top 71) "law_loomwright_k17_whole_joined_and_told_ove" 761 534
def ob25 (P:Params):List Obj:=o525 P::o526 P::o529 P::o530 P::o531 P::o534 P::o535 P::[]
def ob24 (P:Params):List Obj:=o507 P::o508 P::o509 P::o512 P::o513 P::o514 P::o516 P::o517 P::o519 P::o520 P::o521 P::o524 P::ob25 P
def ob23 (P:Params):List Obj:=o489 P::o490 P::o492 P::o493 P::o495 P::o496 P::o497 P::o500 P::o501 P::o502 P::o504 P::o505 P::ob24 P
def ob22 (P:Params):List Obj:=o471 P::o472 P::o473 P::o476 P::o477 P::o478 P::o480 P::o481 P::o483 P::o484 P::o485 P::o488 P::ob23 P
def ob21 (P:Params):List Obj:=o451 P::o452 P::o453 P::o456 P::o457 P::o458 P::o461 P::o462 P::o463 P::o466 P::o467 P::o468 P::ob22 P
def ob20 (P:Params):List Obj:=o431 P::o434 P::o435 P::o436 P::o439 P::o440 P::o441 P::o443 P::o444 P::o446 P::o447 P::o448 P::ob21 P
def ob19 (P:Params):List Obj:=o411 P::o414 P::o415 P::o416 P::o419 P::o420 P::o421 P::o424 P::o425 P::o426 P::o429 P::o430 P::ob20 P
def ob18 (P:Params):List Obj:=o393 P::o394 P::o396 P::o397 P::o399 P::o400 P::o401 P::o404 P::o405 P::o406 P::o409 P::o410 P::ob19 P
def ob17 (P:Params):List Obj:=o375 P::o376 P::o377 P::o380 P::o381 P::o382 P::o384 P::o385 P::o387 P::o388 P::o389 P::o392 P::ob18 P
def ob16 (P:Params):List Obj:=o358 P::o359 P::o361 P::o362 P::o363 P::o364 P::o365 P::o366 P::o367 P::o370 P::o372 P::o373 P::ob17 P
def ob15 (P:Params):List Obj:=o339 P::o342 P::o343 P::o344 P::o347 P::o348 P::o349 P::o351 P::o352 P::o354 P::o355 P::o356 P::ob16 P
def ob14 (P:Params):List Obj:=o313 P::o315 P::o316 P::o317 P::o320 P::o321 P::o322 P::o325 P::o326 P::o327 P::o330 P::o331 P::ob15 P
def ob13 (P:Params):List Obj:=o296 P::o298 P::o299 P::o301 P::o302 P::o303 P::o305 P::o306 P::o308 P::o309 P::o310 P::o312 P::ob14 P
def ob12 (P:Params):List Obj:=o280 P::o281 P::o283 P::o284 P::o286 P::o287 P::o288 P::o289 P::o290 P::o291 P::o292 P::o295 P::ob13 P
def ob11 (P:Params):List Obj:=o263 P::o265 P::o266 P::o267 P::o269 P::o270 P::o272 P::o273 P::o274 P::o276 P::o277 P::o279 P::ob12 P
def ob10 (P:Params):List Obj:=o246 P::o248 P::o249 P::o251 P::o252 P::o253 P::o255 P::o256 P::o258 P::o259 P::o260 P::o262 P::ob11 P
def ob9 (P:Params):List Obj:=o222 P::o223 P::o225 P::o226 P::o227 P::o230 P::o231 P::o239 P::o241 P::o242 P::o244 P::o245 P::ob10 P
def ob8 (P:Params):List Obj:=o205 P::o206 P::o208 P::o209 P::o211 P::o212 P::o213 P::o215 P::o216 P::o218 P::o219 P::o220 P::ob9 P
def ob7 (P:Params):List Obj:=o187 P::o189 P::o190 P::o192 P::o193 P::o194 P::o197 P::o198 P::o199 P::o201 P::o202 P::o204 P::ob8 P
def ob6 (P:Params):List Obj:=o171 P::o172 P::o173 P::o175 P::o176 P::o178 P::o179 P::o180 P::o182 P::o183 P::o185 P::o186 P::ob7 P
def ob5 (P:Params):List Obj:=o139 P::o142 P::o149 P::o150 P::o151 P::o154 P::o161 P::o162 P::o163 P::o166 P::o168 P::o169 P::ob6 P
def ob4 (P:Params):List Obj:=o111 P::o118 P::o120 P::o121 P::o123 P::o124 P::o125 P::o126 P::o127 P::o130 P::o137 P::o138 P::ob5 P
def ob3 (P:Params):List Obj:=o87 P::o88 P::o89 P::o92 P::o99 P::o101 P::o102 P::o104 P::o105 P::o106 P::o107 P::o108 P::ob4 P
def ob2 (P:Params):List Obj:=o64 P::o66 P::o67 P::o68 P::o69 P::o70 P::o73 P::o80 P::o82 P::o83 P::o85 P::o86 P::ob3 P
def ob1 (P:Params):List Obj:=o35 P::o42 P::o44 P::o45 P::o47 P::o48 P::o49 P::o50 P::o51 P::o54 P::o61 P::o63 P::ob2 P
def ob0 (P:Params):List Obj:=boot_o_2 P::o3 P::o15 P::o17 P::o18 P::o20 P::o21 P::o22 P::o29 P::o30 P::o31 P::o32 P::ob1 P
def frag (P:Params):Frag:=(nat_lit 2,boot_o_2 P)::(nat_lit 3,o3 P)::(nat_lit 15,o15 P)::(nat_lit 17,o17 P)::(nat_lit 18,o18 P)::(nat_lit 20,o20 P)::(nat_lit 21,o21 P)::(nat_lit 22,o22 P)::(nat_lit 29,o29 P)::(nat_lit 30,o30 P)::(nat_lit 31,o31 P)::(nat_lit 32,o32 P)::(nat_lit 35,o35 P)::(nat_lit 42,o42 P)::(nat_lit 44,o44 P)::(nat_lit 45,o45 P)::(nat_lit 47,o47 P)::(nat_lit 48,o48 P)::(nat_lit 49,o49 P)::(nat_lit 50,o50 P)::(nat_lit 51,o51 P)::(nat_lit 54,o54 P)::(nat_lit 61,o61 P)::(nat_lit 63,o63 P)::(nat_lit 64,o64 P)::(nat_lit 66,o66 P)::(nat_lit 67,o67 P)::(nat_lit 68,o68 P)::(nat_lit 69,o69 P)::(nat_lit 70,o70 P)::(nat_lit 73,o73 P)::(nat_lit 80,o80 P)::(nat_lit 82,o82 P)::(nat_lit 83,o83 P)::(nat_lit 85,o85 P)::(nat_lit 86,o86 P)::(nat_lit 87,o87 P)::(nat_lit 88,o88 P)::(nat_lit 89,o89 P)::(nat_lit 92,o92 P)::(nat_lit 99,o99 P)::(nat_lit 101,o101 P)::(nat_lit 102,o102 P)::(nat_lit 104,o104 P)::(nat_lit 105,o105 P)::(nat_lit 106,o106 P)::(nat_lit 107,o107 P)::(nat_lit 108,o108 P)::(nat_lit 111,o111 P)::(nat_lit 118,o118 P)::(nat_lit 120,o120 P)::(nat_lit 121,o121 P)::(nat_lit 123,o123 P)::(nat_lit 124,o124 P)::(nat_lit 125,o125 P)::(nat_lit 126,o126 P)::(nat_lit 127,o127 P)::(nat_lit 130,o130 P)::(nat_lit 137,o137 P)::(nat_lit 138,o138 P)::(nat_lit 139,o139 P)::(nat_lit 142,o142 P)::(nat_lit 149,o149 P)::(nat_lit 150,o150 P)::(nat_lit 151,o151 P)::(nat_lit 154,o154 P)::(nat_lit 161,o161 P)::(nat_lit 162,o162 P)::(nat_lit 163,o163 P)::(nat_lit 166,o166 P)::(nat_lit 168,o168 P)::(nat_lit 169,o169 P)::(nat_lit 171,o171 P)::(nat_lit 172,o172 P)::(nat_lit 173,o173 P)::(nat_lit 175,o175 P)::(nat_lit 176,o176 P)::(nat_lit 178,o178 P)::(nat_lit 179,o179 P)::(nat_lit 180,o180 P)::(nat_lit 182,o182 P)::(nat_lit 183,o183 P)::(nat_lit 185,o185 P)::(nat_lit 186,o186 P)::(nat_lit 187,o187 P)::(nat_lit 189,o189 P)::(nat_lit 190,o190 P)::(nat_lit 192,o192 P)::(nat_lit 193,o193 P)::(nat_lit 194,o194 P)::(nat_lit 197,o197 P)::(nat_lit 198,o198 P)::(nat_lit 199,o199 P)::(nat_lit 201,o201 P)::(nat_lit 202,o202 P)::(nat_lit 204,o204 P)::(nat_lit 205,o205 P)::(nat_lit 206,o206 P)::(nat_lit 208,o208 P)::(nat_lit 209,o209 P)::(nat_lit 211,o211 P)::(nat_lit 212,o212 P)::(nat_lit 213,o213 P)::(nat_lit 215,o215 P)::(nat_lit 216,o216 P)::(nat_lit 218,o218 P)::(nat_lit 219,o219 P)::(nat_lit 220,o220 P)::(nat_lit 222,o222 P)::(nat_lit 223,o223 P)::(nat_lit 225,o225 P)::(nat_lit 226,o226 P)::(nat_lit 227,o227 P)::(nat_lit 230,o230 P)::(nat_lit 231,o231 P)::(nat_lit 239,o239 P)::(nat_lit 241,o241 P)::(nat_lit 242,o242 P)::(nat_lit 244,o244 P)::(nat_lit 245,o245 P)::(nat_lit 246,o246 P)::(nat_lit 248,o248 P)::(nat_lit 249,o249 P)::(nat_lit 251,o251 P)::(nat_lit 252,o252 P)::(nat_lit 253,o253 P)::(nat_lit 255,o255 P)::(nat_lit 256,o256 P)::(nat_lit 258,o258 P)::(nat_lit 259,o259 P)::(nat_lit 260,o260 P)::(nat_lit 262,o262 P)::(nat_lit 263,o263 P)::(nat_lit 265,o265 P)::(nat_lit 266,o266 P)::(nat_lit 267,o267 P)::(nat_lit 269,o269 P)::(nat_lit 270,o270 P)::(nat_lit 272,o272 P)::(nat_lit 273,o273 P)::(nat_lit 274,o274 P)::(nat_lit 276,o276 P)::(nat_lit 277,o277 P)::(nat_lit 279,o279 P)::(nat_lit 280,o280 P)::(nat_lit 281,o281 P)::(nat_lit 283,o283 P)::(nat_lit 284,o284 P)::(nat_lit 286,o286 P)::(nat_lit 287,o287 P)::(nat_lit 288,o288 P)::(nat_lit 289,o289 P)::(nat_lit 290,o290 P)::(nat_lit 291,o291 P)::(nat_lit 292,o292 P)::(nat_lit 295,o295 P)::(nat_lit 296,o296 P)::(nat_lit 298,o298 P)::(nat_lit 299,o299 P)::(nat_lit 301,o301 P)::(nat_lit 302,o302 P)::(nat_lit 303,o303 P)::(nat_lit 305,o305 P)::(nat_lit 306,o306 P)::(nat_lit 308,o308 P)::(nat_lit 309,o309 P)::(nat_lit 310,o310 P)::(nat_lit 312,o312 P)::(nat_lit 313,o313 P)::(nat_lit 315,o315 P)::(nat_lit 316,o316 P)::(nat_lit 317,o317 P)::(nat_lit 320,o320 P)::(nat_lit 321,o321 P)::(nat_lit 322,o322 P)::(nat_lit 325,o325 P)::(nat_lit 326,o326 P)::(nat_lit 327,o327 P)::(nat_lit 330,o330 P)::(nat_lit 331,o331 P)::(nat_lit 339,o339 P)::(nat_lit 342,o342 P)::(nat_lit 343,o343 P)::(nat_lit 344,o344 P)::(nat_lit 347,o347 P)::(nat_lit 348,o348 P)::(nat_lit 349,o349 P)::(nat_lit 351,o351 P)::(nat_lit 352,o352 P)::(nat_lit 354,o354 P)::(nat_lit 355,o355 P)::(nat_lit 356,o356 P)::(nat_lit 358,o358 P)::(nat_lit 359,o359 P)::(nat_lit 361,o361 P)::(nat_lit 362,o362 P)::(nat_lit 363,o363 P)::(nat_lit 364,o364 P)::(nat_lit 365,o365 P)::(nat_lit 366,o366 P)::(nat_lit 367,o367 P)::(nat_lit 370,o370 P)::(nat_lit 372,o372 P)::(nat_lit 373,o373 P)::(nat_lit 375,o375 P)::(nat_lit 376,o376 P)::(nat_lit 377,o377 P)::(nat_lit 380,o380 P)::(nat_lit 381,o381 P)::(nat_lit 382,o382 P)::(nat_lit 384,o384 P)::(nat_lit 385,o385 P)::(nat_lit 387,o387 P)::(nat_lit 388,o388 P)::(nat_lit 389,o389 P)::(nat_lit 392,o392 P)::(nat_lit 393,o393 P)::(nat_lit 394,o394 P)::(nat_lit 396,o396 P)::(nat_lit 397,o397 P)::(nat_lit 399,o399 P)::(nat_lit 400,o400 P)::(nat_lit 401,o401 P)::(nat_lit 404,o404 P)::(nat_lit 405,o405 P)::(nat_lit 406,o406 P)::(nat_lit 409,o409 P)::(nat_lit 410,o410 P)::(nat_lit 411,o411 P)::(nat_lit 414,o414 P)::(nat_lit 415,o415 P)::(nat_lit 416,o416 P)::(nat_lit 419,o419 P)::(nat_lit 420,o420 P)::(nat_lit 421,o421 P)::(nat_lit 424,o424 P)::(nat_lit 425,o425 P)::(nat_lit 426,o426 P)::(nat_lit 429,o429 P)::(nat_lit 430,o430 P)::(nat_lit 431,o431 P)::(nat_lit 434,o434 P)::(nat_lit 435,o435 P)::(nat_lit 436,o436 P)::(nat_lit 439,o439 P)::(nat_lit 440,o440 P)::(nat_lit 441,o441 P)::(nat_lit 443,o443 P)::(nat_lit 444,o444 P)::(nat_lit 446,o446 P)::(nat_lit 447,o447 P)::(nat_lit 448,o448 P)::(nat_lit 451,o451 P)::(nat_lit 452,o452 P)::(nat_lit 453,o453 P)::(nat_lit 456,o456 P)::(nat_lit 457,o457 P)::(nat_lit 458,o458 P)::(nat_lit 461,o461 P)::(nat_lit 462,o462 P)::(nat_lit 463,o463 P)::(nat_lit 466,o466 P)::(nat_lit 467,o467 P)::(nat_lit 468,o468 P)::(nat_lit 471,o471 P)::(nat_lit 472,o472 P)::(nat_lit 473,o473 P)::(nat_lit 476,o476 P)::(nat_lit 477,o477 P)::(nat_lit 478,o478 P)::(nat_lit 480,o480 P)::(nat_lit 481,o481 P)::(nat_lit 483,o483 P)::(nat_lit 484,o484 P)::(nat_lit 485,o485 P)::(nat_lit 488,o488 P)::(nat_lit 489,o489 P)::(nat_lit 490,o490 P)::(nat_lit 492,o492 P)::(nat_lit 493,o493 P)::(nat_lit 495,o495 P)::(nat_lit 496,o496 P)::(nat_lit 497,o497 P)::(nat_lit 500,o500 P)::(nat_lit 501,o501 P)::(nat_lit 502,o502 P)::(nat_lit 504,o504 P)::(nat_lit 505,o505 P)::(nat_lit 507,o507 P)::(nat_lit 508,o508 P)::(nat_lit 509,o509 P)::(nat_lit 512,o512 P)::(nat_lit 513,o513 P)::(nat_lit 514,o514 P)::(nat_lit 516,o516 P)::(nat_lit 517,o517 P)::(nat_lit 519,o519 P)::(nat_lit 520,o520 P)::(nat_lit 521,o521 P)::(nat_lit 524,o524 P)::(nat_lit 525,o525 P)::(nat_lit 526,o526 P)::(nat_lit 529,o529 P)::(nat_lit 530,o530 P)::(nat_lit 531,o531 P)::(nat_lit 534,o534 P)::(nat_lit 535,o535 P)::[]
def addrs:List Addr:=[2,3,15,17,18,20,21,22,29,30,31,32,35,42,44,45,47,48,49,50,51,54,61,63,64,66,67,68,69,70,73,80,82,83,85,86,87,88,89,92,99,101,102,104,105,106,107,108,111,118,120,121,123,124,125,126,127,130,137,138,139,142,149,150,151,154,161,162,163,166,168,169,171,172,173,175,176,178,179,180,182,183,185,186,187,189,190,192,193,194,197,198,199,201,202,204,205,206,208,209,211,212,213,215,216,218,219,220,222,223,225,226,227,230,231,239,241,242,244,245,246,248,249,251,252,253,255,256,258,259,260,262,263,265,266,267,269,270,272,273,274,276,277,279,280,281,283,284,286,287,288,289,290,291,292,295,296,298,299,301,302,303,305,306,308,309,310,312,313,315,316,317,320,321,322,325,326,327,330,331,339,342,343,344,347,348,349,351,352,354,355,356,358,359,361,362,363,364,365,366,367,370,372,373,375,376,377,380,381,382,384,385,387,388,389,392,393,394,396,397,399,400,401,404,405,406,409,410,411,414,415,416,419,420,421,424,425,426,429,430,431,434,435,436,439,440,441,443,444,446,447,448,451,452,453,456,457,458,461,462,463,466,467,468,471,472,473,476,477,478,480,481,483,484,485,488,489,490,492,493,495,496,497,500,501,502,504,505,507,508,509,512,513,514,516,517,519,520,521,524,525,526,529,530,531,534,535]
def fr0 (P:Params):Frag:=addrs.zip (ob0 P)
theorem frag_eq (P:Params):frag P=fr0 P:=by kernel_rfl
def view:Program:={ PySem.Challenge.pw_loomwright_k17_whole_joined_and_told_ove with main:={ PySem.Challenge.pw_loomwright_k17_whole_joined_and_told_ove.main with body:=[top 0,top 1,top 2,top 3,top 4,top 6,top 7,top 8,top 9,top 10,top 11,top 12,top 13,top 14,top 16,top 17,top 18,top 19,top 20,top 21,top 23,top 24,top 25,top 26,top 28,top 29,top 31,top 32,top 33,top 34,top 35,top 36,top 37,top 38,top 39,top 41,top 42,top 43,top 44,top 45,top 46,top 48,top 49,top 50,top 51,top 52,top 53,top 55,top 56,top 57,top 58,top 59,top 60,top 61,top 62,top 63,top 64,top 65,top 66,top 67,top 68,top 69,top 70,top 71] } }
abbrev Xt:Shared→Bool:=fun s=>xlAt view [] s&&recOk (RowW.records PySem.Challenge.rw_loomwright_k17_whole_joined_and_told_ove.row.toRowW) s
theorem addrs_eq:∀ P:Params,addrs=(frag P).map (·.1):=fun _=>by kernel_rfl
abbrev hook:Hook:=kHook frag addrs addrs_eq
abbrev fuel:Nat:=8602
theorem twins:(fun _=>true) (HX.topT treeTable view (aWorld 1) 0 none,view,fr0,PySem.Challenge.rw_loomwright_k17_whole_joined_and_told_ove)=true:=by k_qdec
theorem runA (w:World) (os:OsState):(HX.topT treeTable PySem.Challenge.pw_loomwright_k17_whole_joined_and_told_ove w 11 (some (.ref 6)) fuel ⟨HX.bootT w.params,11,{},Array.mk [],boot_drawn,boot_toks,os⟩ (topStub PySem.Challenge.pw_loomwright_k17_whole_joined_and_told_ove)).map (fun s=>((staticsOk (importedModules PySem.Challenge.pw_loomwright_k17_whole_joined_and_told_ove.main.body) (boot_heap w.params) s.abs.heap&&namesBound PySem.Challenge.pw_loomwright_k17_whole_joined_and_told_ove s.abs.heap&&gensDone s.abs&&laidKept (boot_heap w.params) s.abs.heap),addrs.map s.abs.heap.get?))=some (true,((fr0 w.params).map fun p=>some p.2)):=by
  have _tw:=twins
  rw [PySem.W.Fast.te5923862056798008813,PySem.W.Fast.te3959131365936650734,PySem.W.Fast.te14364793385576792824,PySem.W.Fast.te9621378704136392807,PySem.W.Fast.te14185197842643235414]
  kernel_rfl
theorem runB (w:World) (os:OsState):(HX.topT treeTable PySem.Challenge.pw_loomwright_k17_whole_joined_and_told_ove w 11 (some (.ref 6)) fuel ⟨HX.bootT w.params,11,{},Array.mk [],boot_drawn,boot_toks,os⟩ (topStub PySem.Challenge.pw_loomwright_k17_whole_joined_and_told_ove)).map (fun s=>openSeen view [] (importedModules PySem.Challenge.pw_loomwright_k17_whole_joined_and_told_ove.main.body) Xt true s.abs)=some (openGood view []):=by
  unfold Xt
  rw [PySem.W.Fast.te5923862056798008813,PySem.W.Fast.te4187177175401517315,PySem.W.Fast.te2368527892694137696,PySem.W.Fast.te6494831449736991559,PySem.W.Fast.te15702564002399781102,PySem.W.Fast.te14364793385576792824,PySem.W.Fast.te9621378704136392807,PySem.W.Fast.te14185197842643235414]
  kernel_rfl
theorem left:LeftO PySem.Challenge.pw_loomwright_k17_whole_joined_and_told_ove view [] Xt hook.obs hook.val fuel:=HX.left_run (by kernel_rfl) (by decide) (fun s=>by kernel_rfl) HX.hb fun w os=>by
  obtain ⟨s,r,l⟩:=Option.map_eq_some_iff.mp (runA w os)
  obtain ⟨s2,r2,l2⟩:=Option.map_eq_some_iff.mp (runB w os)
  cases r.symm.trans r2
  rw [← frag_eq] at l
  exact ⟨s.abs,HX.topT_of r,HX.three l l2⟩
end K17
namespace L2
open PySem PySem.Spec PyProof.Rows
abbrev Key:=Sum Int Str
def keyIs:Key→Value→Bool
  | .inl k,v=>Value.isInt k v
  | .inr x,v=>Value.isStrOf x v
def keyH (w:World):Key→Int
  | .inl k=>hashInt k
  | .inr x=>hashStr w x
theorem keyIs_shape:∀ {k:Key} {v:Value},keyIs k v=true→(∃ i t,k=Sum.inl i∧v=Value.int i t)∨(∃ x t,k=Sum.inr x∧v=Value.str x t)
  | .inl i,v,h=>by
    obtain ⟨t,e⟩:=Value.isInt_shape (k:=i) (v:=v) h
    exact .inl ⟨i,t,rfl,e⟩
  | .inr x,v,h=>by
    obtain ⟨t,e⟩:=Value.isStrOf_shape (x:=x) (v:=v) h
    exact .inr ⟨x,t,rfl,e⟩
theorem keyIs_int (i:Int) (t:Tok):keyIs (.inl i) (.int i t)=true:=by simp [keyIs,Value.isInt]
theorem keyIs_str (x:Str) (t:Tok):keyIs (.inr x) (.str x t)=true:=by simp [keyIs,Value.isStrOf]
theorem key_ll (a b:Int):decide ((Sum.inl a:Key)=Sum.inl b)=(a == b):=by
  by_cases e:a=b
  · subst e;simp
  · have h:¬ (Sum.inl a:Key)=Sum.inl b:=fun q=>e (Sum.inl.inj q)
    rw [decide_eq_false h]
    exact (beq_eq_false_iff_ne.mpr e).symm
theorem key_rr (a b:Str):decide ((Sum.inr a:Key)=Sum.inr b)=decide (a=b):=by
  by_cases e:a=b
  · subst e;simp
  · have h:¬ (Sum.inr a:Key)=Sum.inr b:=fun q=>e (Sum.inr.inj q)
    rw [decide_eq_false h,decide_eq_false e]
theorem key_lr (a:Int) (b:Str):decide ((Sum.inl a:Key)=Sum.inr b)=false:=decide_eq_false (fun q=>nomatch q)
theorem key_rl (a:Str) (b:Int):decide ((Sum.inr a:Key)=Sum.inl b)=false:=decide_eq_false (fun q=>nomatch q)
def mixKind (prog:Program) (w:World):PySem.KeyKind prog w Key where
  is:=keyIs
  hash:=keyH w
  inj:=fun v a b ha hb=>by
    rcases keyIs_shape ha with ⟨i,t,rfl,rfl⟩ | ⟨x,t,rfl,rfl⟩
    · rcases keyIs_shape hb with ⟨j,u,rfl,e⟩ | ⟨y,u,rfl,e⟩
      · injection e with e1 _;rw [e1]
      · exact nomatch e
    · rcases keyIs_shape hb with ⟨j,u,rfl,e⟩ | ⟨y,u,rfl,e⟩
      · exact nomatch e
      · injection e with e1 _;rw [e1]
  byValue:=fun k v h=>by
    rcases keyIs_shape h with ⟨i,t,rfl,rfl⟩ | ⟨x,t,rfl,rfl⟩ <;> rfl
  pyHash:=fun hv h=>by
    rcases keyIs_shape hv with ⟨i,t,rfl,rfl⟩ | ⟨x,t,rfl,rfl⟩
    · exact wpAny_pyHash_int h
    · exact wpAny_pyHash_str h
  eqBool:=fun hu hv h=>by
    rcases keyIs_shape hu with ⟨i,t,rfl,rfl⟩ | ⟨x,t,rfl,rfl⟩
    · rcases keyIs_shape hv with ⟨j,u,rfl,rfl⟩ | ⟨y,u,rfl,rfl⟩
      · rw [key_ll] at h;exact wpAny_eqBool_int h
      · rw [key_lr] at h;exact SeqAt.EqAt.int_str i t y u _ _ _ _ h
    · rcases keyIs_shape hv with ⟨j,u,rfl,rfl⟩ | ⟨y,u,rfl,rfl⟩
      · rw [key_rl] at h;exact SeqAt.EqAt.str_int x t j u _ _ _ _ h
      · rw [key_rr] at h;exact wpAny_eqBool_str h
  «strs» := fun k x t v h=>by
    rcases keyIs_shape h with ⟨i,u,rfl,e⟩ | ⟨y,u,rfl,e⟩
    · exact nomatch e
    · injection e with e1 _
      subst e1
      cases v <;> rfl
theorem mixKind_int (prog:Program) (w:World) (i:Int) (t:Tok):(mixKind prog w).is (.inl i) (.int i t)=true:=keyIs_int i t
theorem mixKind_str (prog:Program) (w:World) (x:Str) (t:Tok):(mixKind prog w).is (.inr x) (.str x t)=true:=keyIs_str x t
end L2
namespace L2
open PySem PySem.Spec PyProof.Rows
inductive V where
  | non | bl (b:Bool) | int (i:Int) | str (x:Str) | byt (b:Array UInt8) | flt (b:UInt64) | ref (a:Addr) | ty (n:String)
  deriving DecidableEq
def RelV:V→Value→Prop
  | .non,u=>u=Value.none
  | .bl b,u=>u=Value.bool b
  | .int i,u=>∃ t,u=Value.int i t
  | .str x,u=>∃ t,u=Value.str x t
  | .byt b,u=>∃ t,u=Value.bytes b t
  | .flt b,u=>∃ t,u=Value.float b t
  | .ref a,u=>u=Value.ref a
  | .ty n,u=>u=Value.type n
abbrev Vals:List V→List Value→Prop:=Paired RelV
theorem Vals.length {xs:List V} {us:List Value} (r:Vals xs us):xs.length=us.length:=Paired.length r
theorem Vals.get:∀ {xs:List V} {us:List Value} {i:Nat} {x:V},Vals xs us→xs[i]?=some x→∃ u,us[i]?=some u∧RelV x u
  | _,_,_,_, .nil,e=>by simp at e
  | _,_,0,_, .cons r _,e=>by simp at e;subst e;exact ⟨_,rfl,r⟩
  | _,_,i+1,x, .cons _ t,e=>by
    obtain ⟨u,h1,h2⟩:=Vals.get (i:=i) (x:=x) t (by simpa using e)
    exact ⟨u,by simpa using h1,h2⟩
theorem Vals.append:∀ {xs ys:List V} {us ws:List Value},Vals xs us→Vals ys ws→Vals (xs++ys) (us++ws)
  | _,_,_,_, .nil,s=>s
  | _,_,_,_, .cons r t,s=> .cons r (Vals.append t s)
theorem Vals.take:∀ {xs:List V} {us:List Value} (n:Nat),Vals xs us→Vals (xs.take n) (us.take n)
  | _,_,0,_=> .nil
  | _,_,_+1, .nil=> .nil
  | _,_,n+1, .cons r t=> .cons r (Vals.take n t)
theorem Vals.drop:∀ {xs:List V} {us:List Value} (n:Nat),Vals xs us→Vals (xs.drop n) (us.drop n)
  | _,_,0,r=>r
  | _,_,_+1, .nil=> .nil
  | _,_,n+1, .cons _ t=>Vals.drop n t
def RelO:Option V→Option Value→Prop
  | some v,some u=>RelV v u
  | none,none=>True
  | _,_=>False
def KV {κ:Type}:List (κ × V)→List (κ × Value)→Prop:=Paired fun (p:κ × V) (q:κ × Value)=>p.1=q.1∧RelV p.2 q.2
def kV:Key→V
  | .inl i=> .int i
  | .inr x=> .str x
inductive HO where
  | lst (xs:List V)
  | tup (xs:List V)
  | dK (kvs:List (Key × V)) | dT (kvs:List (List Key × V))
  | set (S:Int→Bool) (n:Nat)
  | ins (C dx:Addr) (fs:List (Str × V))
  | own (x:Addr)
  | xd (fs:List (Str × V))
  | met (f x:Addr)
  | rng (lo hi:Int)
  | frz (o:Obj) (u:HO)
  | tbl (ps:Array Value)
  | ext (φ:Heap→Prop)
abbrev Hp:=Addr→Option HO
def upd (H:Hp) (a:Addr) (o:HO):Hp:=fun b=>if b=a then some o else H b
theorem upd_same {H:Hp} {a:Addr} {o:HO}:upd H a o a=some o:=by unfold upd;rw [if_pos rfl]
theorem upd_ne {H:Hp} {a b:Addr} {o:HO} (h:b≠a):upd H a o b=H b:=by unfold upd;rw [if_neg h]
theorem ne_of {H:Hp} {a b:Addr} {o u:HO} (h:H a=some o) (h':H b=some u) (d:o≠u):a≠b:=by
  intro e;subst e;rw [h] at h';exact d (Option.some.inj h')
theorem ne_of_none {H:Hp} {a b:Addr} {o:HO} (h:H a=some o) (h':H b=none):a≠b:=by
  intro e;subst e;rw [h] at h';cases h'
section
variable (P:Program) (w:World)
def ObjOk (H:Hp) (h:Heap) (a:Addr):HO→Prop
  | .lst xs=>xs.length≤sizeLine∧∃ (its:List Value) (n:Nat),Vals xs its∧h.get? a=some { cls:= .type "list",data:= .seq its.toArray n }
  | .tup xs=>xs.length≤sizeLine∧∃ its:List Value,Vals xs its∧IsTup h a its.toArray
  | .dK kvs=>kvs.length≤sizeLine∧(a == sysModules)=false∧∃ vs,KV kvs vs∧h.DictOf (mixKind P w) a vs
  | .dT kvs=>kvs.length≤sizeLine∧(a == sysModules)=false∧∃ xs:List (List Key × Addr × Value),
      Paired (fun (p:List Key × V) (q:List Key × Addr × Value)=>p.1=q.1∧H q.2.1=some (.tup (p.1.map kV))∧RelV p.2 q.2.2) kvs xs∧
      ∃ o es ep,h.get? a=some o∧o.ExactDict∧o.data= .dict es ep∧es.toList=xs.map (entryOfKey (tupleKind (mixKind P w)))∧(xs.map (·.1)).Nodup
  | .set S n=>h.SetOf (intKind P w) a S n
  | .ins C dx fs=>H dx=some (.own a)∧fs.length≤1000∧dx≠a∧h.get? a=some (PySem.W.instObj C dx)∧
      ∃ mA,h.Ns1 dx mA∧(∀ f,RelO (fs.lookup f) (mA f))∧PySem.Within mA (fs.map (·.1))
  | .own _=>∃ o,h.get? a=some o
  | .xd fs=>∃ mA,h.Ns1 a mA∧∀ f,RelO (fs.lookup f) (mA f)
  | .rng lo hi=>∃ t u v,h.get? a=some { cls:= .type "range",data:= .fields #[.int lo t, .int hi u, .int 1 v] }
  | .frz o u=>h.get? a=some o∧ObjOk H h a u
  | .tbl ps=>h.get? a=some { cls:= .none,data:= .fields ps }
  | .met f x=>h.get? a=some (PySem.W.methodObj (.ref f) (.ref x))
  | .ext φ=>φ h∧(∃ o,h.get? a=some o)∧∀ h1 h2:Heap,φ h1→(∀ o,h1.get? a=some o→h2.get? a=some o)→φ h2
def HOk (H:Hp) (h:Heap):Prop:=∀ a o,H a=some o→ObjOk P w H h a o
end
section
variable {P:Program} {w:World} {H H':Hp} {h h':Heap} {a:Addr} {o:HO}
theorem ObjOk.lt (x:ObjOk P w H h a o):a<h.objs.size:=by
  cases o with
  | lst xs=>obtain ⟨_,_,_,_,e⟩:=x;exact Heap.lt_size e
  | tup xs=>obtain ⟨_,_,_,p⟩:=x;exact p.lt
  | dK kvs=>obtain ⟨_,_,_,_,o,_,_,e,_⟩:=x;exact Heap.lt_size e
  | dT kvs=>obtain ⟨_,_,_,_,o,_,_,e,_⟩:=x;exact Heap.lt_size e
  | set S n=>obtain ⟨o,_,_,_,e,_⟩:=x;exact Heap.lt_size e
  | ins C dx fs=>obtain ⟨_,_,_,e,_⟩:=x;exact Heap.lt_size e
  | own y=>obtain ⟨_,e⟩:=x;exact Heap.lt_size e
  | xd fs=>obtain ⟨_,⟨_,_,_,e,_⟩,_⟩:=x;exact Heap.lt_size e
  | rng lo hi=>obtain ⟨_,_,_,e⟩:=x;exact Heap.lt_size e
  | frz ob u=>obtain ⟨e,_⟩:=x;exact Heap.lt_size e
  | tbl ps=>exact Heap.lt_size (show h.get? a=some _ from x)
  | met f y=>exact Heap.lt_size (show h.get? a=some _ from x)
  | ext φ=>obtain ⟨_,⟨_,e⟩,_⟩:=x;exact Heap.lt_size e
theorem Paired.mapP {α β:Type} {F G:α→β→Prop}:∀ {l₁:List α} {l₂:List β},Paired F l₁ l₂→(∀ a b,F a b→G a b)→Paired G l₁ l₂
  | _,_, .nil,_=> .nil
  | _,_, .cons r t,f=> .cons (f _ _ r) (Paired.mapP t f)
theorem ObjOk.stay (x:ObjOk P w H h a o) (k:∀ b u,(b=a∨H b=some (.own a))→h.get? b=some u→h'.get? b=some u)
    (ho:∀ b,H b=some (.own a)→H' b=some (.own a)) (ht:∀ b xs,H b=some (.tup xs)→H' b=some (.tup xs)):ObjOk P w H' h' a o:=by
  induction o with
  | lst xs=>obtain ⟨z,its,n,r,e⟩:=x;exact ⟨z,its,n,r,k _ _ (.inl rfl) e⟩
  | tup xs=>obtain ⟨z,its,r,ob,e,c⟩:=x;exact ⟨z,its,r,ob,k _ _ (.inl rfl) e,c⟩
  | dK kvs=>obtain ⟨z,y,vs,r,ob,es,ep,e,c⟩:=x;exact ⟨z,y,vs,r,ob,es,ep,k _ _ (.inl rfl) e,c⟩
  | dT kvs=>
    obtain ⟨z,y,xs,r,ob,es,ep,e,c⟩:=x
    exact ⟨z,y,xs,Paired.mapP r fun p q z=>⟨z.1,ht _ _ z.2.1,z.2.2⟩,ob,es,ep,k _ _ (.inl rfl) e,c⟩
  | set S n=>obtain ⟨ob,es,ep,t,e,c⟩:=x;exact ⟨ob,es,ep,t,k _ _ (.inl rfl) e,c⟩
  | ins C dx fs=>
    obtain ⟨d,z,ne,e,mA,⟨od,es,ep,e2,c⟩,r⟩:=x
    exact ⟨ho _ d,z,ne,k _ _ (.inl rfl) e,mA,⟨od,es,ep,k _ _ (.inr d) e2,c⟩,r⟩
  | own y=>obtain ⟨ob,e⟩:=x;exact ⟨ob,k _ _ (.inl rfl) e⟩
  | xd fs=>obtain ⟨mA,⟨od,es,ep,e,c⟩,r⟩:=x;exact ⟨mA,⟨od,es,ep,k _ _ (.inl rfl) e,c⟩,r⟩
  | rng lo hi=>obtain ⟨t,u,v,e⟩:=x;exact ⟨t,u,v,k _ _ (.inl rfl) e⟩
  | frz ob u ih=>obtain ⟨e,q⟩:=x;exact ⟨k _ _ (.inl rfl) e,ih q⟩
  | tbl ps=>
    have e:h.get? a=some { cls:= .none,data:= .fields ps }:=x
    show h'.get? a=some { cls:= .none,data:= .fields ps }
    exact k a _ (.inl rfl) e
  | met f y=>
    have e:h.get? a=some (PySem.W.methodObj (.ref f) (.ref y)):=x
    show h'.get? a=some (PySem.W.methodObj (.ref f) (.ref y))
    exact k a _ (.inl rfl) e
  | ext φ=>obtain ⟨p,⟨o,e⟩,st⟩:=x;exact ⟨st _ _ p fun o q=>k _ _ (.inl rfl) q,⟨o,k _ _ (.inl rfl) e⟩,st⟩
theorem HOk.lt (x:HOk P w H h) (e:H a=some o):a<h.objs.size:=(x a o e).lt
theorem HOk.fresh (x:HOk P w H h) (e:h.objs.size≤a):H a=none:=by
  cases q:H a with
  | none=>rfl
  | some u=>exact absurd (Nat.lt_of_lt_of_le (x.lt q) e) (Nat.lt_irrefl _)
theorem HOk.kept (x:HOk P w H h) (k:∀ b u,h.get? b=some u→h'.get? b=some u):HOk P w H h':=fun a o e=>
  (x a o e).stay (fun b u _ q=>k b u q) (fun _ q=>q) fun _ _ q=>q
theorem HOk.laid (x:HOk P w H h) (k:∀ b u,h.get? b=some u→h'.get? b=some u) (hp:h.objs.size≤a) (new:ObjOk P w (upd H a o) h' a o):HOk P w (upd H a o) h':=fun b u e=>by
  have hn:=x.fresh hp
  by_cases hb:b=a
  · subst hb;rw [upd_same] at e;cases e;exact new
  · rw [upd_ne hb] at e
    exact (x b u e).stay (fun c v _ q=>k c v q) (fun c q=>by rw [upd_ne (ne_of_none q hn)];exact q) fun c xs q=>by rw [upd_ne (ne_of_none q hn)];exact q
end
def Rd (H:Hp) (a:Addr) (u:HO):Prop:=H a=some u∨∃ o,H a=some (.frz o u)
theorem Rd.ok {P:Program} {w:World} {H:Hp} {h:Heap} {a:Addr} {u:HO} (r:Rd H a u) (x:HOk P w H h):ObjOk P w H h a u:=by
  rcases r with r | ⟨o,r⟩
  · exact x a u r
  · obtain ⟨_,q⟩:=x a _ r
    exact q
def Mut:Option HO→Prop
  | some (.lst _)=>True
  | some (.dK _)=>True
  | some (.dT _)=>True
  | some (.set _ _)=>True
  | some (.ins _ _ _)=>True
  | some (.ext _)=>True
  | _=>False
section
variable {P:Program} {w:World} {H:Hp} {h h':Heap} {x e:Addr} {o':HO}
theorem HOk.write (ok:HOk P w H h) (mu:Mut (H x)) (he:e=x∨H e=some (.own x)) (k:∀ b u,b≠e→h.get? b=some u→h'.get? b=some u) (heo:∃ u,h'.get? e=some u)
    (new:ObjOk P w (upd H x o') h' x o'):HOk P w (upd H x o') h':=fun b u q=>by
  have nown:∀ c y,H c=some (.own y)→c≠x:=fun c y r z=>by subst z;rw [r] at mu;exact mu
  have ntup:∀ c xs,H c=some (.tup xs)→c≠x:=fun c xs r z=>by subst z;rw [r] at mu;exact mu
  by_cases hb:b=x
  · subst hb;rw [upd_same] at q;cases q;exact new
  · rw [upd_ne hb] at q
    by_cases hbe:b=e
    · have q':H b=some (.own x):=by
        rcases he with z | z
        · exact absurd (hbe.trans z) hb
        · rw [hbe];exact z
      rw [q] at q';cases q'
      obtain ⟨v,hv⟩:=heo
      exact ⟨v,by rw [hbe];exact hv⟩
    · refine (ok b u q).stay (fun c v hc r=>k c v ?_ r) (fun c r=>by rw [upd_ne (nown c b r)];exact r) fun c xs r=>by rw [upd_ne (ntup c xs r)];exact r
      rcases hc with rfl | hc
      · exact hbe
      · rintro rfl
        rcases he with z | z
        · exact nown c b hc z
        · rw [hc] at z;cases z;exact hb rfl
end
structure Un (fs ex:List Addr) (H H':Hp) (h h':Heap):Prop where
  keep:∀ b o,h.get? b=some o→H b=none→b∉fs→b∉ex→h'.get? b=some o
  slot:∀ b o,h.get? b=some o→H b=none→b∈fs→b∉ex→∃ sl,h'.get? b=some { o with slots:=sl }
  free:∀ b o,h.get? b=some o→H b=none→b∉ex→H' b=none
  there:∀ b o,h.get? b=some o→b∉ex→∃ o',h'.get? b=some o'
  tups:∀ b xs,H b=some (.tup xs)→H' b=some (.tup xs)
  frzs:∀ b o u,H b=some (.frz o u)→H' b=some (.frz o u)
  tbls:∀ b ps,H b=some (.tbl ps)→∃ more,H' b=some (.tbl (ps++more))
section
variable {fs fs' ex ex':List Addr} {H H1 H2:Hp} {h h1 h2 h':Heap} {a x e:Addr} {o:HO}
theorem Un.any (u:Un fs ex H H1 h h1) {b:Addr} {ob:Obj} (q:h.get? b=some ob) (n:H b=none) (hx:b∉ex):∃ sl,h1.get? b=some { ob with slots:=sl }:=by
  by_cases hb:b∈fs
  · exact u.slot b ob q n hb hx
  · exact ⟨ob.slots,u.keep b ob q n hb hx⟩
theorem Un.kept (k:∀ b u,h.get? b=some u→h'.get? b=some u):Un fs ex H H h h':=
  ⟨fun b ob q _ _ _=>k b ob q,fun b ob q _ _ _=>⟨ob.slots,k b ob q⟩,fun _ _ _ n _=>n,fun b ob q _=>⟨ob,k b ob q⟩,fun _ _ q=>q,fun _ _ _ q=>q,fun _ ps q=>⟨#[],by rw [q];simp⟩⟩
theorem Un.refl:Un fs ex H H h h:=Un.kept fun _ _ q=>q
theorem Un.laid (k:∀ b u,h.get? b=some u→h'.get? b=some u) (hp:h.objs.size≤a) (hn:H a=none):Un fs ex H (upd H a o) h h' where
  keep:=fun b u q _ _ _=>k b u q
  slot:=fun b u q _ _ _=>⟨u.slots,k b u q⟩
  free:=fun b u q n _=>by rw [upd_ne (Nat.ne_of_lt (Nat.lt_of_lt_of_le (Heap.lt_size q) hp))];exact n
  there:=fun b u q _=>⟨u,k b u q⟩
  tups:=fun b xs q=>by rw [upd_ne (ne_of_none q hn)];exact q
  frzs:=fun b u xs q=>by rw [upd_ne (ne_of_none q hn)];exact q
  tbls:=fun b ps q=>⟨#[],by rw [upd_ne (ne_of_none q hn),q];simp⟩
theorem Un.write (mu:Mut (H x)) (he:e=x∨H e=some (.own x)) (k:∀ b u,b≠e→h.get? b=some u→h'.get? b=some u) (heo:∃ u,h'.get? e=some u):Un fs ex H (upd H x o) h h':=by
  have hx:∀ b,H b=none→b≠x:=fun b n z=>by subst z;rw [n] at mu;exact mu
  have hb:∀ b,H b=none→b≠e:=fun b n z=>by
    subst z
    rcases he with r | r
    · exact hx b n r
    · rw [n] at r;cases r
  have hm:∀ b u,H b=some u→¬ Mut (some u)→b≠x:=fun b u q nm z=>by subst z;rw [q] at mu;exact nm mu
  refine ⟨fun b u q n _ _=>k b u (hb b n) q,fun b u q n _ _=>⟨u.slots,k b u (hb b n) q⟩,fun b u q n _=>by rw [upd_ne (hx b n)];exact n,fun b u q _=> ?_,
    fun b xs q=>by rw [upd_ne (hm b _ q fun z=>z)];exact q,fun b u xs q=>by rw [upd_ne (hm b _ q fun z=>z)];exact q,fun b ps q=>⟨#[],by rw [upd_ne (hm b _ q fun z=>z),q];simp⟩⟩
  by_cases hbe:b=e
  · subst hbe;exact heo
  · exact ⟨u,k b u hbe q⟩
end
def trk (h:Heap) (H:Hp):List Addr:=(List.range h.objs.size).filter fun a=>(H a).isSome
def hidT (h:Heap) (H:Hp):Heap:=PySem.W.hideAll h (trk h H)
theorem hidT_size (h:Heap) (H:Hp):(hidT h H).objs.size=h.objs.size:=PySem.W.hideAll_size _ _
theorem hidT_get {h:Heap} {H:Hp} {b:Addr} {o:Obj} (e:h.get? b=some o) (n:H b=none):(hidT h H).get? b=some o:=
  PySem.W.hideAll_get _ e fun hm=>by
    have q:(H b).isSome=true:=(List.mem_filter.mp hm).2
    rw [n] at q;simp at q
theorem of_hidT {h:Heap} {H:Hp} {b:Addr} {o:Obj} (e:(hidT h H).get? b=some o):h.get? b=some o∧H b=none:=by
  have e':h.get? b=some o:=PySem.W.of_hideAll (trk h H) e
  refine ⟨e',?_⟩
  cases q:H b with
  | none=>rfl
  | some x=>
    have hm:b∈trk h H:=List.mem_filter.mpr ⟨List.mem_range.mpr (Heap.lt_size e'),by simp [q]⟩
    have z:(hidT h H).get? b=none:=PySem.W.hideAll_none (trk h H) hm
    rw [z] at e;cases e
def allNews (g h:Heap) (L:Addr):List (Addr × Obj):=(List.range h.objs.size).filterMap fun a=>if a=L∨(g.get? a).isSome=true then none else (h.get? a).map fun o=>(a,o)
def rest (g h:Heap) (L d:Addr):List (Addr × Obj):=(allNews g h L).filter fun p=>decide (p.1≠d)
end L2
namespace L2
open PySem PySem.Spec PyProof.Rows
structure Mod (K:PySem.W.Frag) (mg:Str→Option Value) (base:Heap):Prop where
  kin:K.In base
  glob:base.Ns mainGlobals mg
  blt:∃ mb,base.Ns builtinsNs mb∧∀ x:Str,x≠"__name__"→mb x=bootBuiltins x
  nolimit:base.NoLimit
structure Cx where
  prog:Program
  w:World
  K:PySem.W.Frag
  mg:Str→Option Value
  base:Heap
  A:Around
  N:List Str
  s₀:Shared
  H₀:Hp
  env:Env
  outer:List Env
  stack:List Env
  ex:List Addr
  fn:Str→Bool
  calm:Bool
  pn:List (Addr × Obj)
  xe:Value→Shared→Prop
def frs (l:List Env):List Addr:=l.filterMap (·.frame)
abbrev Cx.fs (X:Cx):List Addr:=frs X.outer
def Vis (sc:Scope) (x:Str):Prop:=sc.names.lookup x=some .local∨sc.names.lookup x=some .cell∨sc.names.lookup x=some .free
def Loc (sc:Scope) (x:Str):Prop:=sc.names.lookup x=some .local∨sc.names.lookup x=some .cell
def Look (env:Env) (h:Heap) (m:Str→Option Value) (x:Str) (u:Value):Prop:=
  (env.kindOf x=some .local∧m x=some u)∨((env.kindOf x=some .cell∨env.kindOf x=some .free)∧∃ c,env.cells.lookup x=some c∧h.IsCell c (some u))
structure Cx.Ok (X:Cx):Prop where
  mod:Mod X.K X.mg X.base
  kind:X.env.scope.kind= .function
  glob:X.env.globals=mainGlobals
  blt:X.env.builtins=builtinsNs
  above:X.s₀.heap.objs.size≤X.env.locals
  inj:∀ x y c,X.env.cells.lookup x=some c→X.env.cells.lookup y=some c→x=y
  has:∀ x,(X.env.kindOf x=some .cell∨X.env.kindOf x=some .free)→∃ c,X.env.cells.lookup x=some c
  cab:∀ x c,X.fn x=true→X.env.cells.lookup x=some c→X.s₀.heap.objs.size≤c
  hd:X.calm=true→X.A.handled=none
  frames:X.A.frames=some X.stack
  stk:X.stack=X.outer∨(X.stack=X.env::X.outer∧X.env.frame=some X.env.locals)
  exf:∀ b∈X.ex,b≠X.env.locals∧∀ x c,X.env.cells.lookup x=some c→c≠b
  bs:∀ b o,X.base.get? b=some o→X.s₀.heap.get? b=some o∧X.H₀ b=none
  bsz:X.base.objs.size≤X.s₀.heap.objs.size
  noex:∀ b o,X.base.get? b=some o→b∉X.ex
  exfs:∀ b∈X.ex,b∉X.fs
  funs:X.s₀.heap.FunFrames X.base X.outer
  frf:∀ b∈X.fs,X.H₀ b=none
structure Inv (X:Cx) (pins:List (Addr × Obj)) (σ:List (Option V)) (H:Hp) (s:Shared):Prop where
  ok:X.Ok
  os:s.os=X.s₀.os
  bare:AllBare s.gens
  base:Un X.fs X.ex X.H₀ H X.s₀.heap s.heap
  loc:∃ m,s.heap.Ns X.env.locals m∧∀ (i:Nat) (x:Str) (v:V),X.N[i]?=some x→σ[i]?=some (some v)→Vis X.env.scope x→∃ u,RelV v u∧Look X.env s.heap m x u
  cell:∀ x c,X.env.cells.lookup x=some c→∃ v,s.heap.IsCell c v
  free:H X.env.locals=none
  freeC:∀ x c,X.env.cells.lookup x=some c→H c=none
  pin:∀ p∈X.pn++pins,s.heap.get? p.1=some p.2∧H p.1=none∧p.1≠X.env.locals∧p.1∉X.fs∧∀ v,p.2.data≠ .cell v
  hok:HOk X.prog X.w H s.heap
  len:σ.length=X.N.length
section
variable {X:Cx} {pins:List (Addr × Obj)} {σ:List (Option V)} {H H':Hp} {s:Shared} {h':Heap}
theorem Cx.Ok.nofr (ok:X.Ok) {b:Addr} {o:Obj} (e:X.base.get? b=some o):b∉X.fs:=fun hb=>by
  have:=(ok.funs.mem hb).1
  rw [e] at this;cases this
theorem Inv.bs (I:Inv X pins σ H s):∀ b o,X.base.get? b=some o→s.heap.get? b=some o∧H b=none:=fun b o e=>
  ⟨I.base.keep b o (I.ok.bs b o e).1 (I.ok.bs b o e).2 (I.ok.nofr e) (I.ok.noex b o e),I.base.free b o (I.ok.bs b o e).1 (I.ok.bs b o e).2 (I.ok.noex b o e)⟩
theorem Inv.bk (I:Inv X pins σ H s):∀ b o,X.base.get? b=some o→s.heap.get? b=some o:=fun b o e=>(I.bs b o e).1
theorem Inv.mod (I:Inv X pins σ H s):Mod X.K X.mg X.base:=I.ok.mod
theorem Inv.kIn (I:Inv X pins σ H s):X.K.In s.heap:=I.ok.mod.kin.keeps I.bk
theorem Inv.fr (I:Inv X pins σ H s):∃ m,Fr X.base X.env.locals s.heap m:=
  let ⟨m,hn,_⟩:=I.loc
  ⟨m,hn,I.bk,Nat.le_trans I.ok.bsz I.ok.above⟩
theorem Inv.lt (I:Inv X pins σ H s):X.env.locals<s.heap.objs.size:=let ⟨_,hn,_⟩:=I.loc;hn.lt
theorem Inv.sz (I:Inv X pins σ H s):X.s₀.heap.objs.size≤s.heap.objs.size:=Nat.le_trans I.ok.above (Nat.le_of_lt I.lt)
theorem Inv.nofs (I:Inv X pins σ H s) {a:Addr} (h:s.heap.objs.size≤a):a∉X.fs:=fun hb=>by
  obtain ⟨_,o,ho,_⟩:=I.ok.funs.mem hb
  exact absurd (Nat.lt_of_lt_of_le (Heap.lt_size ho) (Nat.le_trans I.sz h)) (Nat.lt_irrefl _)
theorem Inv.cne (I:Inv X pins σ H s):∀ x c,X.env.cells.lookup x=some c→c≠X.env.locals:=fun x c e z=>by
  obtain ⟨v,o,ho,hd⟩:=I.cell x c e
  obtain ⟨m,⟨o',es,ep,ho',hd',_⟩,_⟩:=I.loc
  rw [z,ho'] at ho;cases ho;rw [hd'] at hd;cases hd
theorem Inv.funs (I:Inv X pins σ H s):s.heap.FunFrames X.base X.outer:=by
  have all:∀ (l:List Env),(∀ b∈frs l,b∈X.fs)→X.s₀.heap.FunFrames X.base l→s.heap.FunFrames X.base l:=by
    intro l
    induction l with
    | nil=>intro _ _;trivial
    | cons env r ih=>
      intro hs hl
      obtain ⟨hk,⟨L,o,hf,hn,ho,hd⟩,hr⟩:=hl
      have hL:L∈X.fs:=hs L (by unfold frs;rw [List.filterMap_cons,hf];exact List.mem_cons_self)
      obtain ⟨sl,e⟩:=I.base.slot L o ho (I.ok.frf L hL) hL fun z=>I.ok.exfs L z hL
      exact ⟨hk,⟨L,_,hf,hn,e,hd⟩,ih (fun b hb=>hs b (by unfold frs;rw [List.filterMap_cons,hf];exact List.mem_cons_of_mem _ hb)) hr⟩
  exact all X.outer (fun _ hb=>hb) I.ok.funs
theorem Inv.stack (I:Inv X pins σ H s):s.heap.FunFrames X.base X.stack:=by
  rcases I.ok.stk with e | ⟨e,hf⟩
  · rw [e];exact I.funs
  · rw [e]
    obtain ⟨m,hn,_⟩:=I.loc
    refine .cons (by rw [I.ok.kind];decide) hf hn ?_ I.funs
    exact Heap.get?_none_of_le (Nat.le_trans I.ok.bsz I.ok.above)
theorem Inv.stkSub (I:Inv X pins σ H s):∀ b∈frs X.stack,b∈X.env.locals::X.fs:=fun b hb=>by
  rcases I.ok.stk with e | ⟨e,hf⟩
  · rw [e] at hb;exact List.mem_cons_of_mem _ hb
  · rw [e] at hb
    unfold frs at hb
    rw [List.filterMap_cons,hf] at hb
    exact hb
theorem Inv.stkFree (I:Inv X pins σ H s):∀ b∈frs X.stack,H b=none:=fun b hb=>by
  rcases List.mem_cons.mp (I.stkSub b hb) with e | hb
  · rw [e];exact I.free
  · obtain ⟨_,o,ho,_⟩:=I.ok.funs.mem hb
    exact I.base.free b o ho (I.ok.frf b hb) fun z=>I.ok.exfs b z hb
theorem Inv.step {g':Array GenState} {t':Nat} {d':Drawn} {ch:List Addr} (I:Inv X pins σ H s)
    (hch:∀ b∈ch,(b∈X.ex∨X.s₀.heap.objs.size≤b)∧b≠X.env.locals∧(∀ x c,X.env.cells.lookup x=some c→c≠b)∧∀ p∈X.pn++pins,p.1≠b)
    (keep:∀ b o,b≠X.env.locals→b∉X.fs→b∉ch→s.heap.get? b=some o→H b=none→h'.get? b=some o)
    (slot:∀ b o,b≠X.env.locals→b∈X.fs→b∉ch→s.heap.get? b=some o→H b=none→∃ sl,h'.get? b=some { o with slots:=sl }) (free:∀ b o,b∉ch→s.heap.get? b=some o→H b=none→H' b=none)
    (there:∀ b o,b∉ch→s.heap.get? b=some o→∃ o',h'.get? b=some o')
    (tups:∀ b xs,H b=some (.tup xs)→H' b=some (.tup xs)) (frzs:∀ b o u,H b=some (.frz o u)→H' b=some (.frz o u)) (tbls:∀ b ps,H b=some (.tbl ps)→∃ more,H' b=some (.tbl (ps++more)))
    (ns:∀ m,s.heap.Ns X.env.locals m→h'.Ns X.env.locals m) (hok:HOk X.prog X.w H' h') (hg:AllBare g'):
    Inv X pins σ H' { s with heap:=h',gens:=g',drawn:=d',toks:=t' }:=by
  have neL:∀ b o,X.s₀.heap.get? b=some o→b≠X.env.locals:=fun b o e=>Nat.ne_of_lt (Nat.lt_of_lt_of_le (Heap.lt_size e) I.ok.above)
  have neC:∀ b o,X.s₀.heap.get? b=some o→b∉X.ex→b∉ch:=fun b o e hx hb=>by
    rcases (hch b hb).1 with z | z
    · exact hx z
    · exact absurd (Nat.lt_of_lt_of_le (Heap.lt_size e) z) (Nat.lt_irrefl _)
  have cellK:∀ x c,X.env.cells.lookup x=some c→∀ v,s.heap.IsCell c v→h'.IsCell c v:=fun x c e v ⟨o,ho,hd⟩=>by
    have nch:c∉ch:=fun z=>(hch c z).2.2.1 x c e rfl
    by_cases hc:c∈X.fs
    · obtain ⟨sl,q⟩:=slot c o (I.cne x c e) hc nch ho (I.freeC x c e)
      exact ⟨_,q,hd⟩
    · exact ⟨o,keep c o (I.cne x c e) hc nch ho (I.freeC x c e),hd⟩
  refine ⟨I.ok,I.os,hg,⟨fun b o e n hb hx=> ?_,fun b o e n hb hx=> ?_,fun b o e n hx=> ?_,fun b o e hx=> ?_,fun b xs e=>tups b xs (I.base.tups b xs e),fun b o xs e=>frzs b o xs (I.base.frzs b o xs e),fun b ps e=> ?_⟩,?_,fun x c e=> ?_,?_,fun x c e=> ?_,fun p hp=> ?_,hok,I.len⟩
  · exact keep b o (neL b o e) hb (neC b o e hx) (I.base.keep b o e n hb hx) (I.base.free b o e n hx)
  · obtain ⟨sl,e1⟩:=I.base.slot b o e n hb hx
    obtain ⟨sl',e2⟩:=slot b _ (neL b o e) hb (neC b o e hx) e1 (I.base.free b o e n hx)
    exact ⟨sl',e2⟩
  · obtain ⟨o',e1⟩:=I.base.there b o e hx
    exact free b o' (neC b o e hx) e1 (I.base.free b o e n hx)
  · obtain ⟨o',e1⟩:=I.base.there b o e hx
    exact there b o' (neC b o e hx) e1
  · obtain ⟨m1,e1⟩:=I.base.tbls b ps e
    obtain ⟨m2,e2⟩:=tbls b _ e1
    exact ⟨m1++m2,by rw [e2,Array.append_assoc]⟩
  · obtain ⟨m,hn,hl⟩:=I.loc
    refine ⟨m,ns m hn,fun i x v e1 e2 e3=> ?_⟩
    obtain ⟨u,r,l⟩:=hl i x v e1 e2 e3
    refine ⟨u,r,?_⟩
    rcases l with l | ⟨k,c,e,z⟩
    · exact .inl l
    · exact .inr ⟨k,c,e,cellK x c e _ z⟩
  · obtain ⟨v,z⟩:=I.cell x c e
    exact ⟨v,cellK x c e v z⟩
  · obtain ⟨m,⟨o,_,_,ho,_⟩,_⟩:=I.loc
    exact free _ o (fun z=>(hch _ z).2.1 rfl) ho I.free
  · obtain ⟨v,o,ho,hd⟩:=I.cell x c e
    exact free c o (fun z=>(hch c z).2.2.1 x c e rfl) ho (I.freeC x c e)
  · obtain ⟨e,n,ne,nf,d⟩:=I.pin p hp
    have nch:p.1∉ch:=fun z=>(hch p.1 z).2.2.2 p hp rfl
    exact ⟨keep p.1 p.2 ne nf nch e n,free p.1 p.2 nch e n,ne,nf,d⟩
theorem Inv.un {t':Nat} (I:Inv X pins σ H s) (u:Un X.fs [] H H' s.heap h') (hok:HOk X.prog X.w H' h'):Inv X pins σ H' { s with heap:=h',toks:=t' }:=by
  obtain ⟨m,⟨o,es,ep,ho,r⟩,_⟩:=id I.loc
  obtain ⟨sl,hL⟩:=u.any ho I.free (by simp)
  exact I.step (g':=s.gens) (d':=s.drawn) (ch:=[]) (fun _ z=>nomatch z) (fun b o _ hb _ e n=>u.keep b o e n hb (by simp)) (fun b o _ hb _ e n=>u.slot b o e n hb (by simp)) (fun b o _ e n=>u.free b o e n (by simp)) (fun b o _ e=>u.there b o e (by simp)) u.tups u.frzs u.tbls (fun m' hm=>by
    obtain ⟨o',es',ep',ho',r'⟩:=hm
    rw [ho] at ho';cases ho'
    exact ⟨_,es',ep',hL,r'⟩) hok I.bare
theorem Inv.call {g':Array GenState} {t':Nat} {d':Drawn} {ch:List Addr} (I:Inv X pins σ H s) (u:Un (frs X.stack) ch H H' s.heap h') (hok:HOk X.prog X.w H' h') (hg:AllBare g')
    (hch:∀ b∈ch,(b∈X.ex∨X.s₀.heap.objs.size≤b)∧b≠X.env.locals∧(∀ x c,X.env.cells.lookup x=some c→c≠b)∧∀ p∈X.pn++pins,p.1≠b):
    Inv X pins σ H' { s with heap:=h',gens:=g',drawn:=d',toks:=t' }:=by
  obtain ⟨m,⟨o,es,ep,ho,r⟩,_⟩:=id I.loc
  obtain ⟨sl,hL⟩:=u.any ho I.free fun z=>(hch _ z).2.1 rfl
  exact I.step (ch:=ch) hch (fun b o hL hb hc e n=>u.keep b o e n (fun z=>(List.mem_cons.mp (I.stkSub b z)).elim hL hb) hc) (fun b o _ _ hc e n=>u.any e n hc) (fun b o hc e n=>u.free b o e n hc) (fun b o hc e=>u.there b o e hc) u.tups u.frzs u.tbls (fun m' hm=>by
    obtain ⟨o',es',ep',ho',r'⟩:=hm
    rw [ho] at ho';cases ho'
    exact ⟨_,es',ep',hL,r'⟩) hok hg
theorem Inv.turned {t':Nat} {it:Addr} (I:Inv X pins σ H s) (k:∀ b o,b≠it→s.heap.get? b=some o→h'.get? b=some o) (hn:H it=none) (hL:it≠X.env.locals)
    (h1:it∈X.ex∨X.s₀.heap.objs.size≤it) (h2:∀ x c,X.env.cells.lookup x=some c→c≠it) (h3:∀ p∈X.pn++pins,p.1≠it):Inv X pins σ H { s with heap:=h',toks:=t' }:=by
  have nit:∀ b u,H b=some u→b≠it:=fun b u e z=>by rw [z,hn] at e;cases e
  refine I.step (g':=s.gens) (d':=s.drawn) (ch:=[it]) (fun b hb=> ?_) (fun b o _ _ hc e _=>k b o (fun z=>hc (by simp [z])) e) (fun b o _ _ hc e _=>⟨o.slots,k b o (fun z=>hc (by simp [z])) e⟩) (fun _ _ _ _ n=>n)
    (fun b o hc e=>⟨o,k b o (fun z=>hc (by simp [z])) e⟩) (fun _ _ e=>e) (fun _ _ _ e=>e) (fun b ps e=>⟨#[],by rw [e];simp⟩) (fun m hm=> ?_) (fun b u e=> ?_) I.bare
  · have e:b=it:=by simpa using hb
    subst e
    exact ⟨h1,hL,h2,h3⟩
  · obtain ⟨o,es,ep,ho,r⟩:=hm
    exact ⟨o,es,ep,k _ o (Ne.symm hL) ho,r⟩
  · refine (I.hok b u e).stay (fun c v hc q=>k c v ?_ q) (fun _ q=>q) fun _ _ q=>q
    rcases hc with z | z
    · rw [z];exact nit b u e
    · exact nit c _ z
theorem Inv.tok (I:Inv X pins σ H s) (t:Nat):Inv X pins σ H { s with toks:=t }:=I.un (h':=s.heap) (t':=t) Un.refl I.hok
theorem Inv.kept {t':Nat} (I:Inv X pins σ H s) (k:∀ b u,s.heap.get? b=some u→h'.get? b=some u):Inv X pins σ H { s with heap:=h',toks:=t' }:=I.un (Un.kept k) (I.hok.kept k)
theorem Inv.laid {a:Addr} {o:HO} {t':Nat} (I:Inv X pins σ H s) (k:∀ b u,s.heap.get? b=some u→h'.get? b=some u) (hp:s.heap.objs.size≤a) (new:ObjOk X.prog X.w (upd H a o) h' a o):
    Inv X pins σ (upd H a o) { s with heap:=h',toks:=t' }:=I.un (Un.laid k hp (I.hok.fresh hp)) (I.hok.laid k hp new)
theorem Inv.write {x e:Addr} {o:HO} {t':Nat} (I:Inv X pins σ H s) (mu:Mut (H x)) (he:e=x∨H e=some (.own x)) (k:∀ b u,b≠e→s.heap.get? b=some u→h'.get? b=some u) (heo:∃ u,h'.get? e=some u)
    (new:ObjOk X.prog X.w (upd H x o) h' x o):Inv X pins σ (upd H x o) { s with heap:=h',toks:=t' }:=I.un (Un.write mu he k heo) (I.hok.write mu he k heo new)
theorem Inv.weak {σ':List (Option V)} (I:Inv X pins σ H s) (hl:σ'.length=σ.length) (w:∀ (i:Nat) v,σ'[i]?=some (some v)→σ[i]?=some (some v)):Inv X pins σ' H s:=
  ⟨I.ok,I.os,I.bare,I.base,let ⟨m,hn,hl'⟩:=I.loc;⟨m,hn,fun i x v e1 e2 e3=>hl' i x v e1 (w i v e2) e3⟩,I.cell,I.free,I.freeC,I.pin,I.hok,hl.trans I.len⟩
theorem Inv.pins_of {pins':List (Addr × Obj)} (I:Inv X pins σ H s) (h:∀ p∈pins',s.heap.get? p.1=some p.2∧H p.1=none∧p.1≠X.env.locals∧p.1∉X.fs∧∀ v,p.2.data≠ .cell v):Inv X pins' σ H s:=
  ⟨I.ok,I.os,I.bare,I.base,I.loc,I.cell,I.free,I.freeC,fun p hp=>(List.mem_append.mp hp).elim (fun z=>I.pin p (List.mem_append_left _ z)) (h p),I.hok,I.len⟩
theorem nodup_ix {N:List Str} (hN:N.Nodup) {i j:Nat} {x:Str} (a:N[i]?=some x) (b:N[j]?=some x):i=j:=by
  obtain ⟨h1,e1⟩:=List.getElem?_eq_some_iff.mp a
  obtain ⟨h2,e2⟩:=List.getElem?_eq_some_iff.mp b
  exact (List.getElem_inj hN).mp (e1.trans e2.symm)
theorem store_ok2 {M:Model} {A:Around} {E:Value→Shared→Prop} {i:Nat} {x:Str} {v:V} {u:Value} {Q:Unit→Shared→Prop} (I:Inv X pins σ H s) (hN:X.N.Nodup) (hi:X.N[i]?=some x) (hx:Loc X.env.scope x) (r:RelV v u)
    (h:∀ s',Inv X pins (σ.set i (some v)) H s'→(∃ a,Heap.SameBut a s.heap s'.heap∧(a=X.env.locals∨X.env.cells.lookup x=some a))→Q () s') (hf:X.fn x=true∨X.env.scope.names.lookup x=some .local:=by first | exact .inl rfl | exact .inr rfl | assumption):wpAny M A (storeName X.env x u) Q E s:=by
  obtain ⟨m,hn,hl⟩:=id I.loc
  have hcls:(X.env.scope.kind == .class||(X.env.scope.kind == .module&&X.env.locals != X.env.globals))=false:=by rw [I.ok.kind];rfl
  have hiσ:i<σ.length:=by rw [I.len];exact (List.getElem?_eq_some_iff.mp hi).1
  have cne:=I.cne
  have tracked:∀ {a:Addr} {h':Heap},(∃ o,s.heap.get? a=some o∧H a=none)→Heap.SameBut a s.heap h'→HOk X.prog X.w H h':=fun {a h'} ha hs b ob e=>by
    obtain ⟨_,_,hfree⟩:=ha
    refine (I.hok b ob e).stay (fun c w' hc q=>(hs.2 c ?_).trans q) (fun _ q=>q) fun _ _ q=>q
    rintro rfl
    rcases hc with rfl | hc
    · rw [hfree] at e;cases e
    · rw [hfree] at hc;cases hc
  rcases hx with hk | hk
  · refine wpAny_storeName_local hk hn (fun h' hn' hs=> ?_) hcls
    obtain ⟨oL,_,_,hoL,_⟩:=id hn
    refine h _ ⟨I.ok,I.os,I.bare,⟨fun b o e n hb hx=> ?_,fun b o e n hb hx=> ?_,I.base.free,fun b o e hx=> ?_,I.base.tups,I.base.frzs,I.base.tbls⟩,⟨_,hn',fun j y v' e1 e2 e3=> ?_⟩,fun y c e=> ?_,I.free,I.freeC,fun p hp=> ?_,tracked ⟨oL,hoL,I.free⟩ hs,by simpa using I.len⟩ ⟨_,hs, .inl rfl⟩
    · exact (hs.2 b (Nat.ne_of_lt (Nat.lt_of_lt_of_le (Heap.lt_size e) I.ok.above))).trans (I.base.keep b o e n hb hx)
    · obtain ⟨sl,e1⟩:=I.base.slot b o e n hb hx
      exact ⟨sl,(hs.2 b (Nat.ne_of_lt (Nat.lt_of_lt_of_le (Heap.lt_size e) I.ok.above))).trans e1⟩
    · obtain ⟨o',e1⟩:=I.base.there b o e hx
      exact ⟨o',(hs.2 b (Nat.ne_of_lt (Nat.lt_of_lt_of_le (Heap.lt_size e) I.ok.above))).trans e1⟩
    · by_cases hj:j=i
      · subst hj
        rw [hi] at e1;cases e1
        rw [List.getElem?_set_self hiσ] at e2
        cases e2
        exact ⟨u,r, .inl ⟨hk,by simp⟩⟩
      · rw [List.getElem?_set_ne (Ne.symm hj)] at e2
        obtain ⟨u',r',q⟩:=hl j y v' e1 e2 e3
        refine ⟨u',r',?_⟩
        rcases q with ⟨k,e⟩ | ⟨k,c,e,z⟩
        · refine .inl ⟨k,?_⟩
          have:y≠x:=fun e=>hj (nodup_ix hN e1 (e▸hi))
          simp [this,e]
        · exact .inr ⟨k,c,e,z.sameBut hs (cne y c e)⟩
    · obtain ⟨w',z⟩:=I.cell y c e
      exact ⟨w',z.sameBut hs (cne y c e)⟩
    · obtain ⟨e,n,ne,nf,d⟩:=I.pin p hp
      exact ⟨(hs.2 p.1 ne).trans e,n,ne,nf,d⟩
  · have hfn:X.fn x=true:=by
      rcases hf with z | z
      · exact z
      · rw [z] at hk;cases hk
    obtain ⟨c,hc⟩:=I.ok.has x (.inl hk)
    obtain ⟨w',z⟩:=I.cell x c hc
    refine wpAny_storeName_cell I.ok.kind hk hc z (fun h' hc' hs=> ?_)
    obtain ⟨oc,hoc,hocd⟩:=id z
    refine h { s with heap:=h' } ⟨I.ok,I.os,I.bare,⟨fun b o e n hb hx=> ?_,fun b o e n hb hx=> ?_,I.base.free,fun b o e hx=> ?_,I.base.tups,I.base.frzs,I.base.tbls⟩,⟨m,hn.sameBut hs (Ne.symm (cne x c hc)),fun j y v' e1 e2 e3=> ?_⟩,fun y c' e=> ?_,I.free,I.freeC,fun p hp=> ?_,tracked ⟨oc,hoc,I.freeC x c hc⟩ hs,by simpa using I.len⟩ ⟨c,hs, .inr hc⟩
    · exact (hs.2 b (Nat.ne_of_lt (Nat.lt_of_lt_of_le (Heap.lt_size e) (I.ok.cab x c hfn hc)))).trans (I.base.keep b o e n hb hx)
    · obtain ⟨sl,e1⟩:=I.base.slot b o e n hb hx
      exact ⟨sl,(hs.2 b (Nat.ne_of_lt (Nat.lt_of_lt_of_le (Heap.lt_size e) (I.ok.cab x c hfn hc)))).trans e1⟩
    · obtain ⟨o',e1⟩:=I.base.there b o e hx
      exact ⟨o',(hs.2 b (Nat.ne_of_lt (Nat.lt_of_lt_of_le (Heap.lt_size e) (I.ok.cab x c hfn hc)))).trans e1⟩
    · by_cases hj:j=i
      · subst hj
        rw [hi] at e1;cases e1
        rw [List.getElem?_set_self hiσ] at e2
        cases e2
        exact ⟨u,r, .inr ⟨.inl hk,c,hc,hc'⟩⟩
      · rw [List.getElem?_set_ne (Ne.symm hj)] at e2
        obtain ⟨u',r',q⟩:=hl j y v' e1 e2 e3
        refine ⟨u',r',?_⟩
        rcases q with q | ⟨k,c',e,z'⟩
        · exact .inl q
        · refine .inr ⟨k,c',e,z'.sameBut hs ?_⟩
          rintro rfl
          exact hj (nodup_ix hN e1 (I.ok.inj _ _ _ e hc▸hi))
    · by_cases hcc:c'=c
      · subst hcc;exact ⟨_,hc'⟩
      · obtain ⟨w2,z2⟩:=I.cell y c' e
        exact ⟨w2,z2.sameBut hs hcc⟩
    · obtain ⟨e,n,ne,nf,d⟩:=I.pin p hp
      refine ⟨(hs.2 p.1 ?_).trans e,n,ne,nf,d⟩
      intro q
      rw [q,hoc] at e
      have q':oc=p.2:=Option.some.inj e
      exact d w' (by rw [← q'];exact hocd)
theorem store_ok {M:Model} {A:Around} {E:Value→Shared→Prop} {i:Nat} {x:Str} {v:V} {u:Value} {Q:Unit→Shared→Prop} (I:Inv X pins σ H s) (hN:X.N.Nodup) (hi:X.N[i]?=some x) (hx:Loc X.env.scope x) (r:RelV v u)
    (h:∀ s',Inv X pins (σ.set i (some v)) H s'→Q () s') (hf:X.fn x=true∨X.env.scope.names.lookup x=some .local:=by first | exact .inl rfl | exact .inr rfl | assumption):wpAny M A (storeName X.env x u) Q E s:=
  store_ok2 I hN hi hx r (fun s' I' _=>h s' I') hf
theorem Inv.call' {s':Shared} {ch:List Addr} (I:Inv X pins σ H s) (ho:s'.os=s.os) (u:Un (frs X.stack) ch H H' s.heap s'.heap) (hok:HOk X.prog X.w H' s'.heap) (hg:AllBare s'.gens)
    (hch:∀ b∈ch,(b∈X.ex∨X.s₀.heap.objs.size≤b)∧b≠X.env.locals∧(∀ x c,X.env.cells.lookup x=some c→c≠b)∧∀ p∈X.pn++pins,p.1≠b):Inv X pins σ H' s':=by
  obtain ⟨h',g',d',t',o'⟩:=s'
  have e:o'=s.os:=ho
  subst e
  exact I.call (g':=g') (t':=t') (d':=d') u hok hg hch
end
abbrev XK:=Value→Option Addr→Hp→Prop
abbrev St:=List (Option V)
abbrev VK:=V→Hp→Prop
abbrev TE:=St→Hp→VK→Prop
abbrev TT:=St→Hp→(Bool→Hp→Prop)→Prop
abbrev TA:=St→Hp→(List V→Hp→Prop)→Prop
structure Ends where
  nx:St→Hp→Prop
  rt:VK
  bk:St→Hp→Prop:=fun _ _=>False
  ct:St→Hp→Prop:=fun _ _=>False
abbrev TS:=Ends→St→Hp→Prop
def EP (X:Cx) (pins:List (Addr × Obj)) (σ:St) (Q:VK) (u:Value) (s':Shared):Prop:=∃ v H',Inv X pins σ H' s'∧RelV v u∧Q v H'
def TP (X:Cx) (pins:List (Addr × Obj)) (σ:St) (Q:Bool→Hp→Prop) (b:Bool) (s':Shared):Prop:=∃ H',Inv X pins σ H' s'∧Q b H'
def AP (X:Cx) (pins:List (Addr × Obj)) (σ:St) (Q:List V→Hp→Prop) (us:List Value) (s':Shared):Prop:=∃ vs H',Inv X pins σ H' s'∧Vals vs us∧Q vs H'
def SP (X:Cx) (pins:List (Addr × Obj)) (D:Ends) (f:Flow) (s':Shared):Prop:=
  match f with
  | .next=>∃ σ' H',Inv X pins σ' H' s'∧D.nx σ' H'
  | .brk=>∃ σ' H',Inv X pins σ' H' s'∧D.bk σ' H'
  | .cont=>∃ σ' H',Inv X pins σ' H' s'∧D.ct σ' H'
  | .ret u=>∃ v σ' H',Inv X pins σ' H' s'∧RelV v u∧D.rt v H'
def PE (X:Cx) (e:Expr) (t:TE):Prop:=
  ∀ (pins:List (Addr × Obj)) (s:Shared) (σ:St) (H:Hp) (Q:VK),Inv X pins σ H s→t σ H Q→wpAny (model X.prog X.w) X.A (eval e X.env) (EP X pins σ Q) X.xe s
def PT (X:Cx) (e:Expr) (t:TT):Prop:=
  ∀ (pins:List (Addr × Obj)) (s:Shared) (σ:St) (H:Hp) (Q:Bool→Hp→Prop),Inv X pins σ H s→t σ H Q→wpAny (model X.prog X.w) X.A (isTrue e X.env (eval e X.env)) (TP X pins σ Q) X.xe s
def PW (X:Cx) (e:Expr) (t:TT):Prop:=
  ∀ (whole:Sem Value) (pins:List (Addr × Obj)) (s:Shared) (σ:St) (H:Hp) (Q:Bool→Hp→Prop),Inv X pins σ H s→t σ H Q→wpAny (model X.prog X.w) X.A (isTrue e X.env whole) (TP X pins σ Q) X.xe s
theorem PW.pt {X:Cx} {e:Expr} {t:TT} (h:PW X e t):PT X e t:=h _
def PA (X:Cx) (es:List Expr) (t:TA):Prop:=
  ∀ (pos:Pos) (pins:List (Addr × Obj)) (s:Shared) (σ:St) (H:Hp) (Q:List V→Hp→Prop),Inv X pins σ H s→t σ H Q→wpAny (model X.prog X.w) X.A (spliced (backTo pos (starEach es X.env))) (AP X pins σ Q) X.xe s
def PS (X:Cx) (st:Stmt) (t:TS):Prop:=
  ∀ (pins:List (Addr × Obj)) (s:Shared) (σ:St) (H:Hp) (D:Ends),Inv X pins σ H s→t D σ H→wpAny (model X.prog X.w) X.A (exec st X.env) (SP X pins D) X.xe s
def PSs (X:Cx) (st:List Stmt) (t:TS):Prop:=
  ∀ (pins:List (Addr × Obj)) (s:Shared) (σ:St) (H:Hp) (D:Ends),Inv X pins σ H s→t D σ H→wpAny (model X.prog X.w) X.A (execs st X.env) (SP X pins D) X.xe s
theorem thn {α:Type} {t:Sem α} {Q Q':α→Shared→Prop} {M:Model} {A:Around} {E:Value→Shared→Prop} {s:Shared} (h:wpAny M A t Q E s) (hQ:∀ a s,Q a s→Q' a s):wpAny M A t Q' E s:=wpAny_mono h hQ fun _ _ x=>x
end L2
namespace L2
open PySem PySem.Spec PyProof.Rows
section
variable {X:Cx}
theorem bin {a b:Expr} {ta tb:TE} (ha:PE X a ta) (hb:PE X b tb) {pins:List (Addr × Obj)} {s:Shared} {σ:St} {H:Hp} {R:V→V→Hp→Prop} (I:Inv X pins σ H s) (h:ta σ H fun x H1=>tb σ H1 fun y H2=>R x y H2)
    {α:Type} {Q:α→Shared→Prop} {f:Value→Value→Sem α}
    (hf:∀ v u s2 x y H2,Inv X pins σ H2 s2→RelV x v→RelV y u→R x y H2→wpAny (model X.prog X.w) X.A (f v u) Q X.xe s2):
    wpAny (model X.prog X.w) X.A (eval a X.env) (fun v s₁=>wpAny (model X.prog X.w) X.A (eval b X.env) (fun u s₂=>wpAny (model X.prog X.w) X.A (f v u) Q X.xe s₂) X.xe s₁) X.xe s:=by
  refine thn (ha pins s σ H _ I h) fun v s1 ⟨x,H1,I1,r1,q1⟩=> ?_
  refine thn (hb pins s1 σ H1 _ I1 q1) fun u s2 ⟨y,H2,I2,r2,q2⟩=> ?_
  exact hf v u s2 x y H2 I2 r1 r2 q2
def tVar (i:Nat):TE:=fun σ H Q=>∃ v,σ[i]?=some (some v)∧Q v H
def tC (v:V):TE:=fun _ H Q=>Q v H
theorem pe_var {i:Nat} {x:Str} {pos:Pos} (hN:X.N[i]?=some x) (hv:Vis X.env.scope x) (hd:(x == ("__debug__":Str))=false:=by decide) (hcd:(x == ("__classdict__":Str))=false:=by decide):PE X (.Name x pos) (tVar i):=by
  intro pins s σ H Q I h
  obtain ⟨v,e,h⟩:=h
  obtain ⟨m,hn,hl⟩:=I.loc
  obtain ⟨u,r,l⟩:=hl i x v hN e hv
  have fin:EP X pins σ Q u s:=⟨v,H,I,r,h⟩
  rcases l with ⟨hk,hm⟩ | ⟨hk,c,hc,hcell⟩
  · exact wpAny_Name (wpAny_loadName_local I.ok.kind hk hn hm fin) hd
  · rcases hk with hk | hk
    · exact wpAny_Name (wpAny_loadName_cell I.ok.kind hk hc hcell fin) hd
    · exact wpAny_Name (wpAny_loadName_free I.ok.kind hk hc hcell fin hcd) hd
theorem pe_int {i j pos}:PE X (.Constant (.int i) j pos) (tC (.int i)):=fun _ _ _ H _ I h=>wpAny_Constant_int ⟨.int i,H,I.tok _,⟨_,rfl⟩,h⟩
theorem pe_bl {b j pos}:PE X (.Constant (.bool b) j pos) (tC (.bl b)):=fun _ _ _ H _ I h=>Constant_bool ⟨.bl b,H,I,rfl,h⟩
theorem pe_non {j pos}:PE X (.Constant .none j pos) (tC .non):=fun _ _ _ H _ I h=>Constant_none ⟨.non,H,I,rfl,h⟩
theorem pe_str {x j pos}:PE X (.Constant (.str x) j pos) (tC (.str x)):=fun _ _ _ H _ I h=>Calls.Constant_str ⟨.str x,H,I.tok _,⟨_,rfl⟩,h⟩
def Gl (X:Cx) (x:Str):Prop:=X.env.kindOf x=some .globalImplicit
theorem ld_glob {E:Value→Shared→Prop} {pins:List (Addr × Obj)} {s:Shared} {σ:St} {H:Hp} {x:Str} {u:Value} {pos:Pos} {Q:Value→Shared→Prop} (I:Inv X pins σ H s) (hg:Gl X x) (hm:X.mg x=some u) (h:Q u s)
    (hd:(x == ("__debug__":Str))=false:=by decide):wpAny (model X.prog X.w) X.A (eval (.Name x pos) X.env) Q E s:=
  Calls.Name_function_global I.ok.kind hg (Calls.loadGlobal_global (by rw [I.ok.glob];exact I.mod.glob.keeps I.bk) hm h) hd
theorem ld_blt {E:Value→Shared→Prop} {pins:List (Addr × Obj)} {s:Shared} {σ:St} {H:Hp} {x:Str} {u:Value} {pos:Pos} {Q:Value→Shared→Prop} (I:Inv X pins σ H s) (hg:Gl X x) (hm:X.mg x=none) (hv:bootBuiltins x=some u) (h:Q u s)
    (hn:x≠"__name__":=by decide) (hd:(x == ("__debug__":Str))=false:=by decide):wpAny (model X.prog X.w) X.A (eval (.Name x pos) X.env) Q E s:=by
  obtain ⟨mb,h1,h2⟩:=I.mod.blt
  exact Calls.Name_function_global I.ok.kind hg (Calls.loadGlobal_builtin (by rw [I.ok.glob];exact I.mod.glob.keeps I.bk) hm (by rw [I.ok.blt];exact h1.keeps I.bk) ((h2 x hn).trans hv) h) hd
theorem pe_glob {x:Str} {v:V} {u:Value} {pos:Pos} (hg:Gl X x) (hm:X.mg x=some u) (r:RelV v u) (hd:(x == ("__debug__":Str))=false:=by decide):PE X (.Name x pos) (tC v):=
  fun _ _ _ H _ I h=>ld_glob I hg hm ⟨v,H,I,r,h⟩ hd
theorem pe_bltn {x:Str} {v:V} {u:Value} {pos:Pos} (hg:Gl X x) (hm:X.mg x=none) (hv:bootBuiltins x=some u) (r:RelV v u) (hn:x≠"__name__":=by decide) (hd:(x == ("__debug__":Str))=false:=by decide):PE X (.Name x pos) (tC v):=
  fun _ _ _ H _ I h=>ld_blt I hg hm hv ⟨v,H,I,r,h⟩ hn hd
variable {a b:Expr} {ta tb:TE} {pos:Pos}
def PC (X:Cx) (op:CmpOp) (a b:Expr) (t:TE):Prop:=
  ∀ (pins:List (Addr × Obj)) (s:Shared) (σ:St) (H:Hp) (Q:VK),Inv X pins σ H s→t σ H Q→
    wpAny (model X.prog X.w) X.A (eval a X.env) (fun v s₁=>wpAny (model X.prog X.w) X.A (eval b X.env) (fun u s₂=>wpAny (model X.prog X.w) X.A (compareOp op v u) (EP X pins σ Q) X.xe s₂) X.xe s₁) X.xe s
theorem nobehind (b:Expr) {op:CmpOp} (h:op≠ .In) (h2:op≠ .NotIn):behindInMarks op b=false:=by
  have e1:(op == CmpOp.In)=false:=by cases op <;> first | rfl | exact absurd rfl h
  have e2:(op == CmpOp.NotIn)=false:=by cases op <;> first | rfl | exact absurd rfl h2
  cases b <;> simp [behindInMarks,e1,e2]
def tB (t:TE):TT:=fun σ H Q=>t σ H fun x H1=>∃ c,x= .bl c∧Q c H1
theorem pt_cmp {op:CmpOp} {t:TE} (h:PC X op a b t) (h1:behindInMarks op b=false:=by first | exact nobehind _ (by decide) (by decide) | rfl):PT X (.Compare a [op] [b] pos) (tB t):=by
  intro pins s σ H Q I hw
  refine wpAny_isTrue_Compare1 (thn (h pins s σ H _ I hw) fun v s1 h1=>thn h1 fun u s2 h2=>thn h2 fun c s3 ⟨x,H1,I1,r1,q1⟩=> ?_) h1
  obtain ⟨d,rfl,q⟩:=q1
  cases r1
  exact wpAny_truthy_bool ⟨H1,I1,q⟩
theorem pt_val {e:Expr} {t:TE} (h:PE X e t) (he:∀ whole,isTrue e X.env whole=(do let v ← whole;standAt e.pos;holding [v] (truthy v)):=by intro _;rfl):PT X e (tB t):=by
  intro pins s σ H Q I hw
  refine isTrue_plain (thn (h pins s σ H _ I hw) fun v s1 ⟨x,H1,I1,r1,q1⟩=> ?_) (he _)
  obtain ⟨d,rfl,q⟩:=q1
  cases r1
  exact wpAny_truthy_bool ⟨H1,I1,q⟩
variable {tA tB':TT} {rest:List Expr}
def tOr (t u:TT):TT:=fun σ H Q=>t σ H fun c H1=>if c=true then Q true H1 else u σ H1 Q
def tNot (t:TT):TT:=fun σ H Q=>t σ H fun c H1=>Q (!c) H1
theorem pw_or1 (ha:PT X a tA):PW X (.BoolOp .Or [a] pos) tA:=by
  intro wh pins s σ H Q I h
  refine isTrue_or (thn (ha pins s σ H Q I h) fun c s1 e=> ?_)
  cases c with
  | false=>exact isTrue_or_nil e
  | true=>exact e
theorem pw_or (ha:PT X a tA) (hb:PW X (.BoolOp .Or (b::rest) pos) tB'):PW X (.BoolOp .Or (a::b::rest) pos) (tOr tA tB'):=by
  intro wh pins s σ H Q I h
  refine isTrue_or (thn (ha pins s σ H _ I h) fun c s1 ⟨H1,I1,q1⟩=> ?_)
  cases c with
  | true=>exact ⟨H1,I1,q1⟩
  | false=>exact hb wh pins s1 σ H1 Q I1 q1
theorem pt_not (ha:PT X a tA):PT X (.UnaryOp .Not a pos) (tNot tA):=by
  intro pins s σ H Q I h
  exact isTrue_not (ha pins s σ H (fun c H1=>Q (!c) H1) I h)
def tAndV (ta tb:TE):TE:=fun σ H Q=>ta σ H fun x H1=>∃ c,x= .bl c∧if c=true then tb σ H1 Q else Q (.bl false) H1
def tNotV (ta:TE):TE:=fun σ H Q=>ta σ H fun x H1=>∃ c,x= .bl c∧Q (.bl (!c)) H1
theorem pe_one {op} {t:TE} (h:PE X a t):PE X (.BoolOp op [a] pos) t:=fun pins s σ H Q I hw=>BoolOp_one (h pins s σ H Q I hw)
theorem pe_and (ha:PE X a ta) (hb:PE X (.BoolOp .And (b::rest) pos) tb):PE X (.BoolOp .And (a::b::rest) pos) (tAndV ta tb):=by
  intro pins s σ H Q I h
  refine BoolOp_and (thn (ha pins s σ H _ I h) fun v s1 ⟨x,H1,I1,r1,q1⟩=> ?_)
  obtain ⟨c,rfl,q1⟩:=q1
  cases r1
  refine wpAny_truthy_bool ?_
  cases c with
  | true=>exact hb pins s1 σ H1 Q I1 q1
  | false=>exact ⟨.bl false,H1,I1,rfl,q1⟩
theorem pe_not (ha:PE X a ta):PE X (.UnaryOp .Not a pos) (tNotV ta):=by
  intro pins s σ H Q I h
  refine UnaryOp_ (thn (ha pins s σ H _ I h) fun v s1 ⟨x,H1,I1,r1,q1⟩=> ?_)
  obtain ⟨c,rfl,q1⟩:=q1
  cases r1
  exact not_of (wpAny_truthy_bool ⟨.bl (!c),H1,I1,rfl,q1⟩)
def tIf (t:TT) (ta tb:TE):TE:=fun σ H Q=>t σ H fun c H1=>if c=true then ta σ H1 Q else tb σ H1 Q
theorem pe_ifExp {c:Expr} (hc:PT X c tA) (ha:PE X a ta) (hb:PE X b tb):PE X (.IfExp c a b pos) (tIf tA ta tb):=by
  intro pins s σ H Q I h
  refine wpAny_IfExp (thn (hc pins s σ H _ I h) fun d s1 ⟨H1,I1,q1⟩=> ?_)
  cases d with
  | true=>exact ha pins s1 σ H1 Q I1 q1
  | false=>exact hb pins s1 σ H1 Q I1 q1
end
end L2
namespace L2
open PySem PySem.Spec PyProof.Rows
def SqL (K:PySem.W.Frag) (H:Hp) (a:Addr) (xs:List V):Prop:=
  Rd H a (.lst xs)∨
    ∃ (o:Obj) (its:Array Value) (n:Nat),K.lookup a=some o∧o.cls= .type "list"∧o.dict=none∧o.data= .seq its n∧its.size≤sizeLine∧Vals xs its.toList
def SqT (K:PySem.W.Frag) (H:Hp) (a:Addr) (xs:List V):Prop:=
  Rd H a (.tup xs)∨
    ∃ (o:Obj) (its:Array Value) (n:Nat),K.lookup a=some o∧o.cls= .type "tuple"∧o.data= .seq its n∧its.size≤sizeLine∧Vals xs its.toList
def absV:Value→Option V
  | .none=>some .non
  | .bool b=>some (.bl b)
  | .int i _=>some (.int i)
  | .str x _=>some (.str x)
  | .bytes b _=>some (.byt b)
  | .float b _=>some (.flt b)
  | .ref a=>some (.ref a)
  | .type n=>some (.ty n)
  | _=>none
theorem RelV.abs {x:V} {u:Value} (r:RelV x u):absV u=some x:=by
  cases x with
  | non=>cases r;rfl
  | bl _=>cases r;rfl
  | int _=>obtain ⟨t,rfl⟩:=r;rfl
  | str _=>obtain ⟨t,rfl⟩:=r;rfl
  | byt _=>obtain ⟨t,rfl⟩:=r;rfl
  | flt _=>obtain ⟨t,rfl⟩:=r;rfl
  | ref _=>cases r;rfl
  | ty _=>cases r;rfl
theorem RelV.inj {x y:V} {u:Value} (r:RelV x u) (q:RelV y u):x=y:=Option.some.inj (r.abs.symm.trans q.abs)
theorem Vals.inj:∀ {xs ys:List V} {us:List Value},Vals xs us→Vals ys us→xs=ys
  | _,_,_, .nil, .nil=>rfl
  | _,_,_, .cons r t, .cons r' t'=>by rw [r.inj r',Vals.inj t t']
section
variable {X:Cx} {pins:List (Addr × Obj)} {σ:St} {H:Hp} {s:Shared} {a:Addr} {xs ys:List V}
theorem SqL.of {K:PySem.W.Frag} (h:H a=some (.lst xs)):SqL K H a xs:= .inl (.inl h)
theorem SqT.of {K:PySem.W.Frag} (h:H a=some (.tup xs)):SqT K H a xs:= .inl (.inl h)
theorem Inv.list (I:Inv X pins σ H s) (h:SqL X.K H a xs):∃ its:List Value,Vals xs its∧PlainL s.heap a its.toArray∧xs.length≤sizeLine:=by
  rcases h with h | ⟨o,its,n,hk,hc,hd,hs,hz,r⟩
  · obtain ⟨z,its,n,r,e⟩:=h.ok I.hok
    exact ⟨its,r,⟨_,n,e,rfl,rfl,rfl⟩,z⟩
  · refine ⟨its.toList,r,⟨o,n,I.kIn a o hk,hc,hd,by simpa using hs⟩,?_⟩
    have e:=r.length
    simp only [Array.length_toList] at e
    omega
theorem Inv.tuple (I:Inv X pins σ H s) (h:SqT X.K H a xs):∃ its:List Value,Vals xs its∧IsTup s.heap a its.toArray∧xs.length≤sizeLine:=by
  rcases h with h | ⟨o,its,n,hk,hc,hs,hz,r⟩
  · obtain ⟨z,its,r,p⟩:=h.ok I.hok
    exact ⟨its,r,p,z⟩
  · refine ⟨its.toList,r,⟨o,I.kIn a o hk,hc,n,by simpa using hs⟩,?_⟩
    have e:=r.length
    simp only [Array.length_toList] at e
    omega
theorem Inv.list_inj (I:Inv X pins σ H s) (h:SqL X.K H a xs) (h':SqL X.K H a ys):xs=ys:=by
  obtain ⟨its,r,⟨o,n,e,_,_,d⟩,_⟩:=I.list h
  obtain ⟨its',r',⟨o',n',e',_,_,d'⟩,_⟩:=I.list h'
  rw [e] at e';cases e'
  rw [d] at d'
  injection d' with d1 _
  have:its=its':=by simpa using congrArg Array.toList d1
  subst this
  exact r.inj r'
theorem Inv.tuple_inj (I:Inv X pins σ H s) (h:SqT X.K H a xs) (h':SqT X.K H a ys):xs=ys:=by
  obtain ⟨its,r,⟨o,e,_,n,d⟩,_⟩:=I.tuple h
  obtain ⟨its',r',⟨o',e',_,n',d'⟩,_⟩:=I.tuple h'
  rw [e] at e';cases e'
  rw [d] at d'
  injection d' with d1 _
  have:its=its':=by simpa using congrArg Array.toList d1
  subst this
  exact r.inj r'
end
abbrev Cx.wish (X:Cx) (E:Value→Shared→Prop):Cx:={ X with xe:=E }
abbrev Cx.nox (X:Cx):Cx:=X.wish fun _ _=>False
theorem Cx.Ok.wish {X:Cx} (ok:X.Ok) (E:Value→Shared→Prop):(X.wish E).Ok:=
  ⟨ok.mod,ok.kind,ok.glob,ok.blt,ok.above,ok.inj,ok.has,ok.cab,ok.hd,ok.frames,ok.stk,ok.exf,ok.bs,ok.bsz,ok.noex,ok.exfs,ok.funs,ok.frf⟩
theorem Cx.Ok.unwish {X:Cx} {E:Value→Shared→Prop} (ok:(X.wish E).Ok):X.Ok:=
  ⟨ok.mod,ok.kind,ok.glob,ok.blt,ok.above,ok.inj,ok.has,ok.cab,ok.hd,ok.frames,ok.stk,ok.exf,ok.bs,ok.bsz,ok.noex,ok.exfs,ok.funs,ok.frf⟩
section
variable {X:Cx} {pins:List (Addr × Obj)} {σ:St} {H:Hp} {s:Shared} {E:Value→Shared→Prop}
theorem Inv.wish (I:Inv X pins σ H s) (E:Value→Shared→Prop):Inv (X.wish E) pins σ H s:=⟨I.ok.wish E,I.os,I.bare,I.base,I.loc,I.cell,I.free,I.freeC,I.pin,I.hok,I.len⟩
theorem Inv.unwish (I:Inv (X.wish E) pins σ H s):Inv X pins σ H s:=⟨I.ok.unwish,I.os,I.bare,I.base,I.loc,I.cell,I.free,I.freeC,I.pin,I.hok,I.len⟩
theorem SP.unwish {D:Ends} {f:Flow} {s':Shared} (h:SP (X.wish E) pins D f s'):SP X pins D f s':=by
  cases f with
  | next=>obtain ⟨σ',H',I,q⟩:=h;exact ⟨σ',H',I.unwish,q⟩
  | brk=>obtain ⟨σ',H',I,q⟩:=h;exact ⟨σ',H',I.unwish,q⟩
  | cont=>obtain ⟨σ',H',I,q⟩:=h;exact ⟨σ',H',I.unwish,q⟩
  | ret u=>obtain ⟨v,σ',H',I,r,q⟩:=h;exact ⟨v,σ',H',I.unwish,r,q⟩
theorem PSs.nox {st:List Stmt} {t:TS} (h:PSs X.nox st t):PSs X st t:=fun pins s σ H D I hw=>
  wpAny_mono (h pins s σ H D (I.wish _) hw) (fun _ _ q=>q.unwish) fun _ _ z=>False.elim z
end
section
variable {X:Cx} {st:Stmt} {rest:List Stmt} {t u:TS} {e:Expr} {te:TE} {pos:Pos}
def tNext:TS:=fun D σ H=>D.nx σ H
def tSeq (t u:TS):TS:=fun D σ H=>t { D with nx:=u D } σ H
theorem pss_nil:PSs X [] tNext:=fun _ _ σ H _ I h=>wpAny_execs_nil ⟨σ,H,I,h⟩
theorem pss_cons (h1:PS X st t) (h2:PSs X rest u):PSs X (st::rest) (tSeq t u):=by
  intro pins s σ H D I h
  refine wpAny_execs_cons (thn (h1 pins s σ H { D with nx:=u D } I h) fun f s1 q=> ?_)
  cases f with
  | next=>
    obtain ⟨σ',H',I',q⟩:=q
    exact h2 pins s1 σ' H' D I' q
  | ret v=>exact q
  | brk=>exact q
  | cont=>exact q
theorem pss_one (h1:PS X st t):PSs X [st] t:=by
  intro pins s σ H D I h
  refine wpAny_execs_cons (thn (h1 pins s σ H D I h) fun f s1 q=> ?_)
  cases f with
  | next=>exact wpAny_execs_nil q
  | ret v=>exact q
  | brk=>exact q
  | cont=>exact q
theorem Inv.quiet {pins:List (Addr × Obj)} {σ:St} {H:Hp} {s:Shared} (I:Inv X pins σ H s):interactive X.env=false:=by simp [interactive,I.ok.kind]
def tDrop (te:TE):TS:=fun D σ H=>te σ H fun _ H1=>D.nx σ H1
theorem ps_expr (he:PE X e te) (hs:swapsWith e none pos.line X.env=pure false:=by rfl):PS X (.Expr e pos) (tDrop te):=by
  intro pins s σ H D I h
  exact wpAny_Expr_any (thn (he pins s σ H _ I h) fun v s1 ⟨x,H1,I1,r1,q1⟩=>⟨σ,H1,I1,q1⟩) I.quiet hs
def tRet (te:TE):TS:=fun D σ H=>te σ H D.rt
theorem ps_ret (he:PE X e te):PS X (.Return (some e) pos) (tRet te):=by
  intro pins s σ H D I h
  exact wpAny_Return_some (thn (he pins s σ H _ I h) fun v s1 ⟨x,H1,I1,r1,q1⟩=>⟨x,σ,H1,I1,r1,q1⟩)
def tIfS (c:TT) (t u:TS):TS:=fun D σ H=>c σ H fun b H1=>if b=true then t D σ H1 else u D σ H1
theorem ps_if {c:Expr} {a b:List Stmt} {tc:TT} (hc:PT X c tc) (ha:PSs X a t) (hb:PSs X b u):PS X (.If c a b pos) (tIfS tc t u):=by
  intro pins s σ H D I h
  refine wpAny_If (thn (hc pins s σ H _ I h) fun d s1 ⟨H1,I1,q1⟩=> ?_)
  cases d with
  | true=>exact ha pins s1 σ H1 D I1 q1
  | false=>exact hb pins s1 σ H1 D I1 q1
def tNever:TS:=fun _ _ _=>False
theorem ps_never:PS X st tNever:=fun _ _ _ _ _ _ h=>h.elim
end
abbrev TG:=V→St→Hp→(St→Hp→Prop)→Prop
abbrev TGs:=List V→St→Hp→(St→Hp→Prop)→Prop
def PG (X:Cx) (target:Expr) (t:TG):Prop:=
  ∀ (pins:List (Addr × Obj)) (s:Shared) (σ:St) (H:Hp) (v:V) (u:Value) (Q:St→Hp→Prop),Inv X pins σ H s→RelV v u→t v σ H Q→
    wpAny (model X.prog X.w) X.A (assign target X.env u) (fun _ s'=>∃ σ' H',Inv X pins σ' H' s'∧Q σ' H') X.xe s
def PGs (X:Cx) (ts:List Expr) (t:TGs):Prop:=
  ∀ (pins:List (Addr × Obj)) (s:Shared) (σ:St) (H:Hp) (vs:List V) (us:List Value) (Q:St→Hp→Prop),Inv X pins σ H s→Vals vs us→t vs σ H Q→
    wpAny (model X.prog X.w) X.A (assignInOrder ((assignEach ts X.env).map (·.2)) us) (fun _ s'=>∃ σ' H',Inv X pins σ' H' s'∧Q σ' H') X.xe s
abbrev TIp:=V→V→Hp→VK→Prop
def PIp (X:Cx) (op:Operator) (t:TIp):Prop:=
  ∀ (pins:List (Addr × Obj)) (s:Shared) (σ:St) (H:Hp) (x y:V) (v u:Value) (Q:VK),Inv X pins σ H s→RelV x v→RelV y u→t x y H Q→
    wpAny (model X.prog X.w) X.A (inplaceOp op v u) (EP X pins σ Q) X.xe s
section
variable {X:Cx} {pos:Pos}
def gName (i:Nat):TG:=fun v σ H Q=>Q (σ.set i (some v)) H
theorem pg_name {i:Nat} {x:Str} (hN:X.N.Nodup) (hi:X.N[i]?=some x) (hx:Loc X.env.scope x) (hf:X.fn x=true∨X.env.scope.names.lookup x=some .local:=by first | exact .inl rfl | exact .inr rfl | assumption):PG X (.Name x pos) (gName i):=by
  intro pins s σ H v u Q I r h
  exact wpAny_assign_Name (store_ok I hN hi hx r (fun s' I'=>⟨_,H,I',h⟩) hf)
def gNil:TGs:=fun vs σ H Q=>vs=[]∧Q σ H
def gCons (t:TG) (u:TGs):TGs:=fun vs σ H Q=>∃ v r,vs=v::r∧t v σ H fun σ' H'=>u r σ' H' Q
theorem pgs_nil:PGs X [] gNil:=by
  intro pins s σ H vs us Q I r h
  obtain ⟨e,h⟩:=h
  subst e
  cases r
  exact assignInOrder_nil ⟨σ,H,I,h⟩
theorem pgs_cons {e:Expr} {es:List Expr} {t:TG} {u:TGs} (h1:PG X e t) (h2:PGs X es u)
    (hs:(assignEach (e::es) X.env).map (·.2)=assign e X.env::(assignEach es X.env).map (·.2):=by rfl):PGs X (e::es) (gCons t u):=by
  intro pins s σ H vs us Q I r h
  obtain ⟨v,vr,e1,h⟩:=h
  subst e1
  cases r with
  | cons r rr=>
    rw [hs]
    refine assignInOrder_cons (thn (h1 pins s σ H _ _ _ I r h) fun _ s1 ⟨σ1,H1,I1,q1⟩=> ?_)
    exact h2 pins s1 σ1 H1 _ _ Q I1 rr q1
def gTup (K:PySem.W.Frag) (n:Nat) (t:TGs):TG:=fun v σ H Q=>∃ a xs,v= .ref a∧SqT K H a xs∧xs.length=n∧t xs σ H Q
theorem pg_tup {es:List Expr} {k:Nat} {t:TGs} {n:Nat} (hc:X.calm=true) (h:PGs X es t)
    (hn:(assignEach es X.env).length=n:=by rfl) (hst:(assignEach es X.env).findIdx? (·.1)=none:=by rfl):PG X (.Tuple es k pos) (gTup X.K n t):=by
  intro pins s σ H v u Q I r hw
  obtain ⟨a,xs,e1,hq,hl,hw⟩:=hw
  subst e1
  cases r
  obtain ⟨its,rv,ht,hz⟩:=I.tuple hq
  refine assign_Tuple_tuple (I.ok.hd hc) ht (by simp [hn, ← hl,rv.length]) hst fun h' hx=> ?_
  have I1:Inv X pins σ H { s with heap:=h' }:=I.kept (t':=s.toks) fun b o e=>hx b o (Nat.ne_of_lt (Heap.lt_size e)) e
  exact h pins _ σ H xs _ Q I1 (by simpa using rv) hw
def tAsg (te:TE) (g:TG):TS:=fun D σ H=>te σ H fun x H1=>g x σ H1 D.nx
theorem ps_asg {tg e:Expr} {te:TE} {g:TG} (he:PE X e te) (hg:PG X tg g) (hs:swapsWithSole [tg] e pos.line X.env=pure false:=by rfl) (hw:swappedStores [tg] e X.env=pure none:=by rfl)
    (h1:(assignEach [tg] X.env).map (·.2)=[assign tg X.env]:=by rfl):PS X (.Assign [tg] e pos) (tAsg te g):=by
  intro pins s σ H D I h
  refine wpAny_Assign_stores (thn (he pins s σ H _ I h) fun v s1 ⟨x,H1,I1,r1,q1⟩=> ?_) hs hw
  rw [h1]
  exact thn (hg pins s1 σ H1 x v _ I1 r1 q1) fun _ s2 q=>q
theorem ps_set {i:Nat} {x:Str} {e:Expr} {te:TE} {pos':Pos} (hN:X.N.Nodup) (hi:X.N[i]?=some x) (hx:Loc X.env.scope x) (he:PE X e te) (hs:swapsWith e (some (.Name x pos')) pos.line X.env=pure false:=by rfl) (hf:X.fn x=true∨X.env.scope.names.lookup x=some .local:=by first | exact .inl rfl | exact .inr rfl | assumption):
    PS X (.Assign [.Name x pos'] e pos) (tAsg te (gName i)):=by
  intro pins s σ H D I h
  refine wpAny_Assign_Name (thn (he pins s σ H _ I h) fun v s1 ⟨y,H1,I1,r1,q1⟩=> ?_) hs
  exact store_ok I1 hN hi hx r1 (fun s2 I2=>⟨_,H1,I2,q1⟩) hf
def tPar (i j:Nat) (ta:TA):TS:=fun D σ H=>ta σ H fun vs H1=>∃ v w,vs=[v,w]∧D.nx ((σ.set i (some v)).set j (some w)) H1
theorem ps_par {i j:Nat} {x y:Str} {a b:Expr} {ta:TA} {px py pt:Pos} {kt k2 pt2} (hc:X.calm=true) (hN:X.N.Nodup) (hi:X.N[i]?=some x) (hj:X.N[j]?=some y) (hij:i≠j)
    (hx:X.env.scope.names.lookup x=some .local) (hy:X.env.scope.names.lookup y=some .local) (ha:PA X [a,b] ta)
    (hw:swappedStores [.Tuple [.Name x px, .Name y py] kt pt] (.Tuple [a,b] k2 pt2) X.env=pure (some [x,y]))
    (hs:swapsWithSole [.Tuple [.Name x px, .Name y py] kt pt] (.Tuple [a,b] k2 pt2) pos.line X.env=pure false:=by rfl):
    PS X (.Assign [.Tuple [.Name x px, .Name y py] kt pt] (.Tuple [a,b] k2 pt2) pos) (tPar i j ta):=by
  intro pins s σ H D I h
  rw [exec_Assign_arm]
  refine wpAny_bind (wpAny_standAt ?_)
  rw [hs]
  refine wpAny_bind (wpAny_pure ?_)
  rw [if_neg (by decide)]
  refine wpAny_bind (Tuple_ (thn (ha _ pins s σ H _ I h) fun us s1 ⟨vs,H1,I1,r1,q1⟩=> ?_))
  obtain ⟨v,w,e1,q1⟩:=q1
  subst e1
  obtain ⟨u1,u2,rfl,rv,rw'⟩:∃ u1 u2,us=[u1,u2]∧RelV v u1∧RelV w u2:=by
    cases r1 with
    | cons p q=>
      cases q with
      | cons p' q'=>
        cases q'
        exact ⟨_,_,rfl,p,p'⟩
  refine wpAny_newObj_type ?_ (by show 2≤sizeLine;decide)
  have I2:Inv X pins σ H1 { s1 with heap:=s1.heap.push { cls:= .type "tuple",data:= .seq [u1,u2].toArray } }:=I1.kept (t':=s1.toks) fun b o e=>Heap.get?_push_of_some _ e
  rw [hw]
  refine wpAny_bind (wpAny_pure ?_)
  show wpAny (model X.prog X.w) X.A (do rule "assign.swapped-stores";let items ← unpackItems (.ref s1.heap.objs.size) 2 none;assignInOrder [fun v=>bindName X.env y v,fun v=>bindName X.env x v] items.reverse;pure Flow.next) _ _ _
  refine wpAny_bind (wpAny_rule (wpAny_bind (unpackItems_tuple (items:= #[u1,u2]) (I.ok.hd hc) (IsTup.new s1.heap _) fun h' hx'=> ?_)))
  have I3:=I2.kept (h':=h') (t':=s1.toks) fun b o e=>hx' b o (Nat.ne_of_lt (Heap.lt_size e)) e
  show wpAny _ _ (assignInOrder [fun v=>bindName X.env y v,fun v=>bindName X.env x v] [u2,u1] >>= fun _=>pure Flow.next) _ _ _
  refine wpAny_bind (assignInOrder_cons (wpAny_bindName (store_ok I3 hN hj (.inl hy) rw' (fun s2 I4=> ?_) (.inr hy))))
  refine assignInOrder_cons (wpAny_bindName (store_ok I4 hN hi (.inl hx) rv (fun s3 I5=>assignInOrder_nil (wpAny_pure ?_)) (.inr hx)))
  rw [List.set_comm _ _ (Ne.symm hij)] at I5
  exact ⟨_,H1,I5,q1⟩
def tAug (i:Nat) (te:TE) (ti:TIp):TS:=fun D σ H=>∃ x,σ[i]?=some (some x)∧te σ H fun y H1=>ti x y H1 fun z H2=>D.nx (σ.set i (some z)) H2
theorem ps_aug {i:Nat} {x:Str} {e:Expr} {te:TE} {op:Operator} {ti:TIp} {pos':Pos} (hN:X.N.Nodup) (hi:X.N[i]?=some x) (hx:Loc X.env.scope x) (he:PE X e te) (ho:PIp X op ti) (hf:X.fn x=true∨X.env.scope.names.lookup x=some .local:=by first | exact .inl rfl | exact .inr rfl | assumption):
    PS X (.AugAssign (.Name x pos') op e pos) (tAug i te ti):=by
  intro pins s σ H D I h
  obtain ⟨v,e1,h⟩:=h
  obtain ⟨m,hn,hl⟩:=I.loc
  have vis:Vis X.env.scope x:=by rcases hx with k | k;exact .inl k;exact .inr (.inl k)
  obtain ⟨u,r,l⟩:=hl i x v hi e1 vis
  refine wpAny_AugAssign_Name ?_
  have go:wpAny (model X.prog X.w) X.A (eval e X.env) (fun w s₂=>wpAny (model X.prog X.w) X.A (inplaceOp op u w) (fun r s₃=>wpAny (model X.prog X.w) X.A (storeName X.env x r) (fun _=>SP X pins D .next) X.xe s₃) X.xe s₂) X.xe s:=by
    refine thn (he pins s σ H _ I h) fun w s1 ⟨y,H1,I1,r1,q1⟩=> ?_
    refine thn (ho pins s1 σ H1 v y u w _ I1 r r1 q1) fun z s2 ⟨zv,H2,I2,r2,q2⟩=> ?_
    exact store_ok I2 hN hi hx r2 (fun s3 I3=>⟨_,H2,I3,q2⟩) hf
  rcases l with ⟨hk,hm⟩ | ⟨hk,c,hc,hcell⟩
  · exact wpAny_loadName_local I.ok.kind hk hn hm go
  · rcases hk with hk | hk
    · exact wpAny_loadName_cell I.ok.kind hk hc hcell go
    · rcases hx with k | k
      · have:X.env.scope.names.lookup x=some .free:=hk
        rw [k] at this;cases this
      · have:X.env.scope.names.lookup x=some .free:=hk
        rw [k] at this;cases this
end
section
variable {X:Cx} {pos:Pos}
end
structure It where
  go:Nat→Hp→Prop
  yld:Nat→Hp→V→Hp→Prop
  stop:Nat→Hp→Prop
def FpOk (X:Cx) (pins:List (Addr × Obj)) (H:Hp) (b:Addr):Prop:=
  H b=none∧b≠X.env.locals∧b∉X.fs∧(b∈X.ex∨X.s₀.heap.objs.size≤b)∧(∀ x c,X.env.cells.lookup x=some c→c≠b)∧∀ p∈X.pn++pins,p.1≠b
theorem Inv.fpOk {X:Cx} {pins:List (Addr × Obj)} {σ:St} {H H':Hp} {s:Shared} {b:Addr} (I:Inv X pins σ H s) (hb:s.heap.objs.size≤b) (hn:H' b=none):FpOk X pins H' b:=by
  refine ⟨hn,Nat.ne_of_gt (Nat.lt_of_lt_of_le I.lt hb),I.nofs hb, .inr (Nat.le_trans I.sz hb),fun x c e z=> ?_,fun p hp z=> ?_⟩
  · obtain ⟨v,q⟩:=I.cell x c e
    exact absurd (Nat.lt_of_lt_of_le q.lt (by rw [z];exact hb)) (Nat.lt_irrefl _)
  · exact absurd (Nat.lt_of_lt_of_le (Heap.lt_size (I.pin p hp).1) (by rw [z];exact hb)) (Nat.lt_irrefl _)
structure Turn (P:Program) (w:World) (K:PySem.W.Frag) (tg:Expr) (J:It) (fp:List Addr) (it:Addr) (tn:Nat→Heap→Prop):Prop where
  mem:it∈fp
  obj:∀ i h,tn i h→∀ b∈fp,∃ o,h.get? b=some o∧∀ v,o.data≠ .cell v
  keep:∀ i h h',tn i h→(∀ b∈fp,∀ o,h.get? b=some o→h'.get? b=some o)→tn i h'
  item:∀ (X:Cx),X.prog=P→X.w=w→X.K=K→X.calm=true→∀ (i:Nat) (pins:List (Addr × Obj)) (s:Shared) (σ:St) (H:Hp) (E:Value→Shared→Prop),Inv X pins σ H s→(∀ b∈fp,FpOk X pins H b)→tn i s.heap→J.go i H→
    wpAny (model P w) X.A (pyNext (.ref it)) (fun r s1=>∃ u,r=some u∧
      wpAny (model P w) X.A (letOwnedTupleGo tg (.ref it) u) (fun _ s2=>∃ x H',Inv X pins σ H' s2∧RelV x u∧J.yld i H x H'∧tn (i+1) s2.heap∧∀ b∈fp,H' b=none) E s1) E s
  done:∀ (X:Cx),X.prog=P→X.w=w→X.K=K→X.calm=true→∀ (i:Nat) (pins:List (Addr × Obj)) (s:Shared) (σ:St) (H:Hp) (E:Value→Shared→Prop),Inv X pins σ H s→(∀ b∈fp,FpOk X pins H b)→tn i s.heap→J.stop i H→
    wpAny (model P w) X.A (pyNext (.ref it)) (fun r s1=>r=none∧Inv X pins σ H s1) E s
  self:∀ (A:Around) (i:Nat) (s:Shared) (Q:Value→Shared→Prop) (E:Value→Shared→Prop),tn i s.heap→Q (.ref it) s→wpAny (model P w) A (pyIter (.ref it)) Q E s
abbrev TI:=St→Hp→(It→Hp→Prop)→Prop
def PIE (X:Cx) (pins:List (Addr × Obj)) (σ:St) (tg:Expr) (R:It→Hp→Prop) (itv:Value) (s2:Shared):Prop:=
  ∃ (it:Addr) (fp:List Addr) (tn:Nat→Heap→Prop) (J:It) (H':Hp),itv= .ref it∧Inv X pins σ H' s2∧Turn X.prog X.w X.K tg J fp it tn∧tn 0 s2.heap∧(∀ b∈fp,FpOk X pins H' b)∧R J H'
def PI (X:Cx) (tg iter:Expr) (wi:TI):Prop:=
  ∀ (pins:List (Addr × Obj)) (s:Shared) (σ:St) (H:Hp) (R:It→Hp→Prop),Inv X pins σ H s→wi σ H R→
    wpAny (model X.prog X.w) X.A (eval iter X.env) (fun v s1=>wpAny (model X.prog X.w) X.A (pyIter v) (PIE X pins σ tg R) X.xe s1) X.xe s
theorem go_of {M:Model} {A:Around} {E:Value→Shared→Prop} {s:Shared} {tg:Expr} {it:Addr} {u:Value} {o:Obj} {n:String} {vs:Array Value} {Q:Unit→Shared→Prop} (ho:s.heap.get? it=some o) (hc:o.cls= .type n) (hd:o.data= .fields vs)
    (hn:["enumerate","zip","dict_itemiterator","dict_reverseitemiterator","odict_iterator","itertools.zip_longest","itertools.pairwise"].contains n=false) (hQ:Q () s):wpAny M A (letOwnedTupleGo tg (.ref it) u) Q E s:=by
  unfold letOwnedTupleGo
  cases tg <;> first
    | exact wpAny_pure hQ
    | (cases u <;> first
        | exact wpAny_pure hQ
        | (refine wpAny_bind (wpAny_load ho ?_)
           rw [hc,hd]
           show wpAny M A (if (["enumerate","zip","dict_itemiterator","dict_reverseitemiterator","odict_iterator","itertools.zip_longest","itertools.pairwise"].contains n&&vs[0]? == some (rawInt _))=true then _ else _) Q E s
           rw [if_neg (by intro h;rw [hn,Bool.false_and] at h;cases h)]
           exact wpAny_pure hQ))
def Itl (K:PySem.W.Frag) (a:Addr):It:=
  ⟨fun i H=>∃ xs x,SqL K H a xs∧xs[i]?=some x,fun i H x H'=>H'=H∧∀ xs,SqL K H a xs→xs[i]?=some x,fun i H=>∃ xs,SqL K H a xs∧xs.length≤i⟩
def Itt (K:PySem.W.Frag) (a:Addr):It:=
  ⟨fun i H=>∃ xs x,SqT K H a xs∧xs[i]?=some x,fun i H x H'=>H'=H∧∀ xs,SqT K H a xs→xs[i]?=some x,fun i H=>∃ xs,SqT K H a xs∧xs.length≤i⟩
def Itr (lo:Int) (n:Nat):It:=⟨fun i _=>i<n,fun i H x H'=>H'=H∧x= .int (lo+i),fun i _=>n≤i⟩
theorem turn_list {P:Program} {w:World} {K:PySem.W.Frag} {tg:Expr} (a it:Addr):Turn P w K tg (Itl K a) [it] it (fun i h=>h.IsListIter it a i) where
  mem:=by simp
  obj:=fun i h st b hb=>by
    have e:b=it:=by simpa using hb
    subst e
    obtain ⟨o,e,c,d⟩:=st
    exact ⟨o,e,fun v z=>by rw [d] at z;cases z⟩
  keep:=fun i h h' st k=>st.at fun o e=>k it (by simp) o e
  item:=by
    intro X hP hw hK hc i pins s σ H E I hf st hg
    subst hP hw hK
    obtain ⟨xs,x,hq,hx⟩:=hg
    obtain ⟨its,rv,p,hz⟩:=I.list hq
    obtain ⟨u,hu,ru⟩:=rv.get hx
    obtain ⟨f0,f1,f2,f3,f4,f5⟩:=hf it (by simp)
    refine wpAny_pyNext_list_item st p.isList (x:=u) (by simpa using hu) fun h' st' sb=> ?_
    have I1:Inv X pins σ H { s with heap:=h' }:=I.turned (t':=s.toks) (fun b o hb e=>(sb.2 b hb).trans e) f0 f1 f3 f4 f5
    obtain ⟨o,e,c,d⟩:=id st'
    exact ⟨u,rfl,go_of (s:={ s with heap:=h' }) e c d (by decide) ⟨x,H,I1,ru,⟨rfl,fun ys hy=>by rw [I.list_inj hy hq];exact hx⟩,st',fun b hb=>(hf b hb).1⟩⟩
  done:=by
    intro X hP hw hK hc i pins s σ H E I hf st hg
    subst hP hw hK
    obtain ⟨xs,hq,hx⟩:=hg
    obtain ⟨its,rv,p,hz⟩:=I.list hq
    obtain ⟨f0,f1,f2,f3,f4,f5⟩:=hf it (by simp)
    have hl:=rv.length
    exact wpAny_pyNext_list_end (I.ok.hd hc) st p.isList (by simp;omega) fun h' eb=>⟨rfl,I.turned (t':=s.toks) (fun b o hb e=>eb b o hb e) f0 f1 f3 f4 f5⟩
  self:=fun _ _ _ _ _ st h=>wpAny_pyIter_listiter st h
theorem turn_tuple {P:Program} {w:World} {K:PySem.W.Frag} {tg:Expr} (a it:Addr):Turn P w K tg (Itt K a) [it] it (fun i h=>h.IsTupleIter it a i) where
  mem:=by simp
  obj:=fun i h st b hb=>by
    have e:b=it:=by simpa using hb
    subst e
    obtain ⟨o,e,c,d⟩:=st
    exact ⟨o,e,fun v z=>by rw [d] at z;cases z⟩
  keep:=fun i h h' st k=>st.at fun o e=>k it (by simp) o e
  item:=by
    intro X hP hw hK hc i pins s σ H E I hf st hg
    subst hP hw hK
    obtain ⟨xs,x,hq,hx⟩:=hg
    obtain ⟨its,rv,p,hz⟩:=I.tuple hq
    obtain ⟨u,hu,ru⟩:=rv.get hx
    obtain ⟨f0,f1,f2,f3,f4,f5⟩:=hf it (by simp)
    refine wpAny_pyNext_tuple_item st (show s.heap.IsTuple a its.toArray from p) (x:=u) (by simpa using hu) fun h' st' sb=> ?_
    have I1:Inv X pins σ H { s with heap:=h' }:=I.turned (t':=s.toks) (fun b o hb e=>(sb.2 b hb).trans e) f0 f1 f3 f4 f5
    obtain ⟨o,e,c,d⟩:=id st'
    exact ⟨u,rfl,go_of (s:={ s with heap:=h' }) e c d (by decide) ⟨x,H,I1,ru,⟨rfl,fun ys hy=>by rw [I.tuple_inj hy hq];exact hx⟩,st',fun b hb=>(hf b hb).1⟩⟩
  done:=by
    intro X hP hw hK hc i pins s σ H E I hf st hg
    subst hP hw hK
    obtain ⟨xs,hq,hx⟩:=hg
    obtain ⟨its,rv,p,hz⟩:=I.tuple hq
    obtain ⟨f0,f1,f2,f3,f4,f5⟩:=hf it (by simp)
    have hl:=rv.length
    exact wpAny_pyNext_tuple_end (I.ok.hd hc) st (show s.heap.IsTuple a its.toArray from p) (by simp;omega) fun h' eb=>⟨rfl,I.turned (t':=s.toks) (fun b o hb e=>eb b o hb e) f0 f1 f3 f4 f5⟩
  self:=fun _ _ _ _ _ st h=>wpAny_pyIter_tupleiter st h
theorem turn_range {P:Program} {w:World} {K:PySem.W.Frag} {tg:Expr} (it:Addr) (lo:Int) (n:Nat):Turn P w K tg (Itr lo n) [it] it (fun i h=>IsRangeIter h it (lo+(i:Nat)*1) ((n:Int) - (i:Nat)) 1) where
  mem:=by simp
  obj:=fun i h st b hb=>by
    have e:b=it:=by simpa using hb
    subst e
    exact ⟨_,st,fun v z=>by
      have z':Data.fields _=Data.cell v:=z
      cases z'⟩
  keep:=fun i h h' st k=>k it (by simp) _ st
  item:=by
    intro X hP hw hK hc i pins s σ H E I hf st hg
    subst hP hw hK
    obtain ⟨f0,f1,f2,f3,f4,f5⟩:=hf it (by simp)
    have W:=Walks.range (prog:=X.prog) (w:=X.w) (I.ok.hd hc) it lo 1 n
    refine W.item i s _ _ hg st fun v h' tk hv st' kk=> ?_
    obtain ⟨t,rfl⟩:=hv
    have I1:Inv X pins σ H { s with heap:=h',toks:=tk }:=I.turned (fun b o hb e=>kk b o (by simpa using hb) e) f0 f1 f3 f4 f5
    refine ⟨_,rfl,go_of (s:={ s with heap:=h',toks:=tk }) (n:="range_iterator") st' rfl rfl (by decide) ⟨.int (lo+i),H,I1,⟨t,?_⟩,⟨rfl,rfl⟩,st',fun b hb=>(hf b hb).1⟩⟩
    rw [Int.mul_one]
  done:=by
    intro X hP hw hK hc i pins s σ H E I hf st hg
    subst hP hw hK
    obtain ⟨f0,f1,f2,f3,f4,f5⟩:=hf it (by simp)
    exact wpAny_pyNext_range_end (I.ok.hd hc) st (by have:n≤i:=hg;omega) fun h' eb=>⟨rfl,I.turned (t':=s.toks) (fun b o hb e=>eb b o hb e) f0 f1 f3 f4 f5⟩
  self:=fun _ _ _ _ _ st h=>wpAny_pyIter_rangeiter st h
end L2
namespace L2
open PySem PySem.Spec PyProof.Rows
section
variable {X:Cx} {tg:Expr}
def iList (K:PySem.W.Frag) (tl:TE):TI:=fun σ H R=>tl σ H fun x H1=>∃ a,x= .ref a∧(∃ xs,SqL K H1 a xs)∧R (Itl K a) H1
def iTup (K:PySem.W.Frag) (tl:TE):TI:=fun σ H R=>tl σ H fun x H1=>∃ a,x= .ref a∧(∃ xs,SqT K H1 a xs)∧R (Itt K a) H1
theorem pi_list {l:Expr} {tl:TE} (hl:PE X l tl):PI X tg l (iList X.K tl):=by
  intro pins s σ H R I h
  refine thn (hl pins s σ H _ I h) fun v s1 ⟨x,H1,I1,r1,q1⟩=> ?_
  obtain ⟨a,e,⟨xs,hq⟩,q⟩:=q1
  subst e
  cases r1
  obtain ⟨its,rv,p,hz⟩:=I1.list hq
  refine wpAny_pyIter_list p.isList ?_
  refine ⟨s1.heap.objs.size,[s1.heap.objs.size],_,_,H1,rfl,I1.kept (t':=s1.toks) fun b o e=>Heap.get?_push_of_some _ e,turn_list a _,⟨_,Heap.get?_push_size _ rfl,rfl,rfl⟩,fun b hb=> ?_,q⟩
  have e:b=s1.heap.objs.size:=by simpa using hb
  subst e
  exact I1.fpOk (Nat.le_refl _) (I1.hok.fresh (Nat.le_refl _))
theorem pi_tup {l:Expr} {tl:TE} (hl:PE X l tl):PI X tg l (iTup X.K tl):=by
  intro pins s σ H R I h
  refine thn (hl pins s σ H _ I h) fun v s1 ⟨x,H1,I1,r1,q1⟩=> ?_
  obtain ⟨a,e,⟨xs,hq⟩,q⟩:=q1
  subst e
  cases r1
  obtain ⟨its,rv,p,hz⟩:=I1.tuple hq
  refine wpAny_pyIter_tuple (show s1.heap.IsTuple a its.toArray from p) ?_
  refine ⟨s1.heap.objs.size,[s1.heap.objs.size],_,_,H1,rfl,I1.kept (t':=s1.toks) fun b o e=>Heap.get?_push_of_some _ e,turn_tuple a _,⟨_,Heap.get?_push_size _ rfl,rfl,rfl⟩,fun b hb=> ?_,q⟩
  have e:b=s1.heap.objs.size:=by simpa using hb
  subst e
  exact I1.fpOk (Nat.le_refl _) (I1.hok.fresh (Nat.le_refl _))
theorem range_it {pins:List (Addr × Obj)} {σ:St} {H:Hp} {s:Shared} {R:It→Hp→Prop} {E:Value→Shared→Prop} {lo hi:Int} {t u v:Tok} {tk:Nat} (I:Inv X pins σ H s) (h1: -(2 ^ 62)≤lo) (h2:lo<2 ^ 62) (h3: -(2 ^ 62)≤hi) (h4:hi<2 ^ 62)
    (q:R (Itr lo (hi - lo).toNat) H):wpAny (model X.prog X.w) X.A (pyIter (.ref s.heap.objs.size)) (PIE X pins σ tg R) E { s with heap:=s.heap.push { cls:= .type "range",data:= .fields #[.int lo t, .int hi u, .int 1 v] },toks:=tk }:=by
  refine wpAny_pyIter_range (IsRange.new ..) (small_one h1 h2 h3 h4) ?_
  have I1:Inv X pins σ H { s with heap:=s.heap.push { cls:= .type "range",data:= .fields #[.int lo t, .int hi u, .int 1 v] },toks:=tk }:=I.kept fun b o e=>Heap.get?_push_of_some _ e
  refine ⟨(s.heap.push { cls:= .type "range",data:= .fields #[.int lo t, .int hi u, .int 1 v] }).objs.size,[(s.heap.push { cls:= .type "range",data:= .fields #[.int lo t, .int hi u, .int 1 v] }).objs.size],_,_,H,rfl,
    I1.kept (t':=tk) fun b o e=>Heap.get?_push_of_some _ e,turn_range _ lo (hi - lo).toNat,?_,fun b hb=> ?_,q⟩
  · have e1:lo+((0:Nat):Int)*1=lo:=by simp
    have e2:(((hi - lo).toNat:Nat):Int) - ((0:Nat):Int)=Builtin.Range.rangeSize lo hi 1:=by rw [rangeSize_one];split <;> omega
    show IsRangeIter _ _ (lo+((0:Nat):Int)*1) ((((hi - lo).toNat:Nat):Int) - ((0:Nat):Int)) 1
    rw [e1,e2]
    exact Heap.get?_push_size _ rfl
  · have e:b=(s.heap.push { cls:= .type "range",data:= .fields #[.int lo t, .int hi u, .int 1 v] }).objs.size:=by simpa using hb
    subst e
    exact I1.fpOk (Nat.le_refl _) (I1.hok.fresh (Nat.le_refl _))
def iRng1 (ta:TA):TI:=fun σ H R=>ta σ H fun vs H1=>∃ j:Int,vs=[.int j]∧ -(2 ^ 62)≤j∧j<2 ^ 62∧R (Itr 0 j.toNat) H1
def iRng2 (ta:TA):TI:=fun σ H R=>ta σ H fun vs H1=>∃ i j:Int,vs=[.int i, .int j]∧(-(2 ^ 62)≤i∧i<2 ^ 62∧ -(2 ^ 62)≤j∧j<2 ^ 62)∧R (Itr i (j - i).toNat) H1
theorem pi_range1 {a:Expr} {ta:TA} {p pos:Pos} (hg:Gl X "range") (hm:X.mg "range"=none) (ha:PA X [a] ta) (hs:starEach [a] X.env=[(false,eval a X.env)]:=by rfl):PI X tg (.Call (.Name "range" p) [a] [] pos) (iRng1 ta):=by
  intro pins s σ H R I h
  refine Call_ (ld_blt I hg hm boot_range (PyProof.Rows.callWith_type1 (thn (ha pos pins s σ H _ I h) fun us s1 ⟨vs,H1,I1,r1,q1⟩=> ?_) hs rfl))
  obtain ⟨j,e,q1,q2,q⟩:=q1
  subst e
  cases r1 with
  | cons r rr=>
    cases rr
    obtain ⟨t,rfl⟩:=r
    exact call_range_1 (range_it I1 (by omega) (by omega) q1 q2 (by simpa using q))
theorem pi_range2 {a b:Expr} {ta:TA} {p pos:Pos} (hg:Gl X "range") (hm:X.mg "range"=none) (ha:PA X [a,b] ta) (hs:starEach [a,b] X.env=[(false,eval a X.env),(false,eval b X.env)]:=by rfl) (hs2:starEach [b] X.env=[(false,eval b X.env)]:=by rfl):
    PI X tg (.Call (.Name "range" p) [a,b] [] pos) (iRng2 ta):=by
  intro pins s σ H R I h
  refine Call_ (ld_blt I hg hm boot_range (PyProof.Rows.callWith_type1 (thn (ha pos pins s σ H _ I h) fun us s1 ⟨vs,H1,I1,r1,q1⟩=> ?_) (by rw [hs,hs2]) (by rw [hs2];rfl)))
  obtain ⟨i,j,e,⟨q1,q2,q3,q4⟩,q⟩:=q1
  subst e
  cases r1 with
  | cons r rr=>
    cases rr with
    | cons r' rr=>
      cases rr
      obtain ⟨t,rfl⟩:=r
      obtain ⟨t',rfl⟩:=r'
      exact call_range_2 (range_it I1 q1 q2 q3 q4 q)
def tFor (wi:TI) (g:TG) (tb:TS):TS:=fun D σ H=>wi σ H fun J H1=>∃ W:Nat→Nat→St→Hp→Prop,(∃ m,W 0 m σ H1)∧∀ i m σ H,W i m σ H→
  (J.stop i H∧D.nx σ H)∨(J.go i H∧∃ N:St→Hp→Prop,(∀ σ' H',N σ' H'→∃ m',m'<m∧W (i+1) m' σ' H')∧∀ x H',J.yld i H x H'→g x σ H' fun σ2 H2=>tb { D with nx:=N,ct:=N,bk:=D.nx } σ2 H2)
def pinsAt (fp:List Addr) (h:Heap):List (Addr × Obj):=fp.filterMap fun b=>(h.get? b).map fun o=>(b,o)
theorem mem_pinsAt {fp:List Addr} {h:Heap} {b:Addr} {o:Obj} (hb:b∈fp) (e:h.get? b=some o):(b,o)∈pinsAt fp h:=List.mem_filterMap.mpr ⟨b,hb,by rw [e];rfl⟩
theorem of_pinsAt {fp:List Addr} {h:Heap} {p:Addr × Obj} (hp:p∈pinsAt fp h):p.1∈fp∧h.get? p.1=some p.2:=by
  obtain ⟨b,hb,e⟩:=List.mem_filterMap.mp hp
  cases q:h.get? b with
  | none=>rw [q] at e;cases e
  | some o=>
    rw [q] at e
    have e':(b,o)=p:=Option.some.inj e
    subst e'
    exact ⟨hb,q⟩
theorem Inv.pinned {pins:List (Addr × Obj)} {σ:St} {H:Hp} {s:Shared} {fp:List Addr} (I:Inv X pins σ H s) (hf:∀ b∈fp,FpOk X pins H b) (ho:∀ b∈fp,∃ o,s.heap.get? b=some o∧∀ v,o.data≠ .cell v):Inv X (pins++pinsAt fp s.heap) σ H s:=
  I.pins_of fun p hp=>(List.mem_append.mp hp).elim (fun z=>I.pin p (List.mem_append_right _ z)) fun z=>by
    obtain ⟨hb,e⟩:=of_pinsAt z
    obtain ⟨f0,f1,f2,_⟩:=hf p.1 hb
    obtain ⟨o,e',d⟩:=ho p.1 hb
    rw [e] at e';cases e'
    exact ⟨e,f0,f1,f2,d⟩
theorem Inv.unpinned {pins pl:List (Addr × Obj)} {σ:St} {H:Hp} {s:Shared} (I:Inv X (pins++pl) σ H s):Inv X pins σ H s:=I.pins_of fun p hp=>I.pin p (List.mem_append_right _ (List.mem_append_left _ hp))
theorem ps_for {iter:Expr} {body:List Stmt} {wi:TI} {g:TG} {tb:TS} {pos:Pos} (hp:PassesOwn (model X.prog X.w) X.A X.env X.xe) (hc:X.calm=true) (hi:PI X tg iter wi) (hg:PG X tg g) (hb:PSs X body tb)
    (hs:∀ x,foldedSetIterable iter X.env x=pure x:=by intro _;rfl):PS X (.For tg iter body [] pos) (tFor wi g tb):=by
  intro pins s σ H D I h
  refine wpAny_For (thn (hi pins s σ H _ I h) fun v s1 h1=>thn h1 fun itv s2 h2=> ?_) hs
  obtain ⟨it,fp,tn,J,H2,e,I2,T,st2,f2,W,⟨m0,w0⟩,turn⟩:=h2
  subst e
  have stat:∀ {H':Hp},(∀ b∈fp,H' b=none)→∀ b∈fp,FpOk X pins H' b:=fun hn b hb=>⟨hn b hb,(f2 b hb).2⟩
  refine codeAny_forLoop_any (fun n s'=>∃ i σ' H',Inv X pins σ' H' s'∧tn i s'.heap∧(∀ b∈fp,H' b=none)∧W i n σ' H') ?_ m0 ⟨0,σ,H2,I2,st2,fun b hb=>(f2 b hb).1,w0⟩
  rintro n s3 ⟨i,σ3,H3,I3,st3,fr3,w3⟩
  rcases turn i n σ3 H3 w3 with ⟨stop,qn⟩ | ⟨go,N,hN,step⟩
  · refine wpAny_passesOwn hp (thn (T.done X rfl rfl rfl hc i pins s3 σ3 H3 X.xe I3 (stat fr3) st3 stop) fun r s4 ⟨hr,I4⟩=> ?_)
    subst hr
    exact wpAny_execs_nil ⟨σ3,H3,I4,qn⟩
  · refine wpAny_passesOwn hp (thn (T.item X rfl rfl rfl hc i pins s3 σ3 H3 X.xe I3 (stat fr3) st3 go) fun r s4 ⟨u,hr,h4⟩=> ?_)
    subst hr
    refine wpAny_passesOwn hp (thn h4 fun _ s5 ⟨x,H5,I5,r5,y5,st5,fr5⟩=> ?_)
    have I5':=I5.pinned (stat fr5) (T.obj _ _ st5)
    refine wpAny_passesOwn hp (thn (hg _ s5 σ3 H5 x u _ I5' r5 (step x H5 y5)) fun _ s6 ⟨σ6,H6,I6,q6⟩=> ?_)
    refine wpAny_passesOwn hp (thn (hb _ s6 σ6 H6 _ I6 q6) fun f s7 q7=> ?_)
    have again:∀ {σ7:St} {H7:Hp},Inv X (pins++pinsAt fp s5.heap) σ7 H7 s7→N σ7 H7→∃ m,m<n∧∃ i σ' H',Inv X pins σ' H' s7∧tn i s7.heap∧(∀ b∈fp,H' b=none)∧W i m σ' H':=fun {σ7 H7} I7 n7=>by
      obtain ⟨m',hm,w7⟩:=hN σ7 H7 n7
      refine ⟨m',hm,i+1,σ7,H7,I7.unpinned,T.keep _ _ _ st5 fun b hb o e=>(I7.pin (b,o) (List.mem_append_right _ (List.mem_append_right _ (mem_pinsAt hb e)))).1,fun b hb=> ?_,w7⟩
      obtain ⟨o,e,d⟩:=T.obj _ _ st5 b hb
      exact (I7.pin (b,o) (List.mem_append_right _ (List.mem_append_right _ (mem_pinsAt hb e)))).2.1
    cases f with
    | next=>obtain ⟨σ7,H7,I7,n7⟩:=q7;exact again I7 n7
    | cont=>obtain ⟨σ7,H7,I7,n7⟩:=q7;exact again I7 n7
    | brk=>obtain ⟨σ7,H7,I7,q7⟩:=q7;exact ⟨σ7,H7,I7.unpinned,q7⟩
    | ret v=>obtain ⟨x7,σ7,H7,I7,r7,q7⟩:=q7;exact ⟨x7,σ7,H7,I7.unpinned,r7,q7⟩
end
end L2
namespace L2
open PySem PySem.Spec PyProof.Rows
abbrev R2:=V→V→Hp→VK→Prop
def OpR (X:Cx) (f:Value→Value→Sem Value) (r:R2):Prop:=
  ∀ (pins:List (Addr × Obj)) (s:Shared) (σ:St) (H:Hp) (x y:V) (v u:Value) (Q:VK),Inv X pins σ H s→RelV x v→RelV y u→r x y H Q→
    wpAny (model X.prog X.w) X.A (f v u) (EP X pins σ Q) X.xe s
def CallR (X:Cx) (f:Value) (r:List V→Hp→VK→Prop):Prop:=
  ∀ (pins:List (Addr × Obj)) (s:Shared) (σ:St) (H:Hp) (xs:List V) (us:List Value) (Q:VK),Inv X pins σ H s→Vals xs us→r xs H Q→
    wpAny (model X.prog X.w) X.A (call f us) (EP X pins σ Q) X.xe s
def TruR (X:Cx) (r:V→Hp→(Bool→Hp→Prop)→Prop):Prop:=
  ∀ (pins:List (Addr × Obj)) (s:Shared) (σ:St) (H:Hp) (x:V) (v:Value) (Q:Bool→Hp→Prop),Inv X pins σ H s→RelV x v→r x H Q→
    wpAny (model X.prog X.w) X.A (truthy v) (TP X pins σ Q) X.xe s
def tOp (r:R2) (ta tb:TE):TE:=fun σ H Q=>ta σ H fun x H1=>tb σ H1 fun y H2=>r x y H2 Q
def rI (C:Int→Int→Prop) (g:Int→Int→V):R2:=fun x y H Q=>∃ i j,x= .int i∧y= .int j∧C i j∧Q (g i j) H
def rI0 (g:Int→Int→V):R2:=fun x y H Q=>∃ i j,x= .int i∧y= .int j∧Q (g i j) H
section
variable {X:Cx} {a b c:Expr} {ta tb tc:TE} {pos:Pos}
theorem binT (ha:PE X a ta) (hb:PE X b tb) {pins:List (Addr × Obj)} {s:Shared} {σ:St} {H:Hp} {R:V→V→Hp→Prop} (I:Inv X pins σ H s)
    (h:ta σ H fun x H1=>tb σ H1 fun y H2=>R x y H2) {Q:Value→Shared→Prop} {f:Value→Value→Sem Value}
    (hf:∀ v u s2 x y H2,Inv X pins σ H2 s2→RelV x v→RelV y u→R x y H2→wpAny (model X.prog X.w) X.A (f v u) Q X.xe s2):
    wpAny (model X.prog X.w) X.A (eval a X.env) (fun v s₁=>wpAny (model X.prog X.w) X.A (eval b X.env) (fun u s₂=>wpAny (model X.prog X.w) X.A (f v u) Q X.xe s₂) X.xe s₁) X.xe s:=by
  refine thn (ha pins s σ H _ I h) fun v s1 ⟨x,H1,I1,r1,q1⟩=> ?_
  refine thn (hb pins s1 σ H1 _ I1 q1) fun u s2 ⟨y,H2,I2,r2,q2⟩=> ?_
  exact hf v u s2 x y H2 I2 r1 r2 q2
theorem pe_op {op:Operator} {r:R2} (ho:OpR X (binaryOp op) r) (ha:PE X a ta) (hb:PE X b tb):PE X (.BinOp a op b pos) (tOp r ta tb):=by
  intro pins s σ H Q I h
  exact wpAny_BinOp (binT ha hb I h fun v u s2 x y H2 I2 rx ry q=>ho pins s2 σ H2 x y v u Q I2 rx ry q)
theorem opI {f:Value→Value→Sem Value} {C:Int→Int→Prop} {g:Int→Int→Int}
    (rule:∀ (i j:Int) (t u:Tok) (s:Shared) (Q:Value→Shared→Prop) (E:Value→Shared→Prop),C i j→Q (.int (g i j) s.toks) { s with toks:=s.toks+1 }→wpAny (model X.prog X.w) X.A (f (.int i t) (.int j u)) Q E s):
    OpR X f (rI C fun i j=> .int (g i j)):=by
  intro pins s σ H x y v u Q I rx ry h
  obtain ⟨i,j,rfl,rfl,hc,q⟩:=h
  obtain ⟨t,rfl⟩:=rx
  obtain ⟨t',rfl⟩:=ry
  exact rule i j t t' s _ _ hc ⟨.int (g i j),H,I.tok _,⟨_,rfl⟩,q⟩
theorem opI0 {f:Value→Value→Sem Value} {g:Int→Int→Int}
    (rule:∀ (i j:Int) (t u:Tok) (s:Shared) (Q:Value→Shared→Prop) (E:Value→Shared→Prop),Q (.int (g i j) s.toks) { s with toks:=s.toks+1 }→wpAny (model X.prog X.w) X.A (f (.int i t) (.int j u)) Q E s):
    OpR X f (rI0 fun i j=> .int (g i j)):=by
  intro pins s σ H x y v u Q I rx ry h
  obtain ⟨i,j,rfl,rfl,q⟩:=h
  obtain ⟨t,rfl⟩:=rx
  obtain ⟨t',rfl⟩:=ry
  exact rule i j t t' s _ _ ⟨.int (g i j),H,I.tok _,⟨_,rfl⟩,q⟩
theorem opB0 {f:Value→Value→Sem Value} {g:Int→Int→Bool}
    (rule:∀ (i j:Int) (t u:Tok) (s:Shared) (Q:Value→Shared→Prop) (E:Value→Shared→Prop),Q (.bool (g i j)) s→wpAny (model X.prog X.w) X.A (f (.int i t) (.int j u)) Q E s):
    OpR X f (rI0 fun i j=> .bl (g i j)):=by
  intro pins s σ H x y v u Q I rx ry h
  obtain ⟨i,j,rfl,rfl,q⟩:=h
  obtain ⟨t,rfl⟩:=rx
  obtain ⟨t',rfl⟩:=ry
  exact rule i j t t' s _ _ ⟨.bl (g i j),H,I,rfl,q⟩
def CPow (i j:Int):Prop:=0≤j∧j≤1000000∧i.natAbs<2 ^ 64
def CMul (i j:Int):Prop:=(-(2 ^ 64)<i∧i<2 ^ 64)∨(-(2 ^ 64)<j∧j<2 ^ 64)
theorem CMul.ok {i j:Int} (h:CMul i j):IntMulOk i j:=by
  rcases h with ⟨h1,h2⟩ | ⟨h1,h2⟩
  · exact .of_left (intBits_le_64 h1 h2)
  · exact .of_right (intBits_le_64 h1 h2)
theorem two_pow_nn (k:Nat):(0:Int)≤2 ^ k:=by
  rw [two_pow_cast]
  exact Int.natCast_nonneg _
theorem op_add:OpR X (binaryOp .Add) (rI0 fun i j=> .int (i+j)):=opI0 fun _ _ _ _ _ _ _ q=>add_int q
theorem op_sub:OpR X (binaryOp .Sub) (rI0 fun i j=> .int (i - j)):=opI0 fun _ _ _ _ _ _ _ q=>sub_int q
theorem op_mul:OpR X (binaryOp .Mult) (rI CMul fun i j=> .int (i*j)):=opI fun _ _ _ _ _ _ _ hc q=>mul_int q hc.ok
theorem op_mod:OpR X (binaryOp .Mod) (rI (fun _ j=>0<j) fun i j=> .int (i%j)):=opI fun i j _ _ _ _ _ hc q=>by
  have h1:(0:Int)<j:=hc
  exact mod_int' (by omega) (by rw [Int.fmod_eq_emod_of_nonneg i (by omega)];exact q)
theorem op_pow:OpR X (binaryOp .Pow) (rI CPow fun i j=> .int (i ^ j.toNat)):=opI fun _ _ _ _ _ _ _ hc q=>pow_int_small hc.1 hc.2.1 hc.2.2 q
theorem op_shl:OpR X (binaryOp .LShift) (rI CPow fun i j=> .int (i*2 ^ j.toNat)):=opI fun _ _ _ _ _ _ _ hc q=>lshift_int_small hc.1 hc.2.1 hc.2.2 q
theorem op_shr:OpR X (binaryOp .RShift) (rI (fun _ j=>0≤j) fun i j=> .int (i / 2 ^ j.toNat)):=opI fun i j _ _ _ _ _ hc q=>
  rshift_int hc (by rw [Int.fdiv_eq_ediv_of_nonneg i (two_pow_nn _)];exact q)
theorem op_and:OpR X (binaryOp .BitAnd) (rI0 fun i j=> .int (Builtin.bitAnd i j)):=opI0 fun _ _ _ _ _ _ _ q=>and_int q
theorem op_or:OpR X (binaryOp .BitOr) (rI0 fun i j=> .int (Builtin.bitOr i j)):=opI0 fun _ _ _ _ _ _ _ q=>or_int q
theorem iop_or:OpR X (inplaceOp .BitOr) (rI0 fun i j=> .int (Builtin.bitOr i j)):=opI0 fun _ _ _ _ _ _ _ q=>ior_int q
end
def scal:V→V→Bool
  | .non, .non=>true | .non, .int _=>true | .int _, .non=>true | .non, .bl _=>true | .bl _, .non=>true | .non, .str _=>true | .str _, .non=>true
  | .int _, .int _=>true | .bl _, .bl _=>true | .str _, .str _=>true | .byt _, .byt _=>true
  | .int _, .str _=>true | .str _, .int _=>true | .bl _, .str _=>true | .str _, .bl _=>true
  | _,_=>false
def rEq:R2:=fun x y H Q=>scal x y=true∧Q (.bl (decide (x=y))) H
def rNe:R2:=fun x y H Q=>scal x y=true∧Q (.bl (!decide (x=y))) H
theorem dec_int {i j:Int}:decide (V.int i=V.int j)=(i == j):=by
  rw [Bool.eq_iff_iff]
  simp
theorem dec_bl {i j:Bool}:decide (V.bl i=V.bl j)=(i == j):=by
  rw [Bool.eq_iff_iff]
  simp
theorem dec_str {i j:Str}:decide (V.str i=V.str j)=(i == j):=by
  rw [Bool.eq_iff_iff]
  simp
theorem dec_byt {i j:Array UInt8}:decide (V.byt i=V.byt j)=(i.toList == j.toList):=by
  rw [Bool.eq_iff_iff]
  cases i
  cases j
  simp
section
variable {X:Cx} {a b c:Expr} {ta tb tc:TE} {pos:Pos}
theorem fin_bl {pins:List (Addr × Obj)} {σ:St} {H:Hp} {s:Shared} {Q:VK} {k k':Bool} (I:Inv X pins σ H s) (q:Q (.bl k) H) (e:k=k'):EP X pins σ Q (.bool k') s:=by
  subst e
  exact ⟨.bl k,H,I,rfl,q⟩
theorem op_eq:OpR X (compareOp .Eq) rEq:=by
  intro pins s σ H x y v u Q I rx ry h
  obtain ⟨hs,q⟩:=h
  cases x with
  | non=>
    cases rx
    cases y with
    | non=>cases ry;exact PySem.EqNone.eq_none_none (fin_bl I q (by simp))
    | bl j=>cases ry;exact PySem.EqNone.eq_none_bool (fin_bl I q (by simp))
    | int j=>obtain ⟨t',rfl⟩:=ry;exact PySem.EqNone.eq_none_int (fin_bl I q (by simp))
    | str j=>obtain ⟨t',rfl⟩:=ry;exact PySem.EqNone.eq_none_str (fin_bl I q (by simp))
    | _=>exact absurd (show false=true from hs) Bool.false_ne_true
  | bl i=>
    cases rx
    cases y with
    | non=>cases ry;exact PySem.EqNone.eq_bool_none (fin_bl I q (by simp))
    | bl j=>cases ry;exact eq_bool (fin_bl I q dec_bl)
    | str j=>obtain ⟨t',rfl⟩:=ry;exact PySem.EqMixed.eq_bool_str (fin_bl I q (by simp))
    | _=>exact absurd (show false=true from hs) Bool.false_ne_true
  | int i=>
    obtain ⟨t,rfl⟩:=rx
    cases y with
    | non=>cases ry;exact PySem.EqNone.eq_int_none (fin_bl I q (by simp))
    | int j=>obtain ⟨t',rfl⟩:=ry;exact eq_int (fin_bl I q dec_int)
    | str j=>obtain ⟨t',rfl⟩:=ry;exact PySem.EqMixed.eq_int_str (fin_bl I q (by simp))
    | _=>exact absurd (show false=true from hs) Bool.false_ne_true
  | str i=>
    obtain ⟨t,rfl⟩:=rx
    cases y with
    | non=>cases ry;exact PySem.EqNone.eq_str_none (fin_bl I q (by simp))
    | bl j=>cases ry;exact PySem.EqMixed.eq_str_bool (fin_bl I q (by simp))
    | int j=>obtain ⟨t',rfl⟩:=ry;exact PySem.EqMixed.eq_str_int (fin_bl I q (by simp))
    | str j=>obtain ⟨t',rfl⟩:=ry;exact eq_str (fin_bl I q dec_str)
    | _=>exact absurd (show false=true from hs) Bool.false_ne_true
  | byt i=>
    obtain ⟨t,rfl⟩:=rx
    cases y with
    | byt j=>obtain ⟨t',rfl⟩:=ry;exact PySem.W.eq_bytes (fin_bl I q dec_byt)
    | _=>exact absurd (show false=true from hs) Bool.false_ne_true
  | _=>cases y <;> exact absurd (show false=true from hs) Bool.false_ne_true
theorem op_ne:OpR X (compareOp .NotEq) rNe:=by
  intro pins s σ H x y v u Q I rx ry h
  obtain ⟨hs,q⟩:=h
  cases x with
  | non=>
    cases rx
    cases y with
    | non=>cases ry;exact PySem.EqNone.ne_none_none (fin_bl I q (by simp))
    | bl j=>cases ry;exact PySem.EqNone.ne_none_bool (fin_bl I q (by simp))
    | int j=>obtain ⟨t',rfl⟩:=ry;exact PySem.EqNone.ne_none_int (fin_bl I q (by simp))
    | str j=>obtain ⟨t',rfl⟩:=ry;exact PySem.EqNone.ne_none_str (fin_bl I q (by simp))
    | _=>exact absurd (show false=true from hs) Bool.false_ne_true
  | bl i=>
    cases rx
    cases y with
    | non=>cases ry;exact PySem.EqNone.ne_bool_none (fin_bl I q (by simp))
    | bl j=>cases ry;exact ne_bool (fin_bl I q (congrArg not dec_bl))
    | str j=>obtain ⟨t',rfl⟩:=ry;exact PySem.EqMixed.ne_bool_str (fin_bl I q (by simp))
    | _=>exact absurd (show false=true from hs) Bool.false_ne_true
  | int i=>
    obtain ⟨t,rfl⟩:=rx
    cases y with
    | non=>cases ry;exact PySem.EqNone.ne_int_none (fin_bl I q (by simp))
    | int j=>obtain ⟨t',rfl⟩:=ry;exact ne_int (fin_bl I q (congrArg not dec_int))
    | str j=>obtain ⟨t',rfl⟩:=ry;exact PySem.EqMixed.ne_int_str (fin_bl I q (by simp))
    | _=>exact absurd (show false=true from hs) Bool.false_ne_true
  | str i=>
    obtain ⟨t,rfl⟩:=rx
    cases y with
    | non=>cases ry;exact PySem.EqNone.ne_str_none (fin_bl I q (by simp))
    | bl j=>cases ry;exact PySem.EqMixed.ne_str_bool (fin_bl I q (by simp))
    | int j=>obtain ⟨t',rfl⟩:=ry;exact PySem.EqMixed.ne_str_int (fin_bl I q (by simp))
    | str j=>obtain ⟨t',rfl⟩:=ry;exact ne_str (fin_bl I q (congrArg not dec_str))
    | _=>exact absurd (show false=true from hs) Bool.false_ne_true
  | byt i=>
    obtain ⟨t,rfl⟩:=rx
    cases y with
    | byt j=>obtain ⟨t',rfl⟩:=ry;exact PySem.W.ne_bytes (fin_bl I q (congrArg not dec_byt))
    | _=>exact absurd (show false=true from hs) Bool.false_ne_true
  | _=>cases y <;> exact absurd (show false=true from hs) Bool.false_ne_true
theorem op_le:OpR X (compareOp .LtE) (rI0 fun i j=> .bl (decide (i≤j))):=opB0 fun _ _ _ _ _ _ _ q=>le_int q
theorem op_gt:OpR X (compareOp .Gt) (rI0 fun i j=> .bl (decide (j<i))):=opB0 fun _ _ _ _ _ _ _ q=>gt_int q
theorem op_in_str:OpR X (compareOp .In) (fun x y H Q=>∃ i j,x= .str i∧y= .str j∧Q (.bl (!(Builtin.Str.occurrences j i 0 j.length 1).isEmpty)) H):=by
  intro pins s σ H x y v u Q I rx ry h
  obtain ⟨i,j,rfl,rfl,q⟩:=h
  obtain ⟨t,rfl⟩:=rx
  obtain ⟨t',rfl⟩:=ry
  exact in_str (fin_bl I q rfl)
theorem op_isN:OpR X (compareOp .Is) (fun x y H Q=>y= .non∧Q (.bl (decide (x= .non))) H):=by
  intro pins s σ H x y v u Q I rx ry h
  obtain ⟨rfl,q⟩:=h
  cases ry
  refine is_none_gen (fin_bl I q ?_)
  cases x <;> first
    | (cases rx;rfl)
    | (obtain ⟨t,rfl⟩:=rx;rfl)
theorem nomark (b:Expr) {op:CmpOp} (h:op≠ .In:=by decide) (h2:op≠ .NotIn:=by decide):behindInMarks op b=false:=by
  have e1:(op == CmpOp.In)=false:=by cases op <;> first | rfl | exact absurd rfl h
  have e2:(op == CmpOp.NotIn)=false:=by cases op <;> first | rfl | exact absurd rfl h2
  cases b <;> simp [behindInMarks,e1,e2]
theorem pe_cmpR {op:CmpOp} {r:R2} (ho:OpR X (compareOp op) r) (ha:PE X a ta) (hb:PE X b tb) (hm:behindInMarks op b=false):PE X (.Compare a [op] [b] pos) (tOp r ta tb):=by
  intro pins s σ H Q I h
  exact wpAny_Compare1 (binT ha hb I h fun v u s2 x y H2 I2 rx ry q=>ho pins s2 σ H2 x y v u Q I2 rx ry q) hm
def tTest (t:TE):TT:=fun σ H Q=>t σ H fun x H'=>∃ k,x= .bl k∧Q k H'
theorem pt_cmpR {op:CmpOp} {r:R2} (ho:OpR X (compareOp op) r) (ha:PE X a ta) (hb:PE X b tb) (hm:behindInMarks op b=false):PT X (.Compare a [op] [b] pos) (tTest (tOp r ta tb)):=by
  intro pins s σ H Q I h
  refine wpAny_isTrue_Compare1 (thn (ha pins s σ H _ I h) fun v s1 ⟨x,H1,I1,r1,q1⟩=>thn (hb pins s1 σ H1 _ I1 q1) fun u s2 ⟨y,H2,I2,r2,q2⟩=>
    thn (ho pins s2 σ H2 x y v u _ I2 r1 r2 q2) fun c s3 ⟨z,H3,I3,r3,k,e,q3⟩=> ?_) hm
  subst e
  cases r3
  exact wpAny_truthy_bool ⟨H3,I3,q3⟩
def tChain (r r':R2) (ta tb tc:TE):TE:=fun σ H Q=>ta σ H fun x H1=>tb σ H1 fun y H2=>r x y H2 fun z H3=>∃ k,z= .bl k∧
  (if k=true then tc σ H3 fun w' H4=>r' y w' H4 Q else Q (.bl false) H3)
theorem pe_chain {op op':CmpOp} {r r':R2} (ho:OpR X (compareOp op) r) (ho':OpR X (compareOp op') r') (ha:PE X a ta) (hb:PE X b tb) (hc:PE X c tc)
    (hm:lastMarks [op,op'] [b,c]=false:=by with_unfolding_all rfl):PE X (.Compare a [op,op'] [b,c] pos) (tChain r r' ta tb tc):=by
  intro pins s σ H Q I h
  refine Compare_chain (thn (ha pins s σ H _ I h) fun v s1 ⟨x,H1,I1,r1,q1⟩=>chain_link (thn (hb pins s1 σ H1 _ I1 q1) fun u s2 ⟨y,H2,I2,r2,q2⟩=>
    thn (ho pins s2 σ H2 x y v u _ I2 r1 r2 q2) fun d s3 ⟨z,H3,I3,r3,k,e,q3⟩=> ?_)) hm
  subst e
  cases r3
  refine wpAny_truthy_bool ?_
  cases k with
  | false=>exact ite_ff ⟨.bl false,H3,I3,rfl,q3⟩
  | true=>exact ite_tt (chain_last (thn (hc pins s3 σ H3 _ I3 q3) fun w' s4 ⟨z',H4,I4,r4,q4⟩=>ho' pins s4 σ H4 y z' u w' Q I4 r2 r4 q4))
def TruV (K:PySem.W.Frag) (x:V) (H:Hp) (k:Bool):Prop:=
  match x with
  | .non=>k=false
  | .bl b=>k=b
  | .int i=>k=(i != 0)
  | .str y=>y.length≤sizeLine∧k=((y.length:Int) != 0)
  | .byt y=>y.size≤sizeLine∧k=((y.size:Int) != 0)
  | .ref p=>(∃ xs,SqL K H p xs∧k= !xs.isEmpty)∨(∃ xs,SqT K H p xs∧k= !xs.isEmpty)∨∃ kvs,H p=some (.dK kvs)∧k= !kvs.isEmpty
  | _=>False
theorem isEmpty_kv {κ:Type} {kvs:List (κ × V)} {vs:List (κ × Value)} (r:KV kvs vs):(!vs.isEmpty)= !kvs.isEmpty:=by
  cases r <;> rfl
theorem isEmpty_of {xs:List V} {its:List Value} (r:Vals xs its):(!its.toArray.isEmpty)= !xs.isEmpty:=by
  cases r <;> simp
theorem line63:(sizeLine:Nat)<2 ^ 63:=by rw [sizeLine_eq];decide
theorem tru_ok:TruR X (fun x H Q=>∃ k,TruV X.K x H k∧Q k H):=by
  intro pins s σ H x v Q I rx h
  obtain ⟨k,e,q⟩:=h
  have hl:=line63
  have hs:sizeLine=16777216:=sizeLine_eq
  cases x with
  | non=>
    cases rx
    have e':k=false:=e
    subst e'
    exact truthy_none ⟨H,I,q⟩
  | bl b=>
    cases rx
    have e':k=b:=e
    subst e'
    exact wpAny_truthy_bool ⟨H,I,q⟩
  | int i=>
    obtain ⟨t,rfl⟩:=rx
    have e':k=(i != 0):=e
    subst e'
    exact PySem.P.truthy_int ⟨H,I,q⟩
  | str y=>
    obtain ⟨t,rfl⟩:=rx
    obtain ⟨hy,e'⟩:y.length≤sizeLine∧k=((y.length:Int) != 0):=e
    subst e'
    exact PySem.P.truthy_str (by omega) ⟨H,I.tok _,q⟩
  | byt y=>
    obtain ⟨t,rfl⟩:=rx
    obtain ⟨hy,e'⟩:y.size≤sizeLine∧k=((y.size:Int) != 0):=e
    subst e'
    exact PySem.W.truthy_bytes (by omega) ⟨H,I.tok _,q⟩
  | ref p=>
    cases rx
    have e':(∃ xs,SqL X.K H p xs∧k= !xs.isEmpty)∨(∃ xs,SqT X.K H p xs∧k= !xs.isEmpty)∨∃ kvs,H p=some (.dK kvs)∧k= !kvs.isEmpty:=e
    rcases e' with ⟨xs,hx,e'⟩ | ⟨xs,hx,e'⟩ | ⟨kvs,hx,e'⟩
    · subst e'
      obtain ⟨its,r,pl,hz⟩:=I.list hx
      have hlen:=r.length
      exact wpAny_truthy_list pl.isList (by simp only [List.size_toArray];omega) ⟨H,I.tok _,by rw [isEmpty_of r];exact q⟩
    · subst e'
      obtain ⟨its,r,pl,hz⟩:=I.tuple hx
      have hlen:=r.length
      exact truthy_tuple pl (by simp only [List.size_toArray];omega) ⟨H,I.tok _,by rw [isEmpty_of r];exact q⟩
    · subst e'
      obtain ⟨hz,hS,vs,r,m⟩:kvs.length≤sizeLine∧(p == sysModules)=false∧∃ vs,KV kvs vs∧s.heap.DictOf (mixKind X.prog X.w) p vs:=I.hok p _ hx
      have hlen:kvs.length=vs.length:=Paired.length r
      exact wpAny_truthy_dict hS m (by omega) ⟨H,I.tok _,by rw [isEmpty_kv r];exact q⟩
  | _=>exact (show False from e).elim
theorem vals1 {x:V} {us:List Value} (r:Vals [x] us):∃ u,us=[u]∧RelV x u:=by
  cases r with
  | cons r1 r2=>cases r2;exact ⟨_,rfl,r1⟩
theorem vals2 {x y:V} {us:List Value} (r:Vals [x,y] us):∃ u w',us=[u,w']∧RelV x u∧RelV y w':=by
  cases r with
  | cons r1 r2=>
    cases r2 with
    | cons r3 r4=>cases r4;exact ⟨_,_,rfl,r1,r3⟩
theorem call_max2 (hc:X.calm=true):CallR X (.builtin "max") (fun xs H Q=>∃ i j,xs=[.int i, .int j]∧Q (.int (if j>i then j else i)) H):=by
  intro pins s σ H xs us Q I r h
  obtain ⟨i,j,rfl,q⟩:=h
  obtain ⟨u,w',rfl,⟨t,rfl⟩,⟨t',rfl⟩⟩:=vals2 r
  refine max_two_ints (I.ok.hd hc) fun h' tk k=>⟨_,H,I.kept k,?_,q⟩
  by_cases hj:j>i
  · rw [if_pos hj,if_pos hj];exact ⟨_,rfl⟩
  · rw [if_neg hj,if_neg hj];exact ⟨_,rfl⟩
theorem call_min2 (hc:X.calm=true):CallR X (.builtin "min") (fun xs H Q=>∃ i j,xs=[.int i, .int j]∧Q (.int (if j<i then j else i)) H):=by
  intro pins s σ H xs us Q I r h
  obtain ⟨i,j,rfl,q⟩:=h
  obtain ⟨u,w',rfl,⟨t,rfl⟩,⟨t',rfl⟩⟩:=vals2 r
  refine min_two_ints (I.ok.hd hc) fun h' tk k=>⟨_,H,I.kept k,?_,q⟩
  by_cases hj:j<i
  · rw [if_pos hj,if_pos hj];exact ⟨_,rfl⟩
  · rw [if_neg hj,if_neg hj];exact ⟨_,rfl⟩
theorem call_int1:CallR X (.type "int") (fun xs H Q=>(∃ i,xs=[.int i]∧Q (.int i) H)∨∃ k,xs=[.bl k]∧Q (.int (if k then 1 else 0)) H):=by
  intro pins s σ H xs us Q I r h
  rcases h with ⟨i,rfl,q⟩ | ⟨k,rfl,q⟩
  · obtain ⟨u,rfl,t,rfl⟩:=vals1 r
    exact call_int_int ⟨.int i,H,I,⟨_,rfl⟩,q⟩
  · obtain ⟨u,rfl,r1⟩:=vals1 r
    cases r1
    exact call_int_bool ⟨.int (if k then 1 else 0),H,I.tok _,⟨_,rfl⟩,q⟩
def LenV (K:PySem.W.Frag) (x:V) (H:Hp) (n:Nat):Prop:=
  match x with
  | .str y=>y.length≤sizeLine∧n=y.length
  | .byt y=>y.size≤sizeLine∧n=y.size
  | .ref p=>(∃ xs,SqL K H p xs∧n=xs.length)∨∃ xs,SqT K H p xs∧n=xs.length
  | _=>False
theorem call_len:CallR X (.builtin "len") (fun xs H Q=>∃ x n,xs=[x]∧LenV X.K x H n∧Q (.int n) H):=by
  intro pins s σ H xs us Q I r h
  obtain ⟨x,n,rfl,e,q⟩:=h
  obtain ⟨u,rfl,rx⟩:=vals1 r
  have hl:=line63
  have hs:sizeLine=16777216:=sizeLine_eq
  cases x with
  | str y=>
    obtain ⟨t,rfl⟩:=rx
    obtain ⟨hy,e'⟩:y.length≤sizeLine∧n=y.length:=e
    subst e'
    exact len_str (by omega) ⟨.int _,H,I.tok _,⟨_,rfl⟩,q⟩
  | byt y=>
    obtain ⟨t,rfl⟩:=rx
    obtain ⟨hy,e'⟩:y.size≤sizeLine∧n=y.size:=e
    subst e'
    exact PySem.W.len_bytes (by omega) ⟨.int _,H,I.tok _,⟨_,rfl⟩,q⟩
  | ref p=>
    cases rx
    have e':(∃ xs,SqL X.K H p xs∧n=xs.length)∨∃ xs,SqT X.K H p xs∧n=xs.length:=e
    rcases e' with ⟨xs,hx,e'⟩ | ⟨xs,hx,e'⟩
    · subst e'
      obtain ⟨its,r',pl,hz⟩:=I.list hx
      have hlen:=r'.length
      exact Calls.call_len_list pl.isList (by simp only [List.size_toArray];omega) ⟨.int xs.length,H,I.tok _,⟨_,by simp only [List.size_toArray];rw [hlen]⟩,q⟩
    · subst e'
      obtain ⟨its,r',pl,hz⟩:=I.tuple hx
      have hlen:=r'.length
      exact len_tuple pl (by simp only [List.size_toArray];omega) ⟨.int xs.length,H,I.tok _,⟨_,by simp only [List.size_toArray];rw [hlen]⟩,q⟩
  | _=>exact (show False from e).elim
end
end L2
namespace L2
open PySem PySem.Spec PyProof.Rows
structure ObjM (h:Heap) (x dx C:Addr) (mA:Str→Option Value):Prop where
  obj:h.get? x=some (PySem.W.instObj C dx)
  ns:h.Ns1 dx mA
  ne:dx≠x
theorem lookIn_ns {h:Heap} {dx:Addr} {mA:Str→Option Value} (n:h.Ns1 dx mA):∃ od,h.get? dx=some od∧∀ name,PySem.W.lookIn name od=some (mA name):=by
  obtain ⟨o,es,ep,ho,hd,hk,_,hm⟩:=n
  refine ⟨o,ho,fun name=> ?_⟩
  have e:=hm name
  unfold nsFind findBy at e
  rw [← Array.find?_toList] at e
  unfold PySem.W.lookIn
  rw [hd]
  dsimp only
  split
  · rename_i y q
    rw [q] at e
    exact congrArg some e
  · rename_i q
    rw [q] at e
    have a:es.toList.any (·.refKey)=false:=by
      rw [List.any_eq_false]
      intro y hy
      obtain ⟨z,t,hkey⟩:=hk y (Array.mem_toList_iff.mp hy)
      simp [DictEntry.refKey,hkey]
    have a':¬ es.toList.any (·.refKey)=true:=by rw [a];exact Bool.false_ne_true
    rw [if_neg a']
    exact congrArg some e
theorem ObjM.look {h:Heap} {x dx C:Addr} {mA:Str→Option Value} (I:ObjM h x dx C mA):∃ od,PySem.W.InstAt h x (PySem.W.instObj C dx) C (some od)∧∀ name,PySem.W.lookIn name od=some (mA name):=
  let ⟨od,ho,hl⟩:=lookIn_ns I.ns
  ⟨od,⟨I.obj,rfl,rfl,ho⟩,hl⟩
section
variable {prog:Program} {w:World} {A:Around} {E:Value→Shared→Prop} {s:Shared} {K:PySem.W.Frag} {x dx C f:Addr} {mA:Str→Option Value} {name:Str} {v:Value}
theorem get_map {expr:Bool} {Q:Value→Shared→Prop} (X:K.In s.heap) (I:ObjM s.heap x dx C mA) (hg:PySem.W.plainGet K C name=true) (hh:PySem.W.hasDictIn K C=true)
    (ha:PySem.W.findIn K (.ref C) name=some none) (hv:mA name=some v) (hv':PySem.W.handedIn v=true) (h:Q v { s with toks:=s.toks+1 }):
    wpAny (model prog w) A (getAttr (.ref x) name expr) Q E s:=by
  obtain ⟨od,J,hl⟩:=I.look
  exact PySem.W.get_value X J (PySem.W.plainGet_of hg).1 (PySem.W.findObj_own hh ha rfl (by rw [hl,hv])) hv' h
theorem get_meth {pl:Sem Bool} {Q:Value × List Value→Shared→Prop} (X:K.In s.heap) (I:ObjM s.heap x dx C mA) (hg:PySem.W.plainGet K C name=true)
    (hf:PySem.W.findIn K (.ref C) name=some (some (.ref f))) (ht:PySem.W.isFn K (.ref f)=true) (hv:mA name=none) (h:Q (.ref f,[.ref x]) s):
    wpAny (model prog w) A (getMethod (.ref x) name pl) Q E s:=by
  obtain ⟨od,J,hl⟩:=I.look
  exact PySem.W.method_fn X J (PySem.W.plainGet_of hg).1 (PySem.W.plainGet_of hg).2 hf (beq_iff_eq.mp ht) (by show (PySem.W.lookIn name od).map (·.isSome)=some false;rw [hl,hv];rfl) h
theorem set_map {ns:List Str} {Q:Unit→Shared→Prop} (X:K.In s.heap) (I:ObjM s.heap x dx C mA)
    (hs:PySem.W.findIn K (.ref C) "__setattr__"=some (some (.builtin "object.__setattr__"))) (hp:PySem.W.plainOver K C=true) (ht:PySem.W.takerIn K C name=some none) (hh:PySem.W.hasDictIn K C=true)
    (hw:PySem.Within mA ns) (hsz:ns.length≤sizeLine)
    (h:∀ h',ObjM h' x dx C (fun y=>if y=name then some v else mA y)→Heap.SameBut dx s.heap h'→Q () { s with heap:=h',toks:=s.toks+2 }):
    wpAny (model prog w) A (setAttr (.ref x) name v) Q E s:=by
  obtain ⟨od,J,hl⟩:=I.look
  refine PySem.W.set_plain X J hs (PySem.W.osa_open (s:={ s with toks:=s.toks+1 }) (r:=none) X J hp ht fun b=> ?_)
  obtain ⟨cd,hc,hd'⟩:=PySem.W.any_some hh
  have hx:s.heap.get? x=some ⟨.ref C,some dx, .plain, #[]⟩:=I.obj
  refine wpAny_bind (wpAny_pure (wpAny_bind (wpAny_bind (wpAny_loadPart hx (wpAny_bind (PySem.W.Looks.here (s:={ s with toks:=s.toks+1 }) (PySem.W.looks_clsIn X hc) ?_))))))
  rw [hd']
  refine wpAny_pure (a:=some dx) (wpAny_bind (wpAny_pure (wpAny_bind ?_)))
  refine wpAny_nsSet1 (s:={ s with toks:=s.toks+1 }) I.ns fun h' hn2 hs2=> ?_
  obtain ⟨oD,esD,epD,hoD,hdD,hcD⟩:=hn2.count (PySem.Within.cons name v hw)
  refine wpAny_bind (wpAny_lookBehind hoD (by rw [hdD];exact pastItsLine_dict (Nat.le_trans hcD (by rw [List.length_cons];omega))) ?_)
  exact wpAny_pure (h _ ⟨(hs2.2 _ (Ne.symm I.ne)).trans I.obj,hn2,I.ne⟩ hs2)
theorem make_map {R:Result→Shared→Prop} {vs:List Value} {kw:List (Str × Value)} (X:K.In s.heap) (hm:PySem.W.makesIn K C=true)
    (hi:PySem.W.findIn K (.ref C) "__init__"=some (some (.ref f))) (hf:PySem.W.typeIn K (.ref f)=some (.type "function"))
    (h:codeAny (model prog w) (A.under (.builtin "type.__call__" ⟨.ref C::vs,kw⟩)) (.call (.ref f) ⟨.ref (s.heap.objs.size+1)::vs,kw⟩) (PySem.W.InitBack (s.heap.objs.size+1) R)
      { s with heap:=(s.heap.push PySem.W.emptyDict).push (PySem.W.instObj C s.heap.objs.size) }):
    codeAny (model prog w) A (.call (.ref C) ⟨vs,kw⟩) R s:=by
  obtain ⟨hh,g,d,t,os⟩:=s
  exact PySem.W.make_core (PySem.W.makes_of X hm) (PySem.W.looks_findIn X hi) (fun self=>PySem.W.bind_fn X self hf) (.inl rfl) h
end
def putF (f:Str) (v:V):List (Str × V)→List (Str × V)
  | []=>[(f,v)]
  | (g,x)::r=>if g=f then (g,v)::r else (g,x)::putF f v r
theorem lookup_putF (f g:Str) (v:V):∀ fs:List (Str × V),(putF f v fs).lookup g=if g=f then some v else fs.lookup g
  | []=>by
    show List.lookup g [(f,v)]=_
    by_cases h:g=f
    · have hb:(g == f)=true:=beq_iff_eq.mpr h
      simp only [List.lookup,hb,if_pos h]
    · have hb:(g == f)=false:=beq_eq_false_iff_ne.mpr h
      simp only [List.lookup,hb,if_neg h]
  | (k,x)::r=>by
    have ih:=lookup_putF f g v r
    rw [show putF f v ((k,x)::r)=(if k=f then (k,v)::r else (k,x)::putF f v r) from rfl]
    by_cases hk:k=f
    · rw [if_pos hk]
      by_cases h:g=k
      · have hb:(g == k)=true:=beq_iff_eq.mpr h
        simp only [List.lookup,hb,if_pos (h.trans hk)]
      · have hb:(g == k)=false:=beq_eq_false_iff_ne.mpr h
        simp only [List.lookup,hb,if_neg (fun e:g=f=>h (e.trans hk.symm))]
    · rw [if_neg hk]
      by_cases h:g=k
      · have hb:(g == k)=true:=beq_iff_eq.mpr h
        simp only [List.lookup,hb,if_neg (fun e:g=f=>hk (h.symm.trans e))]
      · have hb:(g == k)=false:=beq_eq_false_iff_ne.mpr h
        simp only [List.lookup,hb]
        exact ih
theorem keys_putF (f:Str) (v:V):∀ fs:List (Str × V),f∈(putF f v fs).map (·.1)∧∀ g,g∈fs.map (·.1)→g∈(putF f v fs).map (·.1)
  | []=>⟨by simp [putF],fun g h=>by simp at h⟩
  | (k,x)::r=>by
    obtain ⟨i1,i2⟩:=keys_putF f v r
    rw [show putF f v ((k,x)::r)=(if k=f then (k,v)::r else (k,x)::putF f v r) from rfl]
    by_cases hk:k=f
    · rw [if_pos hk]
      subst hk
      exact ⟨by simp,fun g h=>by simpa using h⟩
    · rw [if_neg hk]
      refine ⟨?_,fun g h=> ?_⟩
      · rw [List.map_cons]
        exact List.mem_cons_of_mem _ i1
      · rw [List.map_cons] at h ⊢
        rcases List.mem_cons.mp h with e | e
        · exact List.mem_cons.mpr (.inl e)
        · exact List.mem_cons_of_mem _ (i2 g e)
theorem length_putF (f:Str) (v:V):∀ fs:List (Str × V),(putF f v fs).length≤fs.length+1
  | []=>by simp [putF]
  | (k,x)::r=>by
    have ih:=length_putF f v r
    rw [show putF f v ((k,x)::r)=(if k=f then (k,v)::r else (k,x)::putF f v r) from rfl]
    by_cases hk:k=f
    · rw [if_pos hk,List.length_cons,List.length_cons];omega
    · rw [if_neg hk,List.length_cons,List.length_cons];omega
theorem RelO.some_of {v:V} {o:Option Value} (r:RelO (some v) o):∃ u,o=some u∧RelV v u:=by
  cases o with
  | none=>exact (show False from r).elim
  | some u=>exact ⟨u,rfl,r⟩
theorem RelO.none_of {o:Option Value} (r:RelO none o):o=none:=by
  cases o with
  | none=>rfl
  | some u=>exact (show False from r).elim
theorem handed_of {v:V} {u:Value} (r:RelV v u):PySem.W.handedIn u=true:=by
  cases v with
  | non=>cases (show u=Value.none from r);rfl
  | bl b=>cases (show u=Value.bool b from r);rfl
  | int i=>obtain ⟨t,e⟩:=(show ∃ t,u=Value.int i t from r);cases e;rfl
  | str x=>obtain ⟨t,e⟩:=(show ∃ t,u=Value.str x t from r);cases e;rfl
  | byt b=>obtain ⟨t,e⟩:=(show ∃ t,u=Value.bytes b t from r);cases e;rfl
  | flt b=>obtain ⟨t,e⟩:=(show ∃ t,u=Value.float b t from r);cases e;rfl
  | ref a=>cases (show u=Value.ref a from r);rfl
  | ty n=>cases (show u=Value.type n from r);rfl
section
variable {P:Program} {w:World} {H H':Hp} {h h':Heap} {a C dx:Addr} {fs fs':List (Str × V)}
theorem ins_get (hok:HOk P w H h) (e:H a=some (.ins C dx fs)):∃ mA,ObjM h a dx C mA∧(∀ f,RelO (fs.lookup f) (mA f))∧PySem.Within mA (fs.map (·.1))∧fs.length≤1000∧H dx=some (.own a):=by
  obtain ⟨d,z,ne,ob,mA,n,r,q⟩:=(show ObjOk P w H h a (.ins C dx fs) from hok a _ e)
  exact ⟨mA,⟨ob,n,ne⟩,r,q,z,d⟩
end
structure Cls (K:PySem.W.Frag) (C:Addr):Prop where
  pg:PySem.W.plainGet K C Str.empty=true
  hd:PySem.W.hasDictIn K C=true
  po:PySem.W.plainOver K C=true
  sa:PySem.W.findIn K (.ref C) "__setattr__"=some (some (.builtin "object.__setattr__"))
theorem Cls.get {K:PySem.W.Frag} {C:Addr} (c:Cls K C) (f:Str):PySem.W.plainGet K C f=true:=c.pg
def NoAttr (K:PySem.W.Frag) (C:Addr) (f:Str):Prop:=PySem.W.findIn K (.ref C) f=some none
theorem NoAttr.taker {K:PySem.W.Frag} {C:Addr} {f:Str} (n:NoAttr K C f):PySem.W.takerIn K C f=some none:=by
  unfold PySem.W.takerIn
  rw [show PySem.W.findIn K (.ref C) f=some none from n]
  rfl
structure Con (K:PySem.W.Frag) (C:Addr) (f:Str) (v:V) (u:Value):Prop where
  at_:PySem.W.findIn K (.ref C) f=some (some u)
  rel:RelV v u
  get:PySem.W.specialIn K u "__get__"=some none
  cp:PySem.W.copiedNames.contains f=false
structure Meth (K:PySem.W.Frag) (C:Addr) (m:Str) (f:Addr):Prop where
  at_:PySem.W.findIn K (.ref C) m=some (some (.ref f))
  fn:PySem.W.isFn K (.ref f)=true
  kp:PySem.W.keepIn K (.ref f)=true
section
variable {X:Cx} {pins:List (Addr × Obj)} {σ:St} {H:Hp} {s:Shared} {a C dx:Addr} {fs:List (Str × V)} {f:Str} {v:V} {A:Around} {E:Value→Shared→Prop}
theorem getattr_ok {b:Bool} {Q:Value→Shared→Prop} (I:Inv X pins σ H s) (e:H a=some (.ins C dx fs)) (c:Cls X.K C) (n:NoAttr X.K C f) (l:fs.lookup f=some v)
    (h:∀ u s',Inv X pins σ H s'→RelV v u→Q u s'):wpAny (model X.prog X.w) A (getAttr (.ref a) f b) Q E s:=by
  obtain ⟨mA,O,r,_,_,_⟩:=ins_get I.hok e
  obtain ⟨u,hu,ru⟩:=RelO.some_of (v:=v) (o:=mA f) (by rw [← l];exact r f)
  exact get_map I.kIn O (c.get f) c.hd n hu (handed_of ru) (h u _ (I.tok _) ru)
theorem getmeth_ok {m:Str} {g:Addr} {pl:Sem Bool} {Q:Value × List Value→Shared→Prop} (I:Inv X pins σ H s) (e:H a=some (.ins C dx fs)) (c:Cls X.K C) (k:Meth X.K C m g) (l:fs.lookup m=none)
    (h:Q (.ref g,[.ref a]) s):wpAny (model X.prog X.w) A (getMethod (.ref a) m pl) Q E s:=by
  obtain ⟨mA,O,r,_,_,_⟩:=ins_get I.hok e
  have hn:mA m=none:=RelO.none_of (by rw [← l];exact r m)
  exact get_meth I.kIn O (c.get m) k.at_ k.fn hn h
theorem setattr_ok {y:V} {u:Value} {Q:Unit→Shared→Prop} (I:Inv X pins σ H s) (e:H a=some (.ins C dx fs)) (c:Cls X.K C) (n:NoAttr X.K C f) (hl:fs.length<1000) (ry:RelV y u)
    (h:∀ s',Inv X pins σ (upd H a (.ins C dx (putF f y fs))) s'→Q () s'):wpAny (model X.prog X.w) A (setAttr (.ref a) f u) Q E s:=by
  obtain ⟨mA,O,r,wi,_,ho⟩:=ins_get I.hok e
  have hz:(fs.map (·.1)).length≤sizeLine:=by rw [List.length_map,sizeLine_eq];omega
  refine set_map I.kIn O c.sa c.po n.taker c.hd wi hz fun h' O' sb=>h _ ?_
  have hd:∃ o,h'.get? dx=some o:=let ⟨o,_,_,e',_⟩:=O'.ns;⟨o,e'⟩
  refine I.write (x:=a) (e:=dx) (by rw [e];exact True.intro) (.inr ho) (fun b q hb z=>(sb.2 b hb).trans z) hd ?_
  refine ⟨by rw [upd_ne O.ne];exact ho,?_,O.ne,O'.obj,_,O'.ns,fun g=> ?_,fun g hg=> ?_⟩
  · have:=length_putF f y fs;omega
  · show RelO ((putF f y fs).lookup g) (if g=f then some u else mA g)
    rw [lookup_putF]
    by_cases q:g=f
    · rw [if_pos q,if_pos q];exact ry
    · rw [if_neg q,if_neg q];exact r g
  · by_cases q:g=f
    · rw [q];exact (keys_putF f y fs).1
    · refine (keys_putF f y fs).2 g (wi g fun z=>hg ?_)
      show (if g=f then some u else mA g)=none
      rw [if_neg q];exact z
theorem Inv.made (I:Inv X pins σ H s):Inv X pins σ (upd (upd H s.heap.objs.size (.own (s.heap.objs.size+1))) (s.heap.objs.size+1) (.ins C s.heap.objs.size []))
    { s with heap:=(s.heap.push PySem.W.emptyDict).push (PySem.W.instObj C s.heap.objs.size) }:=by
  have e1:(s.heap.push PySem.W.emptyDict).get? s.heap.objs.size=some PySem.W.emptyDict:=Heap.get?_push_size s.heap rfl
  have e2:((s.heap.push PySem.W.emptyDict).push (PySem.W.instObj C s.heap.objs.size)).get? (s.heap.objs.size+1)=some (PySem.W.instObj C s.heap.objs.size):=by
    have:=Heap.get?_push_size (s.heap.push PySem.W.emptyDict) (o:=PySem.W.instObj C s.heap.objs.size) rfl
    rwa [Heap.size_push] at this
  have e3:(s.heap.push PySem.W.emptyDict).Ns s.heap.objs.size (fun _=>none):=⟨PySem.W.emptyDict, #[],_,e1,rfl,(fun e he=>absurd he (by simp)),fun _=>rfl⟩
  have I1:=I.laid (a:=s.heap.objs.size) (o:= .own (s.heap.objs.size+1)) (h':=s.heap.push PySem.W.emptyDict) (t':=s.toks) (fun b u q=>Heap.get?_push_of_some _ q) (Nat.le_refl _) ⟨_,e1⟩
  refine I1.laid (a:=s.heap.objs.size+1) (o:= .ins C s.heap.objs.size []) (t':=s.toks) (fun b u q=>Heap.get?_push_of_some _ q) (Nat.le_of_eq (Heap.size_push _ _)) ?_
  have ne:s.heap.objs.size≠s.heap.objs.size+1:=Nat.ne_of_lt (Nat.lt_succ_self _)
  refine ⟨by rw [upd_ne ne,upd_same],Nat.zero_le _,ne,e2,fun _=>none,(Heap.Ns1.of_empty e3).at fun o q=>Heap.get?_push_of_some _ q,fun _=>True.intro,fun y hy=>absurd rfl hy⟩
theorem attr_of {prog:Program} {w:World} {env:Env} {e:Expr} {f:Str} {pos:Pos} {s:Shared} {Q:Value→Shared→Prop} (hb:attributeBase e f env (eval e env)=eval e env)
    (h:wpAny (model prog w) A (eval e env) (fun o s₁=>wpAny (model prog w) A (getAttr o f true) Q E s₁) E s):wpAny (model prog w) A (eval (.Attribute e f pos) env) Q E s:=
  Attribute_any_ h (by rw [arm_eval_Attribute,hb])
end
def tFld (K:PySem.W.Frag) (ta:TE) (f:Str):TE:=fun σ H Q=>ta σ H fun x H1=>∃ a C dx fs v,x= .ref a∧H1 a=some (.ins C dx fs)∧Cls K C∧NoAttr K C f∧fs.lookup f=some v∧Q v H1
def sFld (K:PySem.W.Frag) (ta tv:TE) (f:Str):TS:=fun D σ H=>tv σ H fun y H1=>ta σ H1 fun x H2=>∃ a C dx fs,x= .ref a∧H2 a=some (.ins C dx fs)∧Cls K C∧NoAttr K C f∧fs.length<1000∧
  D.nx σ (upd H2 a (.ins C dx (putF f y fs)))
section
variable {X:Cx} {o e value:Expr} {f:Str} {pos pos' tpos:Pos} {ta tv:TE}
theorem pe_fld (he:PE X e ta) (hb:attributeBase e f X.env (eval e X.env)=eval e X.env):PE X (.Attribute e f pos) (tFld X.K ta f):=by
  intro pins s σ H Q I h
  refine attr_of hb (thn (he pins s σ H _ I h) fun u s1 ⟨x,H1,I1,rx,a,C,dx,fs,v,ex,ea,c,n,l,q⟩=> ?_)
  subst ex
  obtain rfl:u=Value.ref a:=rx
  exact getattr_ok I1 ea c n l fun u' s2 I2 ru=>⟨v,H1,I2,ru,q⟩
theorem ps_fld (ha:PE X o ta) (hv:PE X value tv) (hs:swapsWith value (some (.Attribute o f pos')) pos.line X.env=pure false):PS X (.Assign [.Attribute o f pos'] value pos) (sFld X.K ta tv f):=by
  intro pins s σ H D I h
  refine plainObj_wpAny_Assign_Attribute (thn (hv pins s σ H _ I h) fun u s1 ⟨y,H1,I1,ry,q⟩=>thn (ha pins s1 σ H1 _ I1 q) fun ov s2 ⟨x,H2,I2,rx,a,C,dx,fs,ex,ea,c,n,l,q2⟩=> ?_) hs
  subst ex
  obtain rfl:ov=Value.ref a:=rx
  exact setattr_ok I2 ea c n l ry fun s3 I3=>⟨σ,_,I3,q2⟩
theorem methcall_of {pl:Sem Bool} {m:Str} {apos:Pos} {args:List Expr} {pins:List (Addr × Obj)} {s:Shared} {σ:St} {H:Hp} {Q:Value→Shared→Prop} {te:TE} (he:PE X e te) (I:Inv X pins σ H s)
    (h:te σ H fun x H1=>∃ a C dx fs g,x= .ref a∧H1 a=some (.ins C dx fs)∧Cls X.K C∧Meth X.K C m g∧fs.lookup m=none∧
      ∀ s1,Inv X pins σ H1 s1→wpAny (model X.prog X.w) X.A (callWith pos (.ref g) [.ref a] (backTo pos (starEach args X.env)) (backToKw pos (keywordEach [] X.env))) Q X.xe s1)
    (ht:eval (.Call (.Attribute e m apos) args [] pos) X.env=(do
      let ov ← eval e X.env
      standAt apos.atName
      let (f,first) ← holding [ov] (getMethod ov m pl)
      callWith pos f first (backTo pos (starEach args X.env)) (backToKw pos (keywordEach [] X.env)))):
    wpAny (model X.prog X.w) X.A (eval (.Call (.Attribute e m apos) args [] pos) X.env) Q X.xe s:=by
  refine PySem.W.methodCall_KW (pl:=pl) (thn (he pins s σ H _ I h) fun u s1 ⟨x,H1,I1,rx,a,C,dx,fs,g,ex,ea,c,k,l,q⟩=> ?_) ht
  subst ex
  obtain rfl:u=Value.ref a:=rx
  exact getmeth_ok I1 ea c k l (q s1 I1)
end
section
variable {X:Cx} {pins:List (Addr × Obj)} {σ:St} {H:Hp} {s:Shared} {A:Around} {E:Value→Shared→Prop} {Q:Value→Shared→Prop} {c:Value} {b:Bool}
inductive TyOf (K:PySem.W.Frag) (H:Hp):V→Value→Prop where
  | non:TyOf K H .non (.type "NoneType")
  | bl (x:Bool):TyOf K H (.bl x) (.type "bool")
  | int (i:Int):TyOf K H (.int i) (.type "int")
  | str (x:Str):TyOf K H (.str x) (.type "str")
  | flt (x:UInt64):TyOf K H (.flt x) (.type "float")
  | lst {a:Addr} {xs:List V} (e:H a=some (.lst xs)):TyOf K H (.ref a) (.type "list")
  | frz {a:Addr} {o:Obj} {xs:List V} (e:H a=some (.frz o (.lst xs))):TyOf K H (.ref a) (.type "list")
  | tup {a:Addr} {xs:List V} (e:H a=some (.tup xs)):TyOf K H (.ref a) (.type "tuple")
  | dK {a:Addr} {kvs:List (Key × V)} (e:H a=some (.dK kvs)):TyOf K H (.ref a) (.type "dict")
  | dT {a:Addr} {kvs:List (List Key × V)} (e:H a=some (.dT kvs)):TyOf K H (.ref a) (.type "dict")
  | ins {a C dx:Addr} {fs:List (Str × V)} (e:H a=some (.ins C dx fs)) (cl:Cls K C) (ha:PySem.W.findIn K (.ref C) "__class__"=some (some (.builtin "object.__class__")))
      (hn:PySem.W.specialIn K (.builtin "object.__class__") "__get__"=some (some (.builtin "getset_descriptor.__get__"))) (htk:PySem.W.takesIn K (.builtin "object.__class__")=some true)
      (hm:PySem.W.mroIn K C (.type "object")=some true):TyOf K H (.ref a) (.ref C)
theorem isinst_ok {x:V} {u t:Value} (I:Inv X pins σ H s) (rx:RelV x u) (ty:TyOf X.K H x t) (e:PySem.W.kitOne X.K t c=some b) (h:∀ tk,Q (.bool b) { s with toks:=tk }):
    wpAny (model X.prog X.w) A (call (.builtin "isinstance") [u,c]) Q E s:=by
  cases ty with
  | non=>cases (show u=Value.none from rx);exact PySem.W.kia_one PySem.W.kitx_none I.kIn True.intro e (fun z=>nomatch z) h
  | bl y=>cases (show u=Value.bool y from rx);exact PySem.W.kia_one PySem.W.kitx_bool I.kIn True.intro e (fun z=>nomatch z) h
  | int i=>obtain ⟨t,q⟩:=(show ∃ t,u=Value.int i t from rx);cases q;exact PySem.W.kia_one PySem.W.kitx_int I.kIn True.intro e (fun z=>nomatch z) h
  | str y=>obtain ⟨t,q⟩:=(show ∃ t,u=Value.str y t from rx);cases q;exact PySem.W.kia_one PySem.W.kitx_str I.kIn True.intro e (fun z=>nomatch z) h
  | flt y=>obtain ⟨t,q⟩:=(show ∃ t,u=Value.float y t from rx);cases q;exact PySem.W.kia_one PySem.W.kitx_float I.kIn True.intro e (fun z=>nomatch z) h
  | @lst a xs ea=>
    cases (show u=Value.ref a from rx)
    obtain ⟨_,_,n,_,h1⟩:=(show ObjOk X.prog X.w H s.heap a (.lst xs) from I.hok a _ ea)
    exact PySem.W.kia_one PySem.W.kitx_list I.kIn ⟨_,h1,rfl⟩ e (fun z=>nomatch z) h
  | @frz a ob xs ea=>
    cases (show u=Value.ref a from rx)
    obtain ⟨_,_,_,n,_,h1⟩:=(show ObjOk X.prog X.w H s.heap a (.frz ob (.lst xs)) from I.hok a _ ea)
    exact PySem.W.kia_one PySem.W.kitx_list I.kIn ⟨_,h1,rfl⟩ e (fun z=>nomatch z) h
  | @tup a xs ea=>
    cases (show u=Value.ref a from rx)
    obtain ⟨_,_,_,p⟩:=(show ObjOk X.prog X.w H s.heap a (.tup xs) from I.hok a _ ea)
    obtain ⟨o,h1,h2,_⟩:=p
    exact PySem.W.kia_one PySem.W.kitx_tuple I.kIn ⟨o,h1,h2⟩ e (fun z=>nomatch z) h
  | @dK a kvs ea=>
    cases (show u=Value.ref a from rx)
    obtain ⟨_,_,vs,_,p⟩:=(show ObjOk X.prog X.w H s.heap a (.dK kvs) from I.hok a _ ea)
    obtain ⟨o,es,ep,h1,h2,_⟩:=p
    exact PySem.W.kia_one PySem.W.kitx_dict I.kIn ⟨o,h1,h2.1⟩ e (fun z=>nomatch z) h
  | @dT a kvs ea=>
    cases (show u=Value.ref a from rx)
    obtain ⟨_,_,xs,_,o,es,ep,h1,h2,_⟩:=(show ObjOk X.prog X.w H s.heap a (.dT kvs) from I.hok a _ ea)
    exact PySem.W.kia_one PySem.W.kitx_dict I.kIn ⟨o,h1,h2.1⟩ e (fun z=>nomatch z) h
  | @ins a C dx fs ea cl ha hn htk hm=>
    cases (show u=Value.ref a from rx)
    obtain ⟨mA,O,_⟩:=ins_get I.hok ea
    obtain ⟨od,J,_⟩:=O.look
    exact PySem.W.kia_one (PySem.W.kitx_own (cl.get _) cl.hd ha hn htk hm) I.kIn J e (fun z=>nomatch z) h
end
end L2
namespace L2
open PySem PySem.Spec PyProof.Rows
structure Room (k:Nat) (A:Around):Prop where
  hd:A.handled=none
  dp:A.depth+3*k+5<recursionLimit
  un:A.units+16*k+200<cLine
theorem Room.mono {j k:Nat} {A:Around} (r:Room k A) (h:j≤k):Room j A:=⟨r.hd,by have:=r.dp;omega,by have:=r.un;omega⟩
theorem Room.deeper {k:Nat} {A:Around} (r:Room (k+1) A) (env:Env):Room k (A.deeper env):=
  ⟨r.hd,by have:=r.dp;show A.depth+1+3*k+5<_;omega,by have:=r.un;show A.units+3+16*k+200<_;omega⟩
theorem make_depth {A:Around} {C:Addr} {us:List Value} {kw:List (Str × Value)}:(A.under (.builtin "type.__call__" ⟨.ref C::us,kw⟩)).depth=A.depth+1:=by
  first | rfl | simp [Around.under,Code.weight,Code.isCreation,Code.isGuard,Code.isCaller,Code.frames,Code.isFrame,guardIds]
theorem make_units {A:Around} {C:Addr} {us:List Value} {kw:List (Str × Value)}:(A.under (.builtin "type.__call__" ⟨.ref C::us,kw⟩)).units=A.units+1:=by
  first | rfl | simp [Around.under,Code.cUnits,Code.frames,Code.isFrame]
theorem Room.make {k:Nat} {A:Around} (r:Room (k+1) A) (C:Addr) (us:List Value) (kw:List (Str × Value)):Room k (A.under (.builtin "type.__call__" ⟨.ref C::us,kw⟩)):=
  ⟨r.hd,by have:=r.dp;rw [make_depth];omega,by have:=r.un;rw [make_units];omega⟩
theorem Room.depth {k:Nat} {A:Around} (r:Room k A):A.depth<recursionLimit:=by have:=r.dp;omega
theorem Room.units {k:Nat} {A:Around} (r:Room k A):A.units+64<cLine:=by have:=r.un;omega
theorem Room.units0 {k:Nat} {A:Around} (r:Room k A):A.units<cLine:=by have:=r.un;omega
def tNil:TA:=fun _ H Q=>Q [] H
def tCons (ta:TE) (tr:TA):TA:=fun σ H Q=>ta σ H fun x H1=>tr σ H1 fun xs H2=>Q (x::xs) H2
section
variable {X:Cx} {e:Expr} {es:List Expr} {te:TE} {t:TA} {pos:Pos}
theorem pa_nil:PA X [] tNil:=fun _ _ _ _ H Q I h=>Calls.spliced_nil ⟨[],H,I, .nil,h⟩
theorem pa_cons (ha:PE X e te) (hr:PA X es t) (hs:starEach (e::es) X.env=(false,eval e X.env)::starEach es X.env:=by rfl):PA X (e::es) (tCons te t):=by
  intro pos pins s σ H Q I h
  rw [hs]
  show wpAny _ _ (spliced ((false,eval e X.env)::backTo pos (starEach es X.env))) _ _ s
  refine Calls.spliced_cons (thn (ha pins s σ H _ I h) fun u s1 ⟨x,H1,I1,r1,q1⟩=> ?_)
  exact thn (hr pos pins s1 σ H1 _ I1 q1) fun us s2 ⟨xs,H2,I2,r2,q2⟩=>⟨x::xs,H2,I2, .cons r1 r2,q2⟩
def tTup (t:TA):TE:=fun σ H Q=>t σ H fun xs H1=>xs.length≤sizeLine∧∀ p,H1 p=none→Q (.ref p) (upd H1 p (.tup xs))
def tLst (t:TA):TE:=fun σ H Q=>t σ H fun xs H1=>xs.length≤sizeLine∧∀ p,H1 p=none→Q (.ref p) (upd H1 p (.lst xs))
theorem pe_tup {x1} (h:PA X es t):PE X (.Tuple es x1 pos) (tTup t):=by
  intro pins s σ H Q I hq
  refine wpAny_Tuple_spliced (thn (h pos pins s σ H _ I hq) fun us s1 ⟨xs,H1,I1,r,z,q⟩=>⟨by rw [← r.length];exact z,?_⟩)
  have hf:H1 s1.heap.objs.size=none:=I1.hok.fresh (Nat.le_refl _)
  refine ⟨.ref s1.heap.objs.size,upd H1 s1.heap.objs.size (.tup xs),I1.laid (t':=s1.toks) (fun b u e=>Heap.get?_push_of_some _ e) (Nat.le_refl _) ?_,rfl,q _ hf⟩
  exact ⟨z,us,r,⟨_,Heap.get?_push_size _ rfl,rfl,_,rfl⟩⟩
theorem pe_lst (h:PA X es t):PE X (.List es pos) (tLst t):=by
  intro pins s σ H Q I hq
  refine wpAny_List_spliced (thn (h pos pins s σ H _ I hq) fun us s1 ⟨xs,H1,I1,r,z,q⟩=>⟨by rw [← r.length];exact z,?_⟩)
  have hf:H1 s1.heap.objs.size=none:=I1.hok.fresh (Nat.le_refl _)
  refine ⟨.ref s1.heap.objs.size,upd H1 s1.heap.objs.size (.lst xs),I1.laid (t':=s1.toks) (fun b u e=>Heap.get?_push_of_some _ e) (Nat.le_refl _) ?_,rfl,q _ hf⟩
  exact ⟨z,us,0,r,Heap.get?_push_size _ rfl⟩
end
abbrev Sp:=List V→Hp→VK→XK→Prop
abbrev CXT:=List Env→Hp→Shared→XK→Value→Shared→Prop
structure Env0 (P:Program) (w:World) (K:PySem.W.Frag) (mg:Str→Option Value) (base:Heap) (A:Around) (outer:List Env) (s:Shared) (H:Hp):Prop where
  frames:A.frames=some outer
  mod:Mod K mg base
  bs:∀ b o,base.get? b=some o→s.heap.get? b=some o∧H b=none
  bsz:base.objs.size≤s.heap.objs.size
  funs:s.heap.FunFrames base outer
  frf:∀ b∈frs outer,H b=none
  hok:HOk P w H s.heap
  bare:AllBare s.gens
def CE (outer:List Env) (P:Program) (w:World) (H:Hp) (s:Shared) (Q:VK) (u:Value) (s':Shared):Prop:=
  ∃ v H',s'.os=s.os∧AllBare s'.gens∧Un (frs outer) [] H H' s.heap s'.heap∧HOk P w H' s'.heap∧RelV v u∧Q v H'
def CR (CX:CXT) (outer:List Env) (P:Program) (w:World) (H:Hp) (s:Shared) (Q:VK) (E:XK) (r:Result) (s':Shared):Prop:=
  match r with
  | .ok (.ret u)=>CE outer P w H s Q u s'
  | .ok _=>False
  | .error e=>CX outer H s E e s'
structure FnOk (P:Program) (w:World) (K:PySem.W.Frag) (mg:Str→Option Value) (base:Heap) (CX:CXT) (k:Nat) (f:Addr) (fd:FuncData) (ps:List Str) (sp:Sp):Prop where
  len:∀ vs H Q E,sp vs H Q E→vs.length=ps.length
  run:∀ (A:Around) (outer:List Env) (s:Shared) (H:Hp) (args:Args) (us:List Value) (vs:List V) (Q:VK) (E:XK),Room k A→Env0 P w K mg base A outer s H→BindsTo s fd args (ps.zip us)→Vals vs us→sp vs H Q E→
    codeAny (model P w) A (.call (.ref f) args) (CR CX outer P w H s Q E) s
theorem Env0.make {P:Program} {w:World} {K:PySem.W.Frag} {mg:Str→Option Value} {base:Heap} {A:Around} {outer:List Env} {s:Shared} {H:Hp} (e:Env0 P w K mg base A outer s H) (C:Addr) (us:List Value) (kw:List (Str × Value)):
    Env0 P w K mg base (A.under (.builtin "type.__call__" ⟨.ref C::us,kw⟩)) outer s H:=⟨by first | exact e.frames | (simpa [Around.under,Code.envs,Code.isFrame,pushEnvs] using e.frames),e.mod,e.bs,e.bsz,e.funs,e.frf,e.hok,e.bare⟩
section
variable {X:Cx} {pins:List (Addr × Obj)} {σ:St} {H:Hp} {s s':Shared}
theorem Inv.env0 (I:Inv X pins σ H s):Env0 X.prog X.w X.K X.mg X.base X.A X.stack s H:=
  ⟨I.ok.frames,I.ok.mod,I.bs,Nat.le_trans I.ok.bsz I.sz,I.stack,I.stkFree,I.hok,I.bare⟩
theorem Inv.after {Q:VK} {u:Value} (I:Inv X pins σ H s) (h:CE X.stack X.prog X.w H s Q u s'):EP X pins σ Q u s':=by
  obtain ⟨v,H',os,bare,un,hok,r,q⟩:=h
  obtain ⟨hh,g,d,t,os'⟩:=s'
  obtain rfl:os'=s.os:=os
  exact ⟨v,H',I.call (h':=hh) (g':=g) (d':=d) (t':=t) (ch:=[]) un hok bare (fun b z=>absurd z (by simp)),r,q⟩
end
def tCall (sp:Sp) (dvs:List V) (E:XK) (t:TA):TE:=fun σ H Q=>t σ H fun vs H1=>sp (vs++dvs) H1 Q E
def tMeth (C:Addr) (m:Str) (sp:Sp) (dvs:List V) (E:XK) (ta:TE) (t:TA):TE:=fun σ H Q=>ta σ H fun x H1=>∃ a dx fs,x= .ref a∧H1 a=some (.ins C dx fs)∧fs.lookup m=none∧
  t σ H1 fun vs H2=>sp (x::(vs++dvs)) H2 Q E
def tMake (C:Addr) (sp:Sp) (dvs:List V) (E:XK) (t:TA):TE:=fun σ H Q=>t σ H fun vs H1=>∀ x dx,H1 x=none→H1 dx=none→dx≠x→
  sp (.ref x::(vs++dvs)) (upd (upd H1 dx (.own x)) x (.ins C dx [])) (fun v H2=>v= .non∧Q (.ref x) H2) E
def Binds (K:PySem.W.Frag) (fd:FuncData) (ps:List Str) (ds:List Value):Prop:=
  ∀ (s:Shared) (us:List Value),K.In s.heap→(us++ds).length=ps.length→BindsTo s fd ⟨us,[]⟩ (ps.zip (us++ds))
theorem Binds.all {K:PySem.W.Frag} {fd:FuncData} {ps:List Str} (h:∀ us:List Value,us.length=ps.length→bindArgs fd ⟨us,[]⟩=pure (ps.zip us)):Binds K fd ps []:=fun s us _ hl=>by
  rw [List.append_nil] at hl ⊢
  exact .of_eq (h us hl)
def Passes (CX:CXT) (X:Cx) (E:XK):Prop:=∀ (pins:List (Addr × Obj)) (σ:St) (H:Hp) (s:Shared) (e:Value) (s':Shared),Inv X pins σ H s→CX X.stack H s E e s'→X.xe e s'
section
variable {X:Cx} {CX:CXT} {k:Nat} {f C:Addr} {fd:FuncData} {ps:List Str} {sp:Sp} {dvs:List V} {ds:List Value} {E:XK} {x m:Str} {p pos apos:Pos} {e o:Expr} {es:List Expr} {ta:TE} {t:TA}
theorem run_fn {pins:List (Addr × Obj)} {σ:St} {H:Hp} {s:Shared} {Q:VK} {us:List Value} {vs:List V} (F:FnOk X.prog X.w X.K X.mg X.base CX k f fd ps sp) (hr:Room k X.A) (hb:Binds X.K fd ps ds) (hd:Vals dvs ds) (hx:Passes CX X E)
    (I:Inv X pins σ H s) (r:Vals vs us) (h:sp (vs++dvs) H Q E):wpAny (model X.prog X.w) X.A (call (.ref f) us) (EP X pins σ Q) X.xe s:=by
  have r2:Vals (vs++dvs) (us++ds):=r.append hd
  have hl:(us++ds).length=ps.length:=by rw [← r2.length];exact F.len _ _ _ _ h
  refine wpAny_call (codeAny_mono (F.run X.A X.stack s H ⟨us,[]⟩ (us++ds) (vs++dvs) Q E hr I.env0 (hb s us I.kIn hl) r2 h) fun r s' hq=> ?_)
  cases r with
  | error e=>exact hx pins σ H s e s' I hq
  | ok fl=>
    cases fl with
    | ret u=>exact I.after hq
    | next=>exact False.elim hq
    | brk=>exact False.elim hq
    | cont=>exact False.elim hq
theorem pe_call (F:FnOk X.prog X.w X.K X.mg X.base CX k f fd ps sp) (hr:Room k X.A) (hg:Gl X x) (hm:X.mg x=some (.ref f)) (hk:PySem.W.keepIn X.K (.ref f)=true) (hb:Binds X.K fd ps ds) (hd:Vals dvs ds) (hx:Passes CX X E)
    (ha:PA X (e::es) t) (hdb:(x == ("__debug__":Str))=false:=by decide) (he:starEach (e::es) X.env=(false,eval e X.env)::starEach es X.env:=by rfl) (hpl:(backTo pos (starEach es X.env)).any (·.1)=false:=by rfl):
    PE X (.Call (.Name x p) (e::es) [] pos) (tCall sp dvs E t):=by
  intro pins s σ H Q I h
  refine wpAny_Call_Name_kw (ld_glob I hg hm ?_ hdb)
  refine PySem.W.callWith_K (h₀:=X.base) I.ok.mod.kin hk (thn (ha pos pins s σ H _ I h) fun us s1 ⟨vs,H1,I1,r,q⟩=>⟨I1.kIn,?_⟩) he hpl
  exact run_fn F hr hb hd hx I1 r q
theorem pe_meth {pl:Sem Bool} (he:PE X o ta) (c:Cls X.K C) (hm:Meth X.K C m f) (F:FnOk X.prog X.w X.K X.mg X.base CX k f fd ps sp) (hr:Room k X.A) (hb:Binds X.K fd ps ds) (hd:Vals dvs ds) (hx:Passes CX X E) (ha:PA X (e::es) t)
    (hst:starEach (e::es) X.env=(false,eval e X.env)::starEach es X.env:=by rfl) (hpl:(backTo pos (starEach es X.env)).any (·.1)=false:=by rfl)
    (ht:eval (.Call (.Attribute o m apos) (e::es) [] pos) X.env=(do
      let ov ← eval o X.env
      standAt apos.atName
      let (f,first) ← holding [ov] (getMethod ov m pl)
      callWith pos f first (backTo pos (starEach (e::es) X.env)) (backToKw pos (keywordEach [] X.env))):=by rfl):
    PE X (.Call (.Attribute o m apos) (e::es) [] pos) (tMeth C m sp dvs E ta t):=by
  intro pins s σ H Q I h
  refine PySem.W.methodCall_KW (pl:=pl) (thn (he pins s σ H _ I h) fun u s1 ⟨x,H1,I1,rx,a,dx,fs,ex,ea,l,q⟩=> ?_) ht
  subst ex
  obtain rfl:u=Value.ref a:=rx
  refine getmeth_ok I1 ea c hm l ?_
  refine PySem.W.callWith_K (first:=[.ref a]) (h₀:=X.base) I.ok.mod.kin hm.kp (thn (ha pos pins s1 σ H1 _ I1 q) fun us s2 ⟨vs,H2,I2,r,q2⟩=>⟨I2.kIn,?_⟩) hst hpl
  exact run_fn (us:= .ref a::us) (vs:= .ref a::vs) F hr hb hd hx I2 (.cons rfl r) q2
theorem pe_meth0 {pl:Sem Bool} (he:PE X o ta) (c:Cls X.K C) (hm:Meth X.K C m f) (F:FnOk X.prog X.w X.K X.mg X.base CX k f fd ps sp) (hr:Room k X.A) (hb:Binds X.K fd ps ds) (hd:Vals dvs ds) (hx:Passes CX X E)
    (ht:eval (.Call (.Attribute o m apos) [] [] pos) X.env=(do
      let ov ← eval o X.env
      standAt apos.atName
      let (f,first) ← holding [ov] (getMethod ov m pl)
      callWith pos f first (backTo pos (starEach [] X.env)) (backToKw pos (keywordEach [] X.env))):=by rfl):
    PE X (.Call (.Attribute o m apos) [] [] pos) (tMeth C m sp dvs E ta tNil):=by
  intro pins s σ H Q I h
  refine PySem.W.methodCall_KW (pl:=pl) (thn (he pins s σ H _ I h) fun u s1 ⟨x,H1,I1,rx,a,dx,fs,ex,ea,l,q⟩=> ?_) ht
  subst ex
  obtain rfl:u=Value.ref a:=rx
  refine getmeth_ok I1 ea c hm l ?_
  exact PySem.W.callWith_K0 (first:=[.ref a]) I1.kIn hm.kp (run_fn (us:=[.ref a]) (vs:=[.ref a]) F hr hb hd hx I1 (.cons rfl .nil) q)
structure Mk (K:PySem.W.Frag) (C f:Addr):Prop where
  makes:PySem.W.makesIn K C=true
  init:PySem.W.findIn K (.ref C) "__init__"=some (some (.ref f))
  fn:PySem.W.isFn K (.ref f)=true
  kp:PySem.W.keepIn K (.ref C)=true
theorem run_make {pins:List (Addr × Obj)} {σ:St} {H:Hp} {s:Shared} {Q:VK} {us:List Value} {vs:List V} (M:Mk X.K C f) (F:FnOk X.prog X.w X.K X.mg X.base CX k f fd ps sp) (hr:Room (k+1) X.A) (hb:Binds X.K fd ps ds) (hd:Vals dvs ds)
    (hx:Passes CX X E) (I:Inv X pins σ H s) (r:Vals vs us)
    (h:∀ x dx,H x=none→H dx=none→dx≠x→sp (.ref x::(vs++dvs)) (upd (upd H dx (.own x)) x (.ins C dx [])) (fun v H2=>v= .non∧Q (.ref x) H2) E):
    wpAny (model X.prog X.w) X.A (call (.ref C) us) (EP X pins σ Q) X.xe s:=by
  have hq:=h (s.heap.objs.size+1) s.heap.objs.size (I.hok.fresh (Nat.le_succ _)) (I.hok.fresh (Nat.le_refl _)) (Nat.ne_of_lt (Nat.lt_succ_self _))
  have I2:=Inv.made (C:=C) I
  have r2:Vals (V.ref (s.heap.objs.size+1)::(vs++dvs)) (Value.ref (s.heap.objs.size+1)::(us++ds)):= .cons rfl (r.append hd)
  have hl:(Value.ref (s.heap.objs.size+1)::us++ds).length=ps.length:=by
    have e:=r2.length
    rw [F.len _ _ _ _ hq] at e
    exact e.symm
  refine wpAny_call (make_map (f:=f) I.kIn M.makes M.init (beq_iff_eq.mp M.fn) (codeAny_mono (F.run _ X.stack _ _ ⟨Value.ref (s.heap.objs.size+1)::us,[]⟩ (Value.ref (s.heap.objs.size+1)::(us++ds)) _ _ E (hr.make C us [])
    (I2.env0.make C us []) (hb _ (Value.ref (s.heap.objs.size+1)::us) I2.kIn hl) r2 hq) fun r s' hq'=> ?_))
  cases r with
  | error e=>exact hx pins σ _ _ e s' I2 hq'
  | ok fl=>
    cases fl with
    | ret u=>
      obtain ⟨v,H',I3,rv,ev,q3⟩:=I2.after hq'
      subst ev
      exact ⟨rv,⟨V.ref (s.heap.objs.size+1),H',I3,rfl,q3⟩⟩
    | next=>exact False.elim hq'
    | brk=>exact False.elim hq'
    | cont=>exact False.elim hq'
theorem pe_make (M:Mk X.K C f) (F:FnOk X.prog X.w X.K X.mg X.base CX k f fd ps sp) (hr:Room (k+1) X.A) (hg:Gl X x) (hm:X.mg x=some (.ref C)) (hb:Binds X.K fd ps ds) (hd:Vals dvs ds) (hx:Passes CX X E)
    (ha:PA X (e::es) t) (hdb:(x == ("__debug__":Str))=false:=by decide) (he:starEach (e::es) X.env=(false,eval e X.env)::starEach es X.env:=by rfl) (hpl:(backTo pos (starEach es X.env)).any (·.1)=false:=by rfl):
    PE X (.Call (.Name x p) (e::es) [] pos) (tMake C sp dvs E t):=by
  intro pins s σ H Q I h
  refine wpAny_Call_Name_kw (ld_glob I hg hm ?_ hdb)
  refine PySem.W.callWith_K (h₀:=X.base) I.ok.mod.kin M.kp (thn (ha pos pins s σ H _ I h) fun us s1 ⟨vs,H1,I1,r,q⟩=>⟨I1.kIn,?_⟩) he hpl
  exact run_make M F hr hb hd hx I1 r q
end
section
variable {X:Cx} {CX:CXT} {k:Nat} {f C:Addr} {fd:FuncData} {ps ks:List Str} {sp:Sp} {E:XK} {x m:Str} {p pos apos kpos:Pos} {e o:Expr} {es:List Expr} {kws:List Keyword} {te ta:TE} {t tk:TA} {nm:Option Str}
structure KBinds (K:PySem.W.Frag) (fd:FuncData) (ps ks:List Str) (g:List Value→List Value→List Value) (gV:List V→List V→List V):Prop where
  to:∀ (s:Shared) (us ws:List Value),K.In s.heap→(g us ws).length=ps.length→BindsTo s fd ⟨us,ks.zip ws⟩ (ps.zip (g us ws))
  rel:∀ {vs:List V} {us:List Value} {zs:List V} {ws:List Value},Vals vs us→Vals zs ws→Vals (gV vs zs) (g us ws)
variable {g:List Value→List Value→List Value} {gV:List V→List V→List V}
end
structure FnScope (N P:List Str) (sc:Scope):Prop where
  kind:sc.kind= .function
  co:sc.isCoroutine=false
  gen:sc.isGenerator=false
  nd:N.Nodup
  pre:N.take P.length=P
  par:∀ x∈P,sc.names.lookup x=some .local∨sc.names.lookup x=some .cell
  nofree:∀ y∈sc.names,y.2≠ .free
theorem bindL_out {kindOf:Str→Option NameKind} {x:Str}:∀ {binds:List (Str × Value)} {m:Str→Option Value},(∀ v,(x,v)∉binds)→bindL kindOf binds m x=m x
  | [],_,_=>rfl
  | (n,v)::r,m,h=>by
    unfold bindL
    rw [bindL_out fun w hw=>h w (List.mem_cons_of_mem _ hw)]
    split
    · have:x≠n:=by rintro rfl;exact h v List.mem_cons_self
      simp [this]
    · rfl
theorem bindC_out {kindOf:Str→Option NameKind} {x:Str}:∀ {binds:List (Str × Value)} {m:Str→Option Value},(∀ v,(x,v)∉binds)→bindC kindOf binds m x=m x
  | [],_,_=>rfl
  | (n,v)::r,m,h=>by
    unfold bindC
    rw [bindC_out fun w hw=>h w (List.mem_cons_of_mem _ hw)]
    split
    · rfl
    · have:x≠n:=by rintro rfl;exact h v List.mem_cons_self
      simp [this]
theorem bindL_get {kindOf:Str→Option NameKind} {x:Str} {v:Value}:∀ {P:List Str} {vs:List Value} {i:Nat} {m:Str→Option Value},P.Nodup→P[i]?=some x→vs[i]?=some v→kindOf x=some .local→
    bindL kindOf (P.zip vs) m x=some v
  | [],_,_,_,_,h,_,_=>by simp at h
  | _::_,[],_,_,_,_,h,_=>by simp at h
  | p::P,w::vs,0,m,nd,h1,h2,hk=>by
    simp at h1 h2;subst h1;subst h2
    show bindL kindOf ((p,w)::P.zip vs) m p=_
    unfold bindL
    rw [bindL_out fun v hv=>(List.nodup_cons.mp nd).1 (List.of_mem_zip hv).1,if_pos hk]
    simp
  | p::P,w::vs,i+1,m,nd,h1,h2,hk=>by
    show bindL kindOf ((p,w)::P.zip vs) m x=_
    unfold bindL
    exact bindL_get (i:=i) (List.nodup_cons.mp nd).2 (by simpa using h1) (by simpa using h2) hk
theorem bindC_get {kindOf:Str→Option NameKind} {x:Str} {v:Value}:∀ {P:List Str} {vs:List Value} {i:Nat} {m:Str→Option Value},P.Nodup→P[i]?=some x→vs[i]?=some v→kindOf x≠some .local→
    bindC kindOf (P.zip vs) m x=some v
  | [],_,_,_,_,h,_,_=>by simp at h
  | _::_,[],_,_,_,_,h,_=>by simp at h
  | p::P,w::vs,0,m,nd,h1,h2,hk=>by
    simp at h1 h2;subst h1;subst h2
    show bindC kindOf ((p,w)::P.zip vs) m p=_
    unfold bindC
    rw [bindC_out fun v hv=>(List.nodup_cons.mp nd).1 (List.of_mem_zip hv).1,if_neg hk]
    simp
  | p::P,w::vs,i+1,m,nd,h1,h2,hk=>by
    show bindC kindOf ((p,w)::P.zip vs) m x=_
    unfold bindC
    exact bindC_get (i:=i) (List.nodup_cons.mp nd).2 (by simpa using h1) (by simpa using h2) hk
def start (N:List Str) (vs:List V):St:=vs.map some++List.replicate (N.length - vs.length) none
def cxOf (CX:CXT) (P:Program) (w:World) (K:PySem.W.Frag) (mg:Str→Option Value) (base:Heap) (N:List Str) (qual:Str) (scope:Scope) (f:Addr) (cd:Value) (A:Around) (outer:List Env) (s:Shared) (H:Hp) (E:XK):Cx where
  prog:=P
  w:=w
  K:=K
  mg:=mg
  base:=base
  A:=A.deeper (envOfC qual scope s.heap.objs.size f cd)
  N:=N
  s₀:=s
  H₀:=H
  env:=envOfC qual scope s.heap.objs.size f cd
  outer:=outer
  stack:=envOfC qual scope s.heap.objs.size f cd::outer
  ex:=[]
  calm:=true
  fn:=fun _=>true
  pn:=[]
  xe:=fun e s'=>wpAny (model P w) (A.deeper (envOfC qual scope s.heap.objs.size f cd)) (leaving (envOfC qual scope s.heap.objs.size f cd) e) (fun _ s''=>CX outer H s E e s'') (fun e' s''=>CX outer H s E e' s'') s'
theorem cell_has {sc:Scope} {n:Nat} {x:Str} (h:sc.names.lookup x=some .cell):∃ c,(cellsFrom n sc.names []).lookup x=some c:=by
  have q:=PySem.W.cellsFrom_some sc.names n [] (.inl h)
  exact Option.isSome_iff_exists.mp q
theorem inv_start {CX:CXT} {P:Program} {w:World} {K:PySem.W.Frag} {mg:Str→Option Value} {base:Heap} {N ps:List Str} {qual:Str} {scope:Scope} {f:Addr} {cd:Value} {A:Around} {outer:List Env} {s s1:Shared} {H:Hp} {E:XK} {us:List Value} {vs:List V}
    (S:FnScope N ps scope) (hd:A.handled=none) (e0:Env0 P w K mg base A outer s H) (hl:vs.length=ps.length) (r:Vals vs us)
    (x:InCallC s s.heap.objs.size (bindL (envOfC qual scope s.heap.objs.size f cd).kindOf (ps.zip us) fun _=>none) (cellsFrom (s.heap.objs.size+1) scope.names []) (bindC (envOfC qual scope s.heap.objs.size f cd).kindOf (ps.zip us) fun _=>none) s1):
    Inv (cxOf CX P w K mg base N qual scope f cd A outer s H E) [] (start N vs) H s1:=by
  have hpl:ps.length≤N.length:=by have:=congrArg List.length S.pre;rw [List.length_take] at this;omega
  obtain ⟨h1,tk,rfl,hk⟩:=x.done
  have noA:∀ b:Addr,b∉(cxOf CX P w K mg base N qual scope f cd A outer s H E).ex:=fun b z=>absurd (show b∈([]:List Addr) from z) (by simp)
  refine ⟨⟨e0.mod,S.kind,rfl,rfl,Nat.le_refl _,fun y z c h1 h2=> ?_,fun y hy=> ?_,fun y c _ h=> ?_,fun _=>hd,Around.frames_deeper e0.frames, .inr ⟨rfl,rfl⟩,fun b z=>absurd z (noA b),e0.bs,e0.bsz,fun b _ _=>noA b,fun b z=>absurd z (noA b),e0.funs,e0.frf⟩,
    rfl,e0.bare,Un.kept hk,⟨_,x.toInCall.ns,fun i y v h1 h2 h3=> ?_⟩,fun y c h=>⟨_,x.cell y c h⟩,e0.hok.fresh (Nat.le_refl _),fun y c h=> ?_,fun p hp=>absurd (show p∈([]:List (Addr × Obj)) from hp) (by simp),e0.hok.kept hk,?_⟩
  · exact name_of_addr x.apart (PySem.mem_of_lookup h1) (PySem.mem_of_lookup h2)
  · have hy:scope.names.lookup y=some .cell∨scope.names.lookup y=some .free:=hy
    rcases hy with hy | hy
    · exact cell_has hy
    · exact absurd rfl (S.nofree _ (PySem.mem_of_lookup hy))
  · exact Nat.le_of_lt (x.above y c (PySem.mem_of_lookup h))
  · have hi:i<vs.length:=by
      unfold start at h2
      by_cases hi:i<vs.length
      · exact hi
      · rw [List.getElem?_append_right (by simpa using hi)] at h2
        rw [List.getElem?_replicate] at h2
        split at h2 <;> cases h2
    have ha:vs[i]?=some v:=by
      unfold start at h2
      rw [List.getElem?_append_left (by simpa using hi),List.getElem?_map] at h2
      cases e:vs[i]? with
      | none=>rw [e] at h2;cases h2
      | some a=>rw [e] at h2;cases h2;rfl
    obtain ⟨u,hu,rv⟩:=r.get ha
    have hp:ps[i]?=some y:=by
      rw [← S.pre,List.getElem?_take_of_lt (by omega)];exact h1
    have ndP:ps.Nodup:=by rw [← S.pre];exact S.nd.sublist (List.take_sublist _ _)
    refine ⟨u,rv,?_⟩
    rcases S.par y (List.mem_of_getElem? hp) with k | k
    · exact .inl ⟨k,bindL_get ndP hp hu k⟩
    · obtain ⟨c,e⟩:=cell_has (n:=s.heap.objs.size+1) k
      refine .inr ⟨.inl k,c,e,?_⟩
      have q:=x.cell y c e
      rw [bindC_get ndP hp hu (by show scope.names.lookup y≠_;rw [k];decide)] at q
      exact q
  · exact e0.hok.fresh (Nat.le_of_lt (x.above y c (PySem.mem_of_lookup h)))
  · unfold start
    show _=N.length
    rw [List.length_append,List.length_map,List.length_replicate]
    omega
theorem fn_of {CX:CXT} {P:Program} {w:World} {K:PySem.W.Frag} {mg:Str→Option Value} {base:Heap} {k:Nat} {f:Addr} {name qual:Str} {params:Arguments} {body:List Stmt} {scope:Scope} {dV kV doc pm cdv ct oc:Value} {an od:Option Addr}
    {osl:Array (Option Value)} {N ps:List Str} {sp:Sp} (lk:K.lookup f=some ⟨oc,od, .func (PySem.W.fnOf name qual params body scope dV kV doc pm an cdv ct),osl⟩) (hcd:PySem.W.codeIn K cdv qual=true) (S:FnScope N ps scope)
    (len:∀ vs H Q E,sp vs H Q E→vs.length=ps.length)
    (hbody:∀ (A:Around) (outer:List Env) (s:Shared) (H:Hp) (vs:List V) (Q:VK) (E:XK),Room k (A.deeper (envOfC qual scope s.heap.objs.size f cdv))→sp vs H Q E→
      ∃ t,PSs (cxOf CX P w K mg base N qual scope f cdv A outer s H E) body t∧t { nx:=fun _ H'=>Q .non H',rt:=Q } (start N vs) H):
    FnOk P w K mg base CX (k+1) f (PySem.W.fnOf name qual params body scope dV kV doc pm an cdv ct) ps sp:=by
  refine ⟨len,fun A outer s H args us vs Q E hr e0 hb r hsp=> ?_⟩
  have hl:=len _ _ _ _ hsp
  have KX:K.In s.heap:=e0.mod.kin.keeps fun b o e=>(e0.bs b o e).1
  have lim:s.heap.NoLimit:=e0.mod.nolimit.keeps fun b o e=>(e0.bs b o e).1
  have hkind:∀ y∈ps.zip us,scope.names.lookup y.1=some .local∨(scope.names.lookup y.1=some .cell∧((cellsFrom (s.heap.objs.size+1) scope.names []).lookup y.1).isSome=true):=fun ⟨n,v⟩ hy=>by
    rcases S.par n (List.of_mem_zip hy).1 with q | q
    · exact .inl q
    · exact .inr ⟨q,PySem.W.cellsFrom_some _ _ _ (.inl q)⟩
  refine codeAny_call_function hr.depth (KX _ _ lk) rfl S.co S.gen rfl (PySem.W.codeRec_of KX hcd) (hb _ _ _ _ ?_)
  refine wpAny_newFunctionEnv_cells S.kind hkind fun env he s1 x=> ?_
  subst he
  refine ⟨lim.keeps x.toInCall.keep,codeAny_func ?_⟩
  obtain ⟨t,ht,hq⟩:=hbody A outer s H vs Q E (hr.deeper _) hsp
  have I:Inv (cxOf CX P w K mg base N qual scope f cdv A outer s H E) [] (start N vs) H s1:=inv_start S hr.hd e0 hl r x
  refine wpAny_mono (ht [] s1 (start N vs) H _ I hq) (fun fl s' hs=> ?_) fun e s' hs=>hs
  have fin:∀ {σ':St} {H':Hp} {v:V} {u:Value},Inv (cxOf CX P w K mg base N qual scope f cdv A outer s H E) [] σ' H' s'→RelV v u→Q v H'→CE outer P w H s Q u s':=
    fun {σ' H' v u} J rv q=>⟨v,H',J.os,J.bare,J.base,J.hok,rv,q⟩
  cases fl with
  | ret u=>
    obtain ⟨v,σ',H',J,rv,q⟩:=hs
    exact fin J rv q
  | next=>
    obtain ⟨σ',H',J,q⟩:=hs
    exact fin (v:=V.non) (u:=Value.none) J rfl q
  | brk=>
    obtain ⟨_,_,_,q⟩:=hs
    exact False.elim q
  | cont=>
    obtain ⟨_,_,_,q⟩:=hs
    exact False.elim q
end L2
namespace L2
open PySem PySem.Spec PyProof.Rows
section
variable {X:Cx} {x:Str} {p pos:Pos} {e:Expr} {es:List Expr} {t:TA} {id T:String} {r:List V→Hp→VK→Prop}
def tCB (r:List V→Hp→VK→Prop) (t:TA):TE:=fun σ H Q=>t σ H fun vs H1=>r vs H1 Q
theorem pe_callB (hc:CallR X (.builtin id) r) (hg:Gl X x) (hm:X.mg x=none) (hv:bootBuiltins x=some (.builtin id)) (ha:PA X (e::es) t) (hn:x≠"__name__":=by decide) (hdb:(x == ("__debug__":Str))=false:=by decide)
    (he:starEach (e::es) X.env=(false,eval e X.env)::starEach es X.env:=by rfl) (hpl:(backTo pos (starEach es X.env)).any (·.1)=false:=by rfl):PE X (.Call (.Name x p) (e::es) [] pos) (tCB r t):=by
  intro pins s σ H Q I h
  refine wpAny_Call_Name_kw (ld_blt I hg hm hv ?_ hn hdb)
  exact PyProof.Rows.callWith_builtin1 (thn (ha pos pins s σ H _ I h) fun us s1 ⟨vs,H1,I1,r1,q1⟩=>hc pins s1 σ H1 vs us Q I1 r1 q1) he hpl
theorem pe_callTy (hc:CallR X (.type T) r) (hg:Gl X x) (hm:X.mg x=none) (hv:bootBuiltins x=some (.type T)) (ha:PA X (e::es) t) (hn:x≠"__name__":=by decide) (hdb:(x == ("__debug__":Str))=false:=by decide)
    (he:starEach (e::es) X.env=(false,eval e X.env)::starEach es X.env:=by rfl) (hpl:(backTo pos (starEach es X.env)).any (·.1)=false:=by rfl):PE X (.Call (.Name x p) (e::es) [] pos) (tCB r t):=by
  intro pins s σ H Q I h
  refine wpAny_Call_Name_kw (ld_blt I hg hm hv ?_ hn hdb)
  exact PyProof.Rows.callWith_type1 (thn (ha pos pins s σ H _ I h) fun us s1 ⟨vs,H1,I1,r1,q1⟩=>hc pins s1 σ H1 vs us Q I1 r1 q1) he hpl
end
end L2
namespace HT
open PySem PyProof.Rows
section
open PySem.SeqAt
open PySem.AutoSeq1 (wpAny_loadPart')
open PySem.MeetsSeq PySem.MeetsSeq2 PySem.MeetsSeq3
end
section
variable {prog:Program} {w:World} {A:Around} {E:Value→Shared→Prop} {s:Shared}
theorem cat_tup {t b:Addr} {vs ws:List Value} {Q:Value→Shared→Prop} (ht:IsTup s.heap t vs.toArray) (hb:IsTup s.heap b ws.toArray) (hv:vs≠[])
    (h1:ws=[]→Q (.ref t) s) (h2:ws≠[]→Q (.ref s.heap.objs.size) { s with heap:=s.heap.push { cls:= .type "tuple",data:= .seq (vs++ws).toArray } })
    (hsz:vs.length+ws.length≤sizeLine):wpAny (model prog w) A (binaryOp .Add (.ref t) (.ref b)) Q E s:=by
  obtain ⟨⟨cls,dd,data,sl⟩,ho,hc,n,hd⟩:=id ht
  obtain ⟨⟨cls2,dd2,data2,sl2⟩,ho2,hc2,n2,hd2⟩:=id hb
  simp only at hc hd hc2 hd2
  subst hc hd hc2 hd2
  have e:vs.toArray++ws.toArray=(vs++ws).toArray:=by simp
  by_cases hw:ws=[]
  · exact concat_meets ⟨_,ho,rfl⟩ ⟨_,ho2,rfl⟩ noFill_tuple_add seq_tuple_add PySem.F.slot_tuple_add PySem.F.entry_tuple_add (PySem.F.args_tuple_add_2 _ _)
      (tuple_addW1 t b vs.toArray ws.toArray n n2 dd dd2 sl sl2 (by simpa using hv) (by simp [hw])) ⟨ho,ho2,h1 hw⟩
  · refine concat_meets ⟨_,ho,rfl⟩ ⟨_,ho2,rfl⟩ noFill_tuple_add seq_tuple_add PySem.F.slot_tuple_add PySem.F.entry_tuple_add (PySem.F.args_tuple_add_2 _ _)
      (tuple_addW2 t b vs.toArray ws.toArray n n2 dd dd2 sl sl2 (by simpa using hv) (by simpa using hw) (by rw [List.size_toArray,List.size_toArray];exact hsz)) ⟨ho,ho2,?_⟩
    rw [e]
    exact h2 hw
def sIx (n d:Nat):Option Int→Nat
  | none=>d
  | some v=>if v<0 then (v+(n:Int)).toNat else min v.toNat n
theorem sIx_le (n d:Nat) (hd:d≤n) (o:Option Int):sIx n d o≤n:=by
  cases o with
  | none=>exact hd
  | some v=>
    show (if v<0 then (v+(n:Int)).toNat else min v.toNat n)≤n
    by_cases hv:v<0
    · rw [if_pos hv];omega
    · rw [if_neg hv];exact Nat.min_le_right _ _
theorem clip_eq (v:Int) (n d:Nat):(if v<0 then max (v+(n:Int)) 0 else min v (n:Int))=((sIx n d (some v):Nat):Int):=by
  show (if v<0 then max (v+(n:Int)) 0 else min v (n:Int))=(((if v<0 then (v+(n:Int)).toNat else min v.toNat n):Nat):Int)
  by_cases hv:v<0
  · simp only [if_pos hv];omega
  · simp only [if_neg hv];omega
theorem adjust_gen (lo hi:Option Int) (n:Nat):Builtin.Slice.sliceAdjust lo hi 1 (n:Int)=(((sIx n 0 lo:Nat):Int),((sIx n n hi:Nat):Int)):=by
  have h1:¬ ((1:Int)<0):=by omega
  unfold Builtin.Slice.sliceAdjust
  simp only [h1,if_false]
  refine Prod.ext ?_ ?_
  · cases lo with
    | none=>rfl
    | some v=>exact clip_eq v n 0
  · cases hi with
    | none=>rfl
    | some v=>exact clip_eq v n n
theorem places_gen (i j:Nat):Builtin.Slice.slicePlaces (i:Int) (j:Int) 1=j - i:=by
  unfold Builtin.Slice.slicePlaces
  have h1:(1:Int)>0:=by omega
  simp only [h1,if_true,Int.ediv_one]
  split <;> omega
theorem slicePart_ {v:Value} {o:Option Int} {Q:Option Int→Shared→Prop} (p:IsPart v o) (h:Q o s):wpAny (model prog w) A (Builtin.Slice.slicePartIndex v) Q E s:=by
  cases p with
  | none=>exact slicePart_none h
  | int i t=>exact slicePart_int h
theorem sliceApplied_gen {sl:Addr} {vl vu:Value} {lo hi:Option Int} {n:Nat} {Q:Int × Int × Nat→Shared→Prop} (hs:s.heap.IsSliceOf sl vl vu .none) (pl:IsPart vl lo) (pu:IsPart vu hi)
    (h:Q (((sIx n 0 lo:Nat):Int),1,sIx n n hi - sIx n 0 lo) s):wpAny (model prog w) A (Builtin.Slice.sliceApplied (.ref sl) (pure (n:Int))) Q E s:=by
  obtain ⟨os,hos,hcs,hds⟩:=id hs
  unfold Builtin.Slice.sliceApplied Builtin.Slice.sliceFields
  refine wpAny_bind (wpAny_bind (wpAny_field hos hds (x:=vl) rfl (wpAny_bind (wpAny_field hos hds (x:=vu) rfl (wpAny_bind (wpAny_field hos hds (x:= .none) rfl (wpAny_pure ?_)))))))
  refine wpAny_bind (slicePart_none ?_)
  show wpAny _ _ (if ((1:Int) == 0)=true then _ else _) _ _ s
  rw [if_neg (by decide)]
  refine wpAny_bind (slicePart_ pl (wpAny_bind (slicePart_ pu (wpAny_bind (wpAny_pure ?_)))))
  show wpAny _ _ (match Builtin.Slice.sliceAdjust lo hi 1 (n:Int) with | (lo,hi)=>pure (lo,(1:Int),Builtin.Slice.slicePlaces lo hi 1)) _ _ s
  rw [adjust_gen lo hi n]
  show wpAny _ _ (pure (((sIx n 0 lo:Nat):Int),(1:Int),Builtin.Slice.slicePlaces ((sIx n 0 lo:Nat):Int) ((sIx n n hi:Nat):Int) 1)) _ _ s
  rw [places_gen]
  exact wpAny_pure h
theorem pick_gen (xs:Array Value) (i k:Nat):((List.range k).filterMap fun (m:Nat)=>xs[((i:Int)+(m:Int)*1).toNat]?).toArray=((xs.toList.drop i).take k).toArray:=by
  have e:(fun (m:Nat)=>xs[((i:Int)+(m:Int)*1).toNat]?)=fun m=>xs[i+m]?:=by
    funext m
    have:((i:Int)+(m:Int)*1).toNat=i+m:=by omega
    rw [this]
  rw [e]
  have:=pick_run xs i k
  rw [List.filterMap_map] at this
  have e2:((fun x=>xs[x]?)∘fun x=>i+x)=fun m=>xs[i+m]?:=rfl
  rw [e2] at this
  rw [this]
theorem getItem_tuple_cut {t sl:Addr} {items:Array Value} {vl vu:Value} {lo hi:Option Int} {Q:Value→Shared→Prop} (ht:IsTup s.heap t items) (hs:s.heap.IsSliceOf sl vl vu .none) (pl:IsPart vl lo) (pu:IsPart vu hi)
    (hw:¬ (sIx items.size 0 lo=0∧sIx items.size items.size hi=items.size))
    (h:Q (.ref s.heap.objs.size) { s with heap:=s.heap.push { cls:= .type "tuple",data:= .seq ((items.toList.drop (sIx items.size 0 lo)).take (sIx items.size items.size hi - sIx items.size 0 lo)).toArray } })
    (hsz:items.size≤sizeLine):wpAny (model prog w) A (getItem (.ref t) (.ref sl)) Q E s:=by
  have htake:sizeOk (.seq ((items.toList.drop (sIx items.size 0 lo)).take (sIx items.size items.size hi - sIx items.size 0 lo)).toArray):=by
    show ((items.toList.drop (sIx items.size 0 lo)).take (sIx items.size items.size hi - sIx items.size 0 lo)).toArray.size≤sizeLine
    rw [List.size_toArray,List.length_take,List.length_drop,Array.length_toList]
    omega
  have hj:sIx items.size items.size hi≤items.size:=sIx_le _ _ (Nat.le_refl _) hi
  obtain ⟨os,hos,hcs,hds⟩:=id hs
  have hTs:s.TypeIs (.ref sl) "slice":=⟨os,hos,hcs⟩
  unfold getItem
  try with_reducible refine wpAny_holding ?_
  first | refine wpAny_bind (wpAny_pure ?_) | skip
  refine wpAny_bind (wpAny_sequenceKey ht.typeIs (by decide) ?_)
  refine wpAny_bind (wpAny_callSpecial?_slot (name:=Str.ofString "__getitem__") ht.typeIs PyProof.Rows.slot_tuple_getitem
    (wpAny_call_entry PyProof.Rows.slot_tuple_getitem ht.typeIs entry_tuple_getitem ?_ (args_tuple_getitem _ _)))
  show wpAny _ _ (Builtin.Tuple.tupleItemsOf (.ref t) >>= _) _ _ s
  refine wpAny_bind (tupleItemsOf_ ht ?_)
  refine wpAny_bind (wpAny_typeOf hTs ?_)
  rw [if_pos (by decide)]
  refine wpAny_bind (sliceApplied_gen hs pl pu ?_)
  have hno:¬ ((((sIx items.size 0 lo:Nat):Int) == 0&&(1:Int) == 1&&(sIx items.size items.size hi - sIx items.size 0 lo) == items.size)=true):=by
    intro q
    rw [Bool.and_eq_true,Bool.and_eq_true] at q
    have q1:((sIx items.size 0 lo:Nat):Int)=0:=eq_of_beq q.1.1
    have q2:sIx items.size items.size hi - sIx items.size 0 lo=items.size:=eq_of_beq q.2
    exact hw ⟨by omega,by omega⟩
  show wpAny _ _ (if (((sIx items.size 0 lo:Nat):Int) == 0&&(1:Int) == 1&&(sIx items.size items.size hi - sIx items.size 0 lo) == items.size)=true then _ else _) _ _ s
  rw [if_neg hno,pick_gen]
  first
    | exact wpAny_bind (m:=Builtin.Tuple.tupleExact _) (wpAny_newObj_type (wpAny_pure ⟨_,rfl,wpAny_pure h⟩) htake)
    | exact wpAny_bind (m:=Builtin.Tuple.tupleExact _) (wpAny_newObj_type (wpAny_bind (wpAny_pure (wpAny_pure ⟨_,rfl,wpAny_pure h⟩))) htake)
    | exact wpAny_bind (wpAny_bind (m:=Builtin.Tuple.tupleExact _) (wpAny_newObj_type (wpAny_pure (wpAny_pure ⟨_,rfl,wpAny_pure h⟩)) htake))
    | exact wpAny_bind (wpAny_bind (m:=Builtin.Tuple.tupleExact _) (wpAny_newObj_type (wpAny_pure ⟨_,rfl,wpAny_pure h⟩) htake))
end
end HT
namespace L2
open PySem PySem.Spec PyProof.Rows
abbrev TO:=St→Hp→(Option Int→Hp→Prop)→Prop
def PO (X:Cx) (e:Option Expr) (t:TO):Prop:=
  ∀ (pins:List (Addr × Obj)) (s:Shared) (σ:St) (H:Hp) (Q:Option Int→Hp→Prop),Inv X pins σ H s→t σ H Q→
    wpAny (model X.prog X.w) X.A (evalPart e X.env) (fun u s'=>∃ o H',Inv X pins σ H' s'∧IsPart u o∧Q o H') X.xe s
def tNoPart:TO:=fun _ H Q=>Q none H
def tPart (t:TE):TO:=fun σ H Q=>t σ H fun x H1=>∃ i,x= .int i∧Q (some i) H1
theorem intsAre_of {ns:List Int}:∀ {us:List Value},Vals (ns.map V.int) us→IntsAre us ns:=by
  induction ns with
  | nil=>intro us r;rw [List.map_nil] at r;cases r;exact .nil
  | cons n ns ih=>
    intro us r
    rw [List.map_cons] at r
    cases r with
    | cons r1 r2=>
      obtain ⟨t,e⟩:=r1
      subst e
      exact .cons n t (ih r2)
section
variable {X:Cx} {e:Expr} {te:TE} {lo hi:Option Expr} {tl th:TO} {pos p2:Pos}
theorem po_none:PO X none tNoPart:=by
  intro pins s σ H Q I h
  rw [evalPart_none]
  exact wpAny_pure ⟨none,H,I, .none,h⟩
theorem po_some (h:PE X e te):PO X (some e) (tPart te):=by
  intro pins s σ H Q I hw
  rw [evalPart_some]
  refine thn (h pins s σ H _ I hw) fun u s1 ⟨x,H1,I1,r1,q1⟩=> ?_
  obtain ⟨i,rfl,q⟩:=q1
  obtain ⟨t,rfl⟩:=r1
  exact ⟨some i,H1,I1, .int i t,q⟩
def SlR (X:Cx) (r:V→Option Int→Option Int→Hp→VK→Prop):Prop:=
  ∀ (pins:List (Addr × Obj)) (s:Shared) (σ:St) (H:Hp) (x:V) (v vl vu:Value) (lo hi:Option Int) (sl:Addr) (Q:VK),Inv X pins σ H s→RelV x v→s.heap.IsSliceOf sl vl vu .none→IsPart vl lo→IsPart vu hi→r x lo hi H Q→
    ∃ T id,typeLookup (.type T) "__getitem__"=pure (some (.builtin id))∧s.TypeIs v T∧wpAny (model X.prog X.w) X.A (getItem v (.ref sl)) (EP X pins σ Q) X.xe s
def tSl (r:V→Option Int→Option Int→Hp→VK→Prop) (te:TE) (tl th:TO):TE:=fun σ H Q=>te σ H fun x H1=>tl σ H1 fun l H2=>th σ H2 fun u H3=>r x l u H3 Q
theorem pe_slice {r:V→Option Int→Option Int→Hp→VK→Prop} (hr:SlR X r) (he:PE X e te) (hl:PO X lo tl) (hu:PO X hi th):PE X (.Subscript e (.Slice lo hi none p2) pos) (tSl r te tl th):=by
  intro pins s σ H Q I h
  refine Subscript_ (thn (he pins s σ H _ I h) fun v s1 ⟨x,H1,I1,r1,q1⟩=> ?_)
  refine wpAny_Slice (thn (hl pins s1 σ H1 _ I1 q1) fun vl s2 ⟨l,H2,I2,pl,q2⟩=>thn (hu pins s2 σ H2 _ I2 q2) fun vu s3 ⟨u,H3,I3,pu,q3⟩=> ?_)
  rw [evalPart_none]
  refine wpAny_pure ?_
  have I4:Inv X pins σ H3 { s3 with heap:=s3.heap.push { cls:= .type "slice",data:= .fields #[vl,vu, .none] } }:=I3.kept (t':=s3.toks) fun b ob q=>Heap.get?_push_of_some _ q
  obtain ⟨T,id,hT,ht,hg⟩:=hr pins { s3 with heap:=s3.heap.push { cls:= .type "slice",data:= .fields #[vl,vu, .none] } } σ H3 x v vl vu l u s3.heap.objs.size Q I4 r1 (Heap.IsSliceOf.new ..) pl pu q3
  show wpAny (model X.prog X.w) X.A (subscriptTail e (.Slice lo hi none p2) v (.ref s3.heap.objs.size)) (EP X pins σ Q) X.xe { s3 with heap:=s3.heap.push { cls:= .type "slice",data:= .fields #[vl,vu, .none] } }
  exact tail_any (ops:=[.ref s3.heap.objs.size,v]) ht hT hg (by with_unfolding_all rfl)
def cutV (xs:List V) (lo hi:Option Int):List V:=(xs.drop (HT.sIx xs.length 0 lo)).take (HT.sIx xs.length xs.length hi - HT.sIx xs.length 0 lo)
theorem cutV_length (xs:List V) (lo hi:Option Int):(cutV xs lo hi).length≤xs.length:=by
  unfold cutV
  rw [List.length_take,List.length_drop]
  omega
def rSlT (K:PySem.W.Frag):V→Option Int→Option Int→Hp→VK→Prop:=fun x lo hi H Q=>∃ a xs,x= .ref a∧SqT K H a xs∧
  ¬ (HT.sIx xs.length 0 lo=0∧HT.sIx xs.length xs.length hi=xs.length)∧∀ p,H p=none→Q (.ref p) (upd H p (.tup (cutV xs lo hi)))
theorem sl_tup:SlR X (rSlT X.K):=by
  intro pins s σ H x v vl vu lo hi sl Q I rx hs pl pu h
  obtain ⟨a,xs,rfl,hx,hw,q⟩:=h
  cases rx
  obtain ⟨its,r,ht,hz⟩:=I.tuple hx
  have hlen:its.toArray.size=xs.length:=by rw [List.size_toArray];exact r.length.symm
  refine ⟨"tuple",_,PyProof.Rows.slot_tuple_getitem.lookup,ht.typeIs,?_⟩
  refine HT.getItem_tuple_cut ht hs pl pu (by rw [hlen];exact hw) ?_ (by rw [hlen];exact hz)
  rw [hlen]
  refine ⟨.ref s.heap.objs.size,_,I.laid (t':=s.toks) (o:= .tup (cutV xs lo hi)) (fun b ob q=>Heap.get?_push_of_some _ q) (Nat.le_refl _) ?_,rfl,q _ (I.hok.fresh (Nat.le_refl _))⟩
  exact ⟨Nat.le_trans (cutV_length xs lo hi) hz,_,(r.drop (HT.sIx xs.length 0 lo)).take (HT.sIx xs.length xs.length hi - HT.sIx xs.length 0 lo),IsTup.new _ _⟩
def rCatT (K:PySem.W.Frag):R2:=fun x y H Q=>∃ a b xs ys,x= .ref a∧y= .ref b∧SqT K H a xs∧SqT K H b ys∧xs≠[]∧xs.length+ys.length≤sizeLine∧
  (ys=[]→Q (.ref a) H)∧(ys≠[]→∀ p,H p=none→Q (.ref p) (upd H p (.tup (xs++ys))))
theorem Vals.nil_iff {xs:List V} {us:List Value} (r:Vals xs us):us=[]↔xs=[]:=by
  cases r with
  | nil=>simp
  | cons _ _=>simp
theorem op_catT:OpR X (binaryOp .Add) (rCatT X.K):=by
  intro pins s σ H x y v u Q I rx ry h
  obtain ⟨a,b,xs,ys,rfl,rfl,ha,hb,hx,hz,q1,q2⟩:=h
  cases rx
  cases ry
  obtain ⟨its,r1,p1,_⟩:=I.tuple ha
  obtain ⟨its2,r2,p2,_⟩:=I.tuple hb
  refine HT.cat_tup p1 p2 (fun z=>hx (r1.nil_iff.mp z)) (fun z=>⟨.ref a,H,I,rfl,q1 (r2.nil_iff.mp z)⟩) (fun z=> ?_) (by rw [← r1.length, ← r2.length];exact hz)
  refine ⟨.ref s.heap.objs.size,_,I.laid (t':=s.toks) (o:= .tup (xs++ys)) (fun b ob q=>Heap.get?_push_of_some _ q) (Nat.le_refl _) ?_,rfl,q2 (fun w=>z (r2.nil_iff.mpr w)) _ (I.hok.fresh (Nat.le_refl _))⟩
  exact ⟨by rw [List.length_append];exact hz,_,r1.append r2,IsTup.new _ _⟩
end
end L2
namespace L2
open PySem PySem.Spec PyProof.Rows
def ixN (n:Nat) (i:Int):Option Nat:=if 0≤i then (if i<n then some i.toNat else none) else if -(n:Int)≤i then some (i+n).toNat else none
def atI {α:Type} (xs:List α) (i:Int):Option α:=(ixN xs.length i).bind fun j=>xs[j]?
theorem ixN_seq {n:Nat} {i:Int} {j:Nat} (h:ixN n i=some j):seqIndex? i n=some j∧j<n∧ -(n:Int)≤i∧i<n:=by
  unfold ixN at h
  by_cases h0:0≤i
  · rw [if_pos h0] at h
    by_cases h1:i<n
    · rw [if_pos h1] at h
      have e:i.toNat=j:=Option.some.inj h
      exact ⟨by rw [seqIndex_of h0 h1,e],by omega,by omega,h1⟩
    · rw [if_neg h1] at h;cases h
  · rw [if_neg h0] at h
    by_cases h1: -(n:Int)≤i
    · rw [if_pos h1] at h
      have e:(i+n).toNat=j:=Option.some.inj h
      exact ⟨by rw [seqIndex_neg (by omega) h1,e],by omega,h1,by omega⟩
    · rw [if_neg h1] at h;cases h
theorem atI_get {α:Type} {xs:List α} {i:Int} {v:α} (h:atI xs i=some v):∃ j,seqIndex? i xs.length=some j∧xs[j]?=some v∧j<xs.length∧ -(xs.length:Int)≤i∧i<xs.length:=by
  unfold atI at h
  cases e:ixN xs.length i with
  | none=>rw [e] at h;cases h
  | some j=>
    rw [e] at h
    obtain ⟨h1,h2,h3,h4⟩:=ixN_seq e
    exact ⟨j,h1,h,h2,h3,h4⟩
theorem atI_nat {α:Type} {xs:List α} {j:Nat} {v:α} (h:xs[j]?=some v):atI xs (j:Int)=some v:=by
  have hj:j<xs.length:=(List.getElem?_eq_some_iff.mp h).1
  have e:ixN xs.length (j:Int)=some j:=by
    unfold ixN
    rw [if_pos (by omega),if_pos (by omega)];simp
  unfold atI;rw [e];exact h
def PlainIx (b:Expr):Prop:=∀ o i,subscripted b false o i=operate [o,i] (getItem o i)
def IxR (X:Cx) (r:R2):Prop:=
  ∀ (value slice:Expr) (pins:List (Addr × Obj)) (s:Shared) (σ:St) (H:Hp) (x y:V) (v u:Value) (Q:VK),Inv X pins σ H s→RelV x v→RelV y u→r x y H Q→
    subscripted slice false v u=operate [v,u] (getItem v u)→wpAny (model X.prog X.w) X.A (subscriptTail value slice v u) (EP X pins σ Q) X.xe s
def MtR (X:Cx) (id:String) (r:V→List V→Hp→VK→Prop):Prop:=
  ∀ (pins:List (Addr × Obj)) (s:Shared) (σ:St) (H:Hp) (x:V) (xs:List V) (v:Value) (us:List Value) (Q:VK),Inv X pins σ H s→RelV x v→Vals xs us→r x xs H Q→
    wpAny (model X.prog X.w) X.A (call (.builtin id) (v::us)) (EP X pins σ Q) X.xe s
section
variable {X:Cx} {a b:Expr} {ta tb:TE} {pos:Pos}
theorem pe_ix {r:R2} (hr:IxR X r) (ha:PE X a ta) (hb:PE X b tb) (hs:PlainIx b):PE X (.Subscript a b pos) (tOp r ta tb):=by
  intro pins s σ H Q I h
  exact Subscript_ (binT ha hb I h fun v u s2 x y H2 I2 rx ry q=>hr a b pins s2 σ H2 x y v u Q I2 rx ry q (hs _ _))
def rIxL (K:PySem.W.Frag):R2:=fun x y H Q=>∃ p xs i v,x= .ref p∧y= .int i∧SqL K H p xs∧atI xs i=some v∧Q v H
def rIxT (K:PySem.W.Frag):R2:=fun x y H Q=>∃ p xs i v,x= .ref p∧y= .int i∧SqT K H p xs∧atI xs i=some v∧Q v H
def rIxS:R2:=fun x y H Q=>∃ z i c,x= .str z∧y= .int i∧z.length≤sizeLine∧atI z.cps.toList i=some c∧Q (.str ⟨#[c]⟩) H
theorem ix_list:IxR X (rIxL X.K):=by
  intro value slice pins s σ H x y v u Q I rx ry h hs
  obtain ⟨p,xs,i,z,rfl,rfl,hq,he,q⟩:=h
  cases rx
  obtain ⟨t,rfl⟩:=ry
  obtain ⟨its,r,pl,hz⟩:=I.list hq
  obtain ⟨j,h1,h2,h3,h4,h5⟩:=atI_get he
  obtain ⟨w,ew,rw'⟩:=r.get h2
  have hl:=r.length
  have hn:=line63
  have fin:EP X pins σ Q w s:=⟨z,H,I,rw',q⟩
  by_cases h0:0≤i
  · have hj:i.toNat=j:=by
      rw [seqIndex_of h0 h5] at h1
      exact Option.some.inj h1
    exact item_listR pl.isList h0 (by omega) (by rw [hj];simpa using ew) fin hs
  · have hj:(i+(its.toArray.size:Int)).toNat=j:=by
      rw [seqIndex_neg (by omega) h4] at h1
      rw [List.size_toArray, ← hl]
      exact Option.some.inj h1
    exact subscriptTail_builtinR (x:=w) pl.isList.typeIs slot_list_getitem.lookup
      (wpAny_getItem_list_neg (Q:=fun r s'=>r=w∧EP X pins σ Q r s') pl.isList (by omega) (by rw [List.size_toArray] <;> omega) (by omega) (by rw [hj];simpa using ew) ⟨rfl,fin⟩) hs
theorem ix_tup:IxR X (rIxT X.K):=by
  intro value slice pins s σ H x y v u Q I rx ry h hs
  obtain ⟨p,xs,i,z,rfl,rfl,hq,he,q⟩:=h
  cases rx
  obtain ⟨t,rfl⟩:=ry
  obtain ⟨its,r,pl,hz⟩:=I.tuple hq
  obtain ⟨j,h1,h2,h3,h4,h5⟩:=atI_get he
  obtain ⟨w,ew,rw'⟩:=r.get h2
  have hl:=r.length
  have hn:=line63
  have fin:EP X pins σ Q w s:=⟨z,H,I,rw',q⟩
  exact subscriptTail_builtinR (x:=w) pl.typeIs slot_tuple_getitem.lookup
    (getItem_tuple (j:=j) (Q:=fun r s'=>r=w∧EP X pins σ Q r s') pl (by omega) (by omega) (by rw [List.size_toArray, ← hl];exact h1) (by simpa using ew) ⟨rfl,fin⟩) hs
theorem ix_str:IxR X rIxS:=by
  intro value slice pins s σ H x y v u Q I rx ry h hs
  obtain ⟨z,i,c,rfl,rfl,hz,he,q⟩:=h
  obtain ⟨t,rfl⟩:=rx
  obtain ⟨t',rfl⟩:=ry
  obtain ⟨j,h1,h2,h3,h4,h5⟩:=atI_get he
  have hl:z.cps.toList.length=z.length:=by simp [Str.length]
  rw [hl] at h1 h4 h5
  have hn:=line63
  exact tail_any (typeIs_str s z t) slot_str_getitem.lookup (getItem_str (c:=c) (by
    have e1:decide (i< -(2 ^ 63:Int))=false:=decide_eq_false (by omega)
    have e2:decide (i≥2 ^ 63)=false:=decide_eq_false (by omega)
    rw [e1,e2,Bool.or_false]) (by rw [h1];simpa using h2) ⟨.str ⟨#[c]⟩,H,I.tok _,⟨_,rfl⟩,q⟩) hs
theorem slice_bounds (lo hi:Option Int) (n:Nat):(sliceBounds lo hi none n).1=((HT.sIx n 0 lo:Nat):Int)∧(sliceBounds lo hi none n).2.1=((HT.sIx n n hi:Nat):Int)∧(sliceBounds lo hi none n).2.2=1:=by
  refine ⟨?_,?_,rfl⟩
  · cases lo with
    | none=>simp [sliceBounds,HT.sIx]
    | some i=>
      simp only [sliceBounds,HT.sIx,Option.getD_none,show (1:Int)>0 by decide,if_true]
      by_cases h:i<0
      · simp only [h,if_true] <;> omega
      · simp only [h,if_false] <;> omega
  · cases hi with
    | none=>simp [sliceBounds,HT.sIx]
    | some i=>
      simp only [sliceBounds,HT.sIx,Option.getD_none,show (1:Int)>0 by decide,if_true]
      by_cases h:i<0
      · simp only [h,if_true] <;> omega
      · simp only [h,if_false] <;> omega
theorem slicePick_cut (its:List Value) (lo hi:Option Int):slicePick its.toArray lo hi none=((its.drop (HT.sIx its.length 0 lo)).take (HT.sIx its.length its.length hi - HT.sIx its.length 0 lo)).toArray:=by
  obtain ⟨h1,h2,h3⟩:=slice_bounds lo hi its.toArray.size
  unfold slicePick
  rw [h1,h2,h3]
  simp only [sliceRange_one,pick_run,List.size_toArray] <;> rfl
def rSlL (K:PySem.W.Frag):V→Option Int→Option Int→Hp→VK→Prop:=fun x lo hi H Q=>∃ a xs,x= .ref a∧SqL K H a xs∧∀ p,H p=none→Q (.ref p) (upd H p (.lst (cutV xs lo hi)))
theorem sl_list:SlR X (rSlL X.K):=by
  intro pins s σ H x v vl vu lo hi sl Q I rx hs pl pu h
  obtain ⟨a,xs,rfl,hx,q⟩:=h
  cases rx
  obtain ⟨its,r,ht,hz⟩:=I.list hx
  have hlen:=r.length
  refine ⟨"list",_,slot_list_getitem.lookup,ht.isList.typeIs,?_⟩
  refine wpAny_getItem_list_slice ht.isList hs pl pu .none (by simp) ?_ (by rw [List.size_toArray] <;> omega)
  rw [slicePick_cut, ← hlen]
  refine ⟨.ref s.heap.objs.size,_,I.laid (t':=s.toks) (o:= .lst (cutV xs lo hi)) (fun b ob q=>Heap.get?_push_of_some _ q) (Nat.le_refl _) ?_,rfl,q _ (I.hok.fresh (Nat.le_refl _))⟩
  exact ⟨Nat.le_trans (cutV_length xs lo hi) hz,_,0,(r.drop (HT.sIx xs.length 0 lo)).take (HT.sIx xs.length xs.length hi - HT.sIx xs.length 0 lo),Heap.get?_push_size _ rfl⟩
def flatV:V→Bool
  | .non=>true
  | .bl _=>true
  | .int _=>true
  | .str _=>true
  | _=>false
def eqV:V→V→Bool
  | .non, .non=>true
  | .bl a, .bl b=>a == b
  | .bl a, .int b=>(if a then 1 else 0) == b
  | .int a, .bl b=>a == (if b then 1 else 0)
  | .int a, .int b=>a == b
  | .str a, .str b=>a == b
  | _,_=>false
theorem eqAt_V {A:Around} {s:Shared} {y x:V} {u v:Value} (ry:RelV y u) (rx:RelV x v) (fy:flatV y=true) (fx:flatV x=true):SeqAt.EqAt A s u v (eqV y x):=by
  cases y with
  | non=>
    cases ry
    cases x with
    | non=>cases rx;exact SeqAt.EqAt.same _
    | bl b=>cases rx;exact SeqAt.EqAt.none_bool b
    | int b=>obtain ⟨t,rfl⟩:=rx;exact SeqAt.EqAt.none_int b t
    | str b=>obtain ⟨t,rfl⟩:=rx;exact SeqAt.EqAt.none_str b t
    | _=>exact absurd (show false=true from fx) Bool.false_ne_true
  | bl a=>
    cases ry
    cases x with
    | non=>cases rx;exact SeqAt.EqAt.bool_none a
    | bl b=>cases rx;exact SeqAt.EqAt.bool_bool a b
    | int b=>obtain ⟨t,rfl⟩:=rx;exact SeqAt.EqAt.bool_int a b t
    | str b=>obtain ⟨t,rfl⟩:=rx;exact SeqAt.EqAt.bool_str a b t
    | _=>exact absurd (show false=true from fx) Bool.false_ne_true
  | int a=>
    obtain ⟨t',rfl⟩:=ry
    cases x with
    | non=>cases rx;exact SeqAt.EqAt.int_none a t'
    | bl b=>cases rx;exact SeqAt.EqAt.int_bool a t' b
    | int b=>obtain ⟨t,rfl⟩:=rx;exact SeqAt.EqAt.int_int a t' b t
    | str b=>obtain ⟨t,rfl⟩:=rx;exact SeqAt.EqAt.int_str a t' b t
    | _=>exact absurd (show false=true from fx) Bool.false_ne_true
  | str a=>
    obtain ⟨t',rfl⟩:=ry
    cases x with
    | non=>cases rx;exact SeqAt.EqAt.str_none a t'
    | bl b=>cases rx;exact SeqAt.EqAt.str_bool a t' b
    | int b=>obtain ⟨t,rfl⟩:=rx;exact SeqAt.EqAt.str_int a t' b t
    | str b=>obtain ⟨t,rfl⟩:=rx;exact SeqAt.EqAt.str_str a t' b t
    | _=>exact absurd (show false=true from fx) Bool.false_ne_true
  | _=>exact absurd (show false=true from fy) Bool.false_ne_true
theorem call_list_of:CallR X (.type "list") (fun xs H Q=>∃ p ys,xs=[.ref p]∧(SqL X.K H p ys∨SqT X.K H p ys)∧∀ l,H l=none→Q (.ref l) (upd H l (.lst ys))):=by
  intro pins s σ H xs us Q I r h
  obtain ⟨p,ys,rfl,hq,q⟩:=h
  obtain ⟨u,rfl,rx⟩:=vals1 r
  cases rx
  have fin:∀ (its:List Value),Vals ys its→ys.length≤sizeLine→∀ (h':Heap) (c':Nat),(∀ b o',s.heap.get? b=some o'→h'.get? b=some o')→
      h'.get? s.heap.objs.size=some { cls:= .type "list",dict:=none,data:= .seq its.toArray c',slots:= #[] }→EP X pins σ Q (.ref s.heap.objs.size) { s with heap:=h' }:=fun its r' hz h' c' kp e=>
    ⟨.ref s.heap.objs.size,_,I.laid (t':=s.toks) kp (Nat.le_refl _) (show ObjOk X.prog X.w _ h' _ (.lst ys) from ⟨hz,its,c',r',e⟩),rfl,q _ (I.hok.fresh (Nat.le_refl _))⟩
  rcases hq with hq | hq
  · obtain ⟨its,r',pl,hz⟩:=I.list hq
    have hlen:=r'.length
    obtain ⟨o,ho,hc,n,hd⟩:=pl.isList
    exact call_list_seq p (.inl rfl) ho hc hd (fun h' c' kp e=>fin its r' hz h' c' kp e) (by simp only [List.size_toArray] <;> omega)
  · obtain ⟨its,r',pl,hz⟩:=I.tuple hq
    have hlen:=r'.length
    obtain ⟨o,ho,hc,n,hd⟩:=pl
    exact call_list_seq p (.inr rfl) ho hc hd (fun h' c' kp e=>fin its r' hz h' c' kp e) (by simp only [List.size_toArray] <;> omega)
theorem call_tuple_of:CallR X (.type "tuple") (fun xs H Q=>∃ p ys,xs=[.ref p]∧((SqL X.K H p ys∧∀ l,H l=none→Q (.ref l) (upd H l (.tup ys)))∨(SqT X.K H p ys∧Q (.ref p) H))):=by
  intro pins s σ H xs us Q I r h
  obtain ⟨p,ys,rfl,h⟩:=h
  obtain ⟨u,rfl,rx⟩:=vals1 r
  cases rx
  rcases h with ⟨hq,q⟩ | ⟨hq,q⟩
  · obtain ⟨its,r',pl,hz⟩:=I.list hq
    have hlen:=r'.length
    refine call_tuple_list pl.isList (fun h' kp=> ?_) (by simp only [List.size_toArray] <;> omega)
    have I1:Inv X pins σ H { s with heap:=h' }:=I.kept (t':=s.toks) kp
    have I2:Inv X pins σ (upd H h'.objs.size (.tup ys)) { s with heap:=h'.push { cls:= .type "tuple",data:= .seq its.toArray } }:=
      I1.laid (t':=s.toks) (fun b o e=>Heap.get?_push_of_some _ e) (Nat.le_refl _) (show ObjOk X.prog X.w _ _ _ (.tup ys) from ⟨hz,its,r',IsTup.new _ _⟩)
    exact ⟨.ref h'.objs.size,_,I2,rfl,q _ (I1.hok.fresh (Nat.le_refl _))⟩
  · obtain ⟨its,r',pl,hz⟩:=I.tuple hq
    exact call_tuple_same pl ⟨.ref p,H,I,rfl,q⟩
def tyV (K:PySem.W.Frag) (T:String) (x:V) (H:Hp):Prop:=match x with
  | .str _=>T="str"
  | .int _=>T="int"
  | .ref p=>(T="list"∧∃ xs,SqL K H p xs)∨(T="tuple"∧∃ o,K.lookup p=some o∧o.cls= .type "tuple"∧o.dict=none)∨
      (T="dict"∧((∃ kvs,H p=some (.dK kvs))∨∃ kvs,H p=some (.dT kvs)))∨(T="set"∧∃ S n,H p=some (.set S n))
  | _=>False
theorem tyV_is {pins:List (Addr × Obj)} {σ:St} {H:Hp} {s:Shared} {T:String} {x:V} {v:Value} (I:Inv X pins σ H s) (r:RelV x v) (ty:tyV X.K T x H):
    s.TypeIs v T∧∀ a,v= .ref a→∃ ob,s.heap.get? a=some ob∧ob.dict=none:=by
  cases x with
  | str z=>
    obtain ⟨t,rfl⟩:=r
    cases (show T="str" from ty)
    exact ⟨typeIs_str s z t,fun _ e=>nomatch e⟩
  | int i=>
    obtain ⟨t,rfl⟩:=r
    cases (show T="int" from ty)
    exact ⟨typeIs_int s i t,fun _ e=>nomatch e⟩
  | ref p=>
    cases r
    rcases ty with ⟨rfl,xs,hq⟩ | ⟨rfl,o,hk,hc,hd⟩ | ⟨rfl,hk⟩ | ⟨rfl,S,n,hk⟩
    · obtain ⟨its,_,pl,_⟩:=I.list hq
      refine ⟨pl.isList.typeIs,fun a e=> ?_⟩
      cases e
      obtain ⟨o,n,e,c,hd,_⟩:=pl
      exact ⟨o,e,hd⟩
    · refine ⟨⟨o,I.kIn p o hk,hc⟩,fun a e=> ?_⟩
      cases e
      exact ⟨o,I.kIn _ o hk,hd⟩
    · have z:∃ o,s.heap.get? p=some o∧o.ExactDict:=by
        rcases hk with ⟨kvs,hk⟩ | ⟨kvs,hk⟩
        · obtain ⟨_,_,_,_,o,_,_,e,ex,_⟩:=I.hok p _ hk
          exact ⟨o,e,ex⟩
        · obtain ⟨_,_,_,_,o,_,_,e,ex,_⟩:=I.hok p _ hk
          exact ⟨o,e,ex⟩
      obtain ⟨o,e,ex⟩:=z
      refine ⟨⟨o,e,ex.1⟩,fun a e2=> ?_⟩
      cases e2
      exact ⟨o,e,ex.2.1⟩
    · obtain ⟨o,_,_,_,e,ex,_⟩:=I.hok p _ hk
      refine ⟨⟨o,e,ex.1⟩,fun a e2=> ?_⟩
      cases e2
      exact ⟨o,e,ex.2.1⟩
  | _=>exact False.elim ty
def tBM0 (K:PySem.W.Frag) (T:String) (r:V→List V→Hp→VK→Prop) (to:TE):TE:=fun σ H Q=>to σ H fun x H1=>tyV K T x H1∧r x [] H1 Q
def tBM (K:PySem.W.Frag) (T:String) (r:V→List V→Hp→VK→Prop) (to:TE) (t:TA):TE:=fun σ H Q=>to σ H fun x H1=>tyV K T x H1∧t σ H1 fun xs H2=>r x xs H2 Q
variable {o e:Expr} {es:List Expr} {to:TE} {t:TA} {name:Str} {apos cpos:Pos} {T id:String} {r:V→List V→Hp→VK→Prop}
theorem pe_bm0 (pa:PlainAttrs T) (slot:Slot T name id) (hty:typeOf (.builtin id)=pure (.type "method_descriptor")) (hm:MtR X id r) (ho:PE X o to)
    (hbase:attributeBase o name X.env (eval o X.env)=eval o X.env:=by rfl) (hline:(apos.endLine == cpos.line)=true:=by rfl):PE X (.Call (.Attribute o name apos) [] [] cpos) (tBM0 X.K T r to):=by
  intro pins s σ H Q I h
  refine wpAny_Call_method0_late hbase hline (thn (ho pins s σ H _ I h) fun v s1 ⟨x,H1,I1,r1,ty,q1⟩=> ?_)
  obtain ⟨h1,h2⟩:=tyV_is I1 r1 ty
  exact ⟨T,id,pa,slot,hty,h1,h2,Calls.callWith_builtin rfl (PySem.evalArgs_none (hm pins s1 σ H1 x [] v [] Q I1 r1 .nil q1))⟩
theorem pe_bm (pa:PlainAttrs T) (slot:Slot T name id) (hty:typeOf (.builtin id)=pure (.type "method_descriptor")) (hm:MtR X id r) (ho:PE X o to) (ha:PA X (e::es) t)
    (hbase:attributeBase o name X.env (eval o X.env)=eval o X.env:=by rfl)
    (hfew:((backTo cpos (starEach (e::es) X.env)).all (fun x=> !x.1)&&(backToKw cpos (keywordEach [] X.env)).all (fun x=>x.1.isSome)
      && decide ((e::es).length+([]:List Keyword).length+(if ([]:List Keyword).isEmpty then 0 else 1)<30))=true:=by rfl)
    (hline:(apos.endLine == cpos.line)=true:=by rfl) (hs:starEach (e::es) X.env=(false,eval e X.env)::starEach es X.env:=by rfl) (hplain:(backTo cpos (starEach es X.env)).any (·.1)=false:=by rfl):
    PE X (.Call (.Attribute o name apos) (e::es) [] cpos) (tBM X.K T r to t):=by
  intro pins s σ H Q I h
  refine wpAny_Call_method_late hbase hfew hline rfl (thn (ho pins s σ H _ I h) fun v s1 ⟨x,H1,I1,r1,ty,q1⟩=> ?_)
  obtain ⟨h1,h2⟩:=tyV_is I1 r1 ty
  refine ⟨T,id,pa,slot,hty,h1,h2,?_⟩
  have hA:=ha cpos pins s1 σ H1 _ I1 q1
  rw [hs] at hA ⊢
  refine Calls.callWith_builtin (by show (false||(backTo cpos (starEach es X.env)).any (·.1))=false;rw [hplain] <;> rfl) (Calls.evalArgs_plain ?_)
  exact thn hA fun us s2 ⟨vs,H2,I2,r2,q2⟩=>hm pins s2 σ H2 x vs v us Q I2 r1 r2 q2
end
end L2
namespace L2
open PySem PySem.Spec PyProof.Rows
def MtM (X:Cx) (id:String) (r:V→List V→Hp→VK→Prop):Prop:=
  ∀ (pins:List (Addr × Obj)) (s:Shared) (σ:St) (H:Hp) (x:V) (xs:List V) (v:Value) (us:List Value) (Q:VK),Inv X pins σ H s→RelV x v→Vals xs us→r x xs H Q→
    wpAny (model X.prog X.w) X.A (call (.builtin id) (v::us)) (EP X pins σ Q) X.xe s
theorem Vals.one:∀ {x:V} {us:List Value},Vals [x] us→∃ u,us=[u]∧RelV x u
  | _,_, .cons r .nil=>⟨_,rfl,r⟩
theorem Vals.zero:∀ {us:List Value},Vals [] us→us=[]
  | _, .nil=>rfl
theorem Vals.rep {xs:List V} {us:List Value} (h:Vals xs us):∀ k:Nat,Vals (List.replicate k xs).flatten (List.replicate k us).flatten
  | 0=> .nil
  | k+1=>by
    rw [List.replicate_succ,List.replicate_succ,List.flatten_cons,List.flatten_cons]
    exact Vals.append h (Vals.rep h k)
theorem foldl_rep (its:List Value):∀ (k:Nat) (acc:List Value),
    List.foldl (fun x1 x2=>x1++x2) acc.toArray (List.replicate k its.toArray)=(acc++(List.replicate k its).flatten).toArray
  | 0,acc=>by simp
  | k+1,acc=>by
    have e:acc.toArray++its.toArray=(acc++its).toArray:=by simp
    have e2:(acc++its)++(List.replicate k its).flatten=acc++(List.replicate (k+1) its).flatten:=by
      rw [List.replicate_succ,List.flatten_cons,List.append_assoc]
    rw [← e2, ← foldl_rep its k (acc++its), ← e,List.replicate_succ,List.foldl_cons]
section
variable {X:Cx} {pins:List (Addr × Obj)} {σ:St} {H:Hp} {s:Shared} {l b:Addr} {xs ys zs:List V}
theorem Inv.lset {its its':List Value} {n:Nat} {f:Array Value→Array Value} {t':Nat} (I:Inv X pins σ H s) (hH:H l=some (.lst xs))
    (e:s.heap.get? l=some { cls:= .type "list",data:= .seq its.toArray n }) (hf:f its.toArray=its'.toArray) (hv:Vals ys its') (hz:ys.length≤sizeLine):
    Inv X pins σ (upd H l (.lst ys)) { s with heap:=s.heap.update l (Obj.mapSeq f),toks:=t' }:=by
  have q:=PySem.IsL.update e f
  rw [hf] at q
  refine I.write (x:=l) (e:=l) (by rw [hH];exact trivial) (.inl rfl) (fun b' u hb hu=>(Heap.get?_update_other s.heap (Obj.mapSeq f) (Ne.symm hb)).trans hu) ⟨_,q⟩ ?_
  exact ⟨hz,its',_,hv,q⟩
theorem Inv.lnew {its:List Value} {t':Nat} (I:Inv X pins σ H s) (hv:Vals ys its) (hz:ys.length≤sizeLine):
    Inv X pins σ (upd H s.heap.objs.size (.lst ys)) { s with heap:=s.heap.push { cls:= .type "list",data:= .seq its.toArray },toks:=t' }:=
  I.laid (fun _ _ q=>Heap.get?_push_of_some _ q) (Nat.le_refl _) ⟨hz,its,0,hv,Heap.get?_push_size _ rfl⟩
theorem Inv.fresh (I:Inv X pins σ H s):H s.heap.objs.size=none:=I.hok.fresh (Nat.le_refl _)
theorem Inv.lstM (I:Inv X pins σ H s) (hH:H l=some (.lst xs)):xs.length≤sizeLine∧∃ (its:List Value) (n:Nat),Vals xs its∧xs.length=its.length∧s.heap.get? l=some { cls:= .type "list",data:= .seq its.toArray n }:=by
  obtain ⟨z,its,n,r,e⟩:=I.hok l _ hH
  exact ⟨z,its,n,r,r.length,e⟩
theorem notLongL {n:Nat} (h:n≤sizeLine):Builtin.List.listTooLong n=false:=by
  unfold Builtin.List.listTooLong
  exact decide_eq_false (by omega)
end
section
variable {X:Cx}
def rAppend:V→List V→Hp→VK→Prop:=fun x vs H Q=>∃ l xs y,x= .ref l∧vs=[y]∧H l=some (.lst xs)∧xs.length<sizeLine∧Q .non (upd H l (.lst (xs++[y])))
theorem mt_append:MtM X "list.append" rAppend:=by
  intro pins s σ H x vs v us Q I rx rv h
  obtain ⟨l,xs,y,rfl,rfl,hH,hz,q⟩:=h
  cases rx
  obtain ⟨u,rfl,ru⟩:=rv.one
  obtain ⟨z,its,n,r,hl,e⟩:=I.lstM hH
  refine call_meets F.slot_list_append ⟨_,e,rfl⟩ F.entry_list_append (F.args_list_append_2 _ _) (PySem.list_append l its.toArray n u (by rw [List.size_toArray];omega)) ⟨e,?_⟩
  refine ⟨.non,_,I.lset (its':=its++[u]) hH e (by simp) (r.append (.cons ru .nil)) ?_,rfl,q⟩
  rw [List.length_append,List.length_singleton]
  omega
def rRep:R2:=fun x y H Q=>∃ l k xs,x= .ref l∧y= .int k∧H l=some (.lst xs)∧ -(2 ^ 63)≤k∧k<2 ^ 63∧xs.length*k.toNat≤sizeLine∧
  ∀ p,H p=none→Q (.ref p) (upd H p (.lst (List.replicate k.toNat xs).flatten))
theorem len_rep {α:Type} (xs:List α) (k:Nat):(List.replicate k xs).flatten.length=k*xs.length:=by
  induction k with
  | zero=>simp
  | succ k ih=>rw [List.replicate_succ,List.flatten_cons,List.length_append,ih,Nat.succ_mul,Nat.add_comm]
theorem op_rep:OpR X (binaryOp .Mult) rRep:=by
  intro pins s σ H x y v u Q I rx ry h
  obtain ⟨l,k,xs,rfl,rfl,hH,h1,h2,hz,q⟩:=h
  cases rx
  obtain ⟨t,rfl⟩:=ry
  obtain ⟨z,its,n,r,hl,e⟩:=I.lstM hH
  have hlen:its.toArray.size*k.toNat≤sizeLine:=by rw [List.size_toArray, ← hl];exact hz
  have hcap:¬ its.toArray.size*k.toNat>(2 ^ 63 - 1) / 8:=by
    have:(sizeLine:Nat)≤(2 ^ 63 - 1) / 8:=by decide
    omega
  have hfit:¬ (!Builtin.List.listFitsIndex k)=true:=by
    rw [fitsIndex_both h1 h2]
    exact Bool.false_ne_true
  have hlong:¬ Builtin.List.listTooLong (its.toArray.size*k.toNat)=true:=by
    rw [notLongL hlen]
    exact Bool.false_ne_true
  have hnew:List.foldl (fun x1 x2=>x1++x2) #[] (List.replicate (if its.toArray.isEmpty=true then 0 else k.toNat) its.toArray)=(List.replicate k.toNat its).flatten.toArray:=by
    have f0:∀ m:Nat,List.foldl (fun x1 x2=>x1++x2) #[] (List.replicate m its.toArray)=(List.replicate m its).flatten.toArray:=fun m=>by
      have:=foldl_rep its m []
      rw [List.nil_append] at this
      exact this
    rw [f0]
    cases its with
    | nil=>simp
    | cons a r'=>rw [if_neg (by simp)]
  refine wpAny_binaryOp_repeat_ref (T:="list") (U:="int") (by decide) ⟨_,e,rfl⟩ (fun s'=>typeIs_int s' k t) noFill_list_mul F.fills_int_mul F.slot_int_rmul repeat_list F.slot_int_index.lookup
    (call_meets F.slot_int_rmul (typeIs_int s k t) F.entry_int_rmul (F.args_int_rmul_2 _ _) (int___rmul___int_list k t l its.toArray n)
      ⟨e,rfl,⟨_,e,rfl⟩,call_meets F.slot_list_mul ⟨_,e,rfl⟩ F.entry_list_mul (F.args_list_mul_2 _ _) (AutoListH.list___mul___list_int_3 l its.toArray n k t hfit hcap hlong) ⟨e,?_⟩⟩)
  rw [hnew]
  exact ⟨.ref _,_,I.lnew (t':=s.toks) (r.rep k.toNat) (by rw [len_rep,Nat.mul_comm];exact hz),rfl,q _ I.fresh⟩
end
section
variable {prog:Program} {w:World} {A:Around} {E:Value→Shared→Prop} {s:Shared}
end
section
variable {X:Cx}
end
end L2
namespace Att
open PySem PySem.W PySem.Calls PyProof.Rows
theorem ints_of_wellAll {P:Params} {h:Heap}:∀ (ns:List Int) (vs:List Value),WellAll P h vs (ns.map WData.int)→IntsAre vs ns:=by
  intro ns
  induction ns with
  | nil=>
    intro vs w
    rw [List.map_nil] at w
    cases w
    exact .nil
  | cons n ns ih=>
    intro vs w
    rw [List.map_cons] at w
    cases w with
    | cons a b=>
      cases a
      exact .cons _ _ (ih _ b)
theorem script_of {l:OpenLaw} {n:Nat} (hn:l.most=some n) {P:Params} {h:Heap} {args:List WData} {vals:List Value}
    (hpre:l.row.toRowW.claim.pre args=true) (hwl:WellAll P h vals args):
    ∃ a vs ns,vals=[Value.ref a]∧args=[WData.list (ns.map WData.int)]∧h.get? a=some { cls:= .type "list",data:= .seq vs.toArray }∧IntsAre vs ns∧ns.length≤n:=by
  have hsh:WShape.hasAll [] args [.list .int]=true:=(pre_splitW hpre).1
  have hc:l.pre.holds [] { args:=args }=true:=(pre_splitW hpre).2
  obtain ⟨d,r,rfl,h1,h2⟩:=hasAllW_cons hsh
  obtain rfl:=hasAllW_nil h2
  obtain ⟨xs,rfl,h3⟩:=hasW_list h1
  obtain ⟨ns,rfl⟩:=items_int h3
  have hlen:ns.length≤n:=by
    unfold OpenLaw.pre at hc
    have h4:(WTm.not (.lt (.lit (.int (n:Int))) (.len (.arg 0)))).holds [] { args:=[.list (ns.map .int)] }=true:=by
      have h4:=(holds_andW hc).1
      rw [hn] at h4
      exact h4
    have h5:=condW_of h4 (w_not (w_lt w_lit (w_len_list (w_arg rfl))))
    rw [List.length_map] at h5
    refine Nat.le_of_not_lt fun q=> ?_
    have q':(n:Int)<((ns.length:Nat):Int):=by omega
    first
      | (rw [decide_eq_true q'] at h5;exact absurd h5 (by decide))
      | (simp at h5;omega)
  cases hwl with
  | cons w1 w2=>
    cases w2
    cases w1 with
    | list ho hall=>exact ⟨_,_,ns,rfl,rfl,ho,ints_of_wellAll ns _ hall,hlen⟩
theorem post_true (l:OpenLaw) (args:List WData):l.row.toRowW.claim.post args (.bool true) args=true:=
  postW_of (r:=l.row.toRowW) (X:=(true == true))
    (show WShape.has [] (.bool true) .bool=true by first | rfl | decide | simp [WShape.has,WShape.arms,WShape.armsAll])
    (show (WTm.eq .res (.lit (.bool true))).value [] { args:=args,res:=some (.bool true),after:=args }=some (.bool (true == true)) from w_eq_bool (w_res rfl) w_lit) rfl
theorem attach_call {l:OpenLaw} {n:Nat} {q:Program} {loose:List Str} {XP:(Str→Option Value)→Heap→Prop} {YP:World→Heap→Prop} {d:DefRec}
    (hn:l.most=some n) (hdf:d.params.defaults=[])
    (call:∀ (w:World) (s₀ s₁:Shared) (mg mb:Str→Option Value) (fa:Addr) (o:Obj) (pm cd doc:Value) (a:Addr) (vs:List Value) (ns:List Int),
      Ground q loose [] XP w s₀ mg mb s₁.heap→YP w s₁.heap→
      s₁.heap.get? fa=some o→o.data= .func (docDef d.name d.params d.body d.scope pm cd doc)→s₁.heap.CodeRec cd d.name→mg d.name=some (.ref fa)→
      s₁.heap.get? a=some { cls:= .type "list",data:= .seq vs.toArray }→IntsAre vs ns→ns.length≤n→s₁.gens= #[]→
      codeAny (model l.prog w) callerA (.call (.ref fa) ⟨[.ref a],[]⟩) (fun r s'=>r= .ok (.ret (.bool true))∧OldK s₁.heap s'.heap∧s'.os=s₁.os∧AllBare s'.gens) s₁):
    WalkO q loose XP YP l.row.toRowW d [] (fun f vs=>PySem.call f vs):=by
  intro w s₀ s₁ mg mb G Y fa o pm cd doc dV kV ho hd hcd hD hmg hg args vals as hpre hlay hrd hwl hlo
  obtain rfl:dV= .none:=Dflts.none hD hdf
  obtain rfl:kV= .none:=Dflts.noKw hD
  obtain ⟨a,vs,ns,rfl,rfl,hobj,hints,hlen⟩:=script_of hn hpre hwl
  refine enter_call (codeAny_mono (call w s₀ s₁ mg mb fa o pm cd doc a vs ns G Y ho (fd_plain hd) hcd hmg hobj hints hlen hg) fun r s' hq=> ?_)
  obtain ⟨rfl,h2,h3,h4⟩:=hq
  exact ⟨.inl ⟨.bool true, .bool true,[],rfl,fun _=>rfl, .bool true,post_true l _,fun _=>⟨List.Pairwise.nil,fun _ hm=>(nomatch hm)⟩⟩,h2,h3,h4⟩
section
variable {prog:Program} {w:World} {A:Around} {E:Value→Shared→Prop} {s:Shared} {K:Frag}
end
end Att
namespace L2
open PySem PySem.Spec PyProof.Rows
theorem vals_ints:∀ {vs:List Value} {ns:List Int},IntsAre vs ns→Vals (ns.map V.int) vs
  | _,_, .nil=> .nil
  | _,_, .cons n t h=> .cons ⟨t,rfl⟩ (vals_ints h)
def Only (H:Hp):Prop:=∀ b,H b=none∨∃ o xs,H b=some (.frz o (.lst xs))
theorem law_call {P:Program} {w:World} {K:PySem.W.Frag} {mg mb:Str→Option Value} {CX:CXT} {k:Nat} {fa a:Addr} {fd:FuncData} {x:Str} {sp:Sp} {s₁:Shared} {vs:List Value} {ns:List Int}
    (KX:K.In s₁.heap) (hns:s₁.heap.Ns mainGlobals mg) (hb:s₁.heap.Ns builtinsNs mb) (hbb:∀ x:Str,x≠"__name__"→mb x=bootBuiltins x) (hlim:s₁.heap.NoLimit) (hg:s₁.gens= #[])
    (ha:s₁.heap.get? a=some { cls:= .type "list",data:= .seq vs.toArray }) (hi:IntsAre vs ns) (hl:ns.length≤sizeLine) (hr:Room k callerA)
    (F:∀ base:Heap,K.In base→base.Ns mainGlobals mg→FnOk P w K mg base CX k fa fd [x] sp) (hbind:∀ (s:Shared) (u:Value),BindsTo s fd ⟨[u],[]⟩ [(x,u)])
    (hsp:∀ H:Hp,Only H→SqL K H a (ns.map V.int)→sp [.ref a] H (fun v _=>v= .bl true) fun _ _ _=>False)
    (hCX:∀ H e s',CX [] H s₁ (fun _ _ _=>False) e s'→False):
    codeAny (model P w) callerA (.call (.ref fa) ⟨[.ref a],[]⟩) (fun r s'=>r= .ok (.ret (.bool true))∧OldK s₁.heap s'.heap∧s'.os=s₁.os∧AllBare s'.gens) s₁:=by
  have rv:=vals_ints hi
  have lenV:=hi.length
  have core:∀ H:Hp,Only H→SqL K H a (ns.map V.int)→HOk P w H s₁.heap→(∀ b,H b≠none→b=a)→(H a≠none→K.lookup a=none)→
      codeAny (model P w) callerA (.call (.ref fa) ⟨[.ref a],[]⟩) (fun r s'=>r= .ok (.ret (.bool true))∧OldK s₁.heap s'.heap∧s'.os=s₁.os∧AllBare s'.gens) s₁:=by
    intro H hO hS hok hA hK
    have base_of:∀ {b:Addr} {o:Obj},s₁.heap.get? b=some o→H b=none→(hidT s₁.heap H).get? b=some o:=fun e n=>hidT_get e n
    have noA:∀ {b:Addr} {o:Obj} {es:Array DictEntry} {ep:Nat},s₁.heap.get? b=some o→o.data= .dict es ep→H b=none:=fun {b o es ep} e d=>by
      cases q:H b with
      | none=>rfl
      | some u=>
        have e':b=a:=hA b (by rw [q];simp)
        subst e'
        rw [ha] at e;cases e
        have d':Data.seq vs.toArray _=Data.dict es ep:=d
        cases d'
    have nsK:∀ {b:Addr} {m:Str→Option Value},s₁.heap.Ns b m→(hidT s₁.heap H).Ns b m:=fun {b m} ⟨o,es,ep,e,d,r⟩=>⟨o,es,ep,base_of e (noA e d),d,r⟩
    have hKb:K.In (hidT s₁.heap H):=fun b o e=>base_of (KX b o e) (by
      cases q:H b with
      | none=>rfl
      | some u=>
        have e':b=a:=hA b (by rw [q];simp)
        subst e'
        rw [hK (by rw [q];simp)] at e;cases e)
    have hM:Mod K mg (hidT s₁.heap H):=⟨hKb,nsK hns,⟨mb,nsK hb,hbb⟩,let ⟨mc,h1,h2⟩:=hlim;⟨mc,nsK h1,h2⟩⟩
    have e0:Env0 P w K mg (hidT s₁.heap H) callerA [] s₁ H:=⟨rfl,hM,fun b o e=>of_hidT e,Nat.le_of_eq (hidT_size _ _),trivial,fun b hb=>absurd (show b∈([]:List Addr) from hb) (by simp),hok, .of_eq hg⟩
    refine codeAny_mono ((F _ hKb (nsK hns)).run callerA [] s₁ H ⟨[.ref a],[]⟩ [.ref a] [.ref a] _ _ hr e0 (hbind s₁ (.ref a)) (.cons rfl .nil) (hsp H hO hS)) fun r s' h=> ?_
    cases r with
    | error e=>exact (hCX H e s' h).elim
    | ok fl=>
      cases fl with
      | next=>exact False.elim h
      | brk=>exact False.elim h
      | cont=>exact False.elim h
      | ret u=>
        obtain ⟨v,H',os,bare,un,hok',r',q⟩:=h
        have q':v= .bl true:=q
        subst q'
        obtain rfl:u=Value.bool true:=r'
        refine ⟨rfl,OldK.of_keep fun b o e=> ?_,os,bare⟩
        cases q:H b with
        | none=>exact un.keep b o e q (by intro z;exact absurd (show b∈([]:List Addr) from z) (by simp)) (by simp)
        | some u=>
          rcases hO b with z | ⟨ob,xs,z⟩
          · rw [q] at z;cases z
          · have z2:=un.frzs b ob _ z
            obtain ⟨e1,_⟩:=hok b _ z
            obtain ⟨e2,_⟩:=hok' b _ z2
            rw [e] at e1;cases e1
            exact e2
  cases hk:K.lookup a with
  | some o=>
    have e:=KX a o hk
    rw [ha] at e
    cases e
    refine core (fun _=>none) (fun _=> .inl rfl) (.inr ⟨_,vs.toArray,_,hk,rfl,rfl,rfl,by rw [List.size_toArray,lenV];exact hl,by simpa using rv⟩) (fun b u z=>by have z':(none:Option HO)=some u:=z;cases z') (fun b z=>absurd rfl z) fun z=>absurd rfl z
  | none=>
    refine core (fun b=>if b=a then some (.frz { cls:= .type "list",data:= .seq vs.toArray } (.lst (ns.map V.int))) else none) (fun b=> ?_) (.inl (.inr ⟨{ cls:= .type "list",data:= .seq vs.toArray },if_pos rfl⟩)) (fun b u z=> ?_) (fun b z=> ?_) fun _=>hk
    · by_cases hb:b=a
      · exact .inr ⟨_,_,if_pos hb⟩
      · exact .inl (if_neg hb)
    · by_cases hb:b=a
      · have z':=(if_pos hb).symm.trans z
        cases z'
        subst hb
        exact ⟨ha,by rw [List.length_map];exact hl,vs,_,rv,ha⟩
      · have z':=(if_neg hb).symm.trans z
        cases z'
    · by_cases hb:b=a
      · exact hb
      · exact absurd (if_neg hb) z
end L2
namespace L2
open PySem PySem.Spec PyProof.Rows
theorem walk_of {l:PySem.W.OpenLaw} {n k:Nat} {q:Program} {loose:List Str} {XP:(Str→Option Value)→Heap→Prop} {YP:World→Heap→Prop} {d:DefRec} {K:Params→PySem.W.Frag} {CX:World→CXT} {sp:World→Sp} {x:Str}
    (hn:l.most=some n) (hn2:n≤sizeLine) (hdf:d.params.defaults=[]) (hr:Room k callerA)
    (hY:∀ (w:World) (h:Heap),YP w h→(K w.params).In h)
    (F:∀ (w:World) (mg:Str→Option Value) (fa:Addr) (h:Heap),(K w.params).In h→h.Ns mainGlobals mg→mg d.name=some (.ref fa)→
      ∃ fd:FuncData,(∀ (s:Shared) (u:Value),BindsTo s fd ⟨[u],[]⟩ [(x,u)])∧
        ∀ base:Heap,(K w.params).In base→base.Ns mainGlobals mg→FnOk l.prog w (K w.params) mg base (CX w) k fa fd [x] (sp w))
    (hsp:∀ (w:World) (H:Hp) (a:Addr) (ns:List Int),ns.length≤n→Only H→SqL (K w.params) H a (ns.map V.int)→sp w [.ref a] H (fun v _=>v= .bl true) fun _ _ _=>False)
    (hCX:∀ (w:World) (H:Hp) (s:Shared) (e:Value) (s':Shared),CX w [] H s (fun _ _ _=>False) e s'→False):
    PySem.W.WalkO q loose XP YP l.row.toRowW d [] (fun f vs=>PySem.call f vs):=by
  refine Att.attach_call hn hdf fun w s₀ s₁ mg mb fa o pm cd doc a vs ns G Y ho hd hcd hmg hobj hints hlen hg=> ?_
  have KX:=hY w _ Y
  obtain ⟨fd,hb,hF⟩:=F w mg fa _ KX G.T.g hmg
  exact law_call KX G.T.g G.T.b G.T.builtins G.T.nolimit hg hobj hints (Nat.le_trans hlen hn2) hr hF hb (fun H hO hS=>hsp w H a ns hlen hO hS) fun H e s'=>hCX w H s₁ e s'
end L2
namespace L2
open PySem PySem.Spec PyProof.Rows
abbrev CX0:CXT:=fun _ _ _ _ _ _=>False
abbrev E0:XK:=fun _ _ _=>False
theorem pass0 {X:Cx}:Passes CX0 X E0:=fun _ _ _ _ _ _ _ h=>h.elim
structure Fun (K:PySem.W.Frag) (x qual:Str) (st:Stmt) (f:Addr) (fd:FuncData):Prop where
  ex:∃ (oc:Value) (od:Option Addr) (kV doc pm:Value) (an:Option Addr) (cdv ct:Value) (osl:Array (Option Value)),
    fd=PySem.W.fnOf x qual (defArgs st) (defBody st) (defScope st) .none kV doc pm an cdv ct∧K.lookup f=some ⟨oc,od, .func fd,osl⟩∧PySem.W.codeIn K cdv qual=true
  kp:PySem.W.keepIn K (.ref f)=true
section
variable {P:Program} {w:World} {K:PySem.W.Frag} {mg:Str→Option Value} {base:Heap}
theorem Fun.ok {x qual:Str} {st:Stmt} {f:Addr} {fd:FuncData} {N ps:List Str} {k:Nat} {sp:Sp} (F:Fun K x qual st f fd) (S:FnScope N ps (defScope st)) (len:∀ vs H Q E,sp vs H Q E→vs.length=ps.length)
    (hbody:∀ (cdv:Value) (A:Around) (outer:List Env) (s:Shared) (H:Hp) (vs:List V) (Q:VK) (E:XK),Room k (A.deeper (envOfC qual (defScope st) s.heap.objs.size f cdv))→sp vs H Q E→
      ∃ t,PSs (cxOf CX0 P w K mg base N qual (defScope st) f cdv A outer s H E).nox (defBody st) t∧t { nx:=fun _ H'=>Q .non H',rt:=Q } (start N vs) H):FnOk P w K mg base CX0 (k+1) f fd ps sp:=by
  obtain ⟨oc,od,kV,doc,pm,an,cdv,ct,osl,rfl,lk,hcd⟩:=F.ex
  refine fn_of lk hcd S len fun A outer s H vs Q E hr hsp=> ?_
  obtain ⟨t,h,q⟩:=hbody cdv A outer s H vs Q E hr hsp
  exact ⟨t,h.nox,q⟩
theorem Fun.binds {x qual:Str} {st:Stmt} {f:Addr} {fd:FuncData} {ps:List Str} (F:Fun K x qual st f fd)
    (h:∀ (kV doc pm:Value) (an:Option Addr) (cdv ct:Value) (us:List Value),us.length=ps.length→bindArgs (PySem.W.fnOf x qual (defArgs st) (defBody st) (defScope st) .none kV doc pm an cdv ct) ⟨us,[]⟩=pure (ps.zip us)):Binds K fd ps []:=by
  obtain ⟨oc,od,kV,doc,pm,an,cdv,ct,osl,rfl,lk,hcd⟩:=F.ex
  exact .all (h kV doc pm an cdv ct)
theorem fun_mk {x qual:Str} {st:Stmt} {f:Addr} {oc:Value} {od an:Option Addr} {osl:Array (Option Value)} {kV doc pm cdv ct:Value} (l:K.lookup f=some ⟨oc,od, .func (PySem.W.fnOf x qual (defArgs st) (defBody st) (defScope st) .none kV doc pm an cdv ct),osl⟩)
    (c:PySem.W.codeIn K cdv qual=true) (k:PySem.W.keepIn K (.ref f)=true):Fun K x qual st f (PySem.W.fnOf x qual (defArgs st) (defBody st) (defScope st) .none kV doc pm an cdv ct):=⟨⟨oc,od,kV,doc,pm,an,cdv,ct,osl,rfl,l,c⟩,k⟩
end
section
variable {X:Cx}
theorem pv (i:Nat) {x:Str} {pos:Pos} (hN:X.N[i]?=some x:=by rfl) (hv:Vis X.env.scope x:=by first | exact Or.inl rfl | exact Or.inr (Or.inl rfl) | exact Or.inr (Or.inr rfl)) (hd:(x == ("__debug__":Str))=false:=by decide)
    (hcd:(x == ("__classdict__":Str))=false:=by decide):PE X (.Name x pos) (tVar i):=pe_var hN hv hd hcd
end
theorem iteF {A B:Prop} (h:B):if false=true then A else B:=by
  rw [if_neg Bool.false_ne_true]
  exact h
theorem iteT {A B:Prop} (h:A):if true=true then A else B:=by
  rw [if_pos rfl]
  exact h
def Same (H H':Hp):Prop:=∀ b o,H b=some o→H' b=some o
theorem Same.refl (H:Hp):Same H H:=fun _ _ h=>h
theorem Same.trans {H H1 H2:Hp} (a:Same H H1) (b:Same H1 H2):Same H H2:=fun c o h=>b c o (a c o h)
theorem Same.free {H H':Hp} (e:Same H H') {l:Addr} (h:H' l=Option.none):H l=Option.none:=by
  cases q:H l with
  | none=>rfl
  | some o=>
    rw [e l o q] at h
    cases h
theorem Same.seq {K:PySem.W.Frag} {H H':Hp} {a:Addr} {xs:List V} (e:Same H H') (h:SqL K H a xs):SqL K H' a xs:=by
  rcases h with (h | ⟨o,h⟩) | h
  · exact .inl (.inl (e _ _ h))
  · exact .inl (.inr ⟨o,e _ _ h⟩)
  · exact .inr h
end L2
namespace L2
open PySem PySem.Spec PyProof.Rows
section
variable {κ:Type} [DecidableEq κ]
def valV (kvs:List (κ × V)) (k:κ):Option V:=(kvs.find? fun kv=>decide (kv.1=k)).map (·.2)
def putK (kvs:List (κ × V)) (k:κ) (v:V):List (κ × V):=
  if (kvs.any fun kv=>decide (kv.1=k))=true then kvs.map (fun kv=>if kv.1=k then (kv.1,v) else kv) else kvs++[(k,v)]
theorem valV_pos {p:κ × V} {r:List (κ × V)} {k:κ} (e:p.1=k):valV (p::r) k=some p.2:=by simp [valV,List.find?_cons,e]
theorem valV_neg {p:κ × V} {r:List (κ × V)} {k:κ} (e:¬ p.1=k):valV (p::r) k=valV r k:=by simp [valV,List.find?_cons,e]
theorem length_putK (kvs:List (κ × V)) (k:κ) (v:V):(putK kvs k v).length≤kvs.length+1:=by
  unfold putK
  split
  · rw [List.length_map];omega
  · rw [List.length_append,List.length_cons,List.length_nil];omega
theorem KV.val {kvs:List (κ × V)} {vs:List (κ × Value)} (r:KV kvs vs) (k:κ):RelO (valV kvs k) (valueAt vs k):=by
  unfold KV at r
  induction r with
  | nil=>exact True.intro
  | @cons p q ps qs h t ih=>
    obtain ⟨h1,h2⟩:=h
    by_cases e:p.1=k
    · have e':q.1=k:=h1.symm.trans e
      have b:valueAt (q::qs) k=some q.2:=by simp [valueAt,List.find?_cons,e']
      rw [valV_pos e,b];exact h2
    · have e':¬ q.1=k:=fun z=>e (h1.trans z)
      have b:valueAt (q::qs) k=valueAt qs k:=by simp [valueAt,List.find?_cons,e']
      rw [valV_neg e,b];exact ih
theorem KV.any {kvs:List (κ × V)} {vs:List (κ × Value)} (r:KV kvs vs) (k:κ):(kvs.any fun kv=>decide (kv.1=k))=vs.any fun kv=>decide (kv.1=k):=by
  unfold KV at r
  induction r with
  | nil=>rfl
  | cons h t ih=>rw [List.any_cons,List.any_cons,ih,h.1]
theorem KV.repl {kvs:List (κ × V)} {vs:List (κ × Value)} (r:KV kvs vs) (k:κ) {y:V} {u:Value} (ry:RelV y u):
    KV (kvs.map fun kv=>if kv.1=k then (kv.1,y) else kv) (vs.map fun kv=>if kv.1=k then (kv.1,u) else kv):=by
  unfold KV at r ⊢
  induction r with
  | nil=>exact .nil
  | @cons p q ps qs h t ih=>
    rw [List.map_cons,List.map_cons]
    refine .cons ?_ ih
    obtain ⟨h1,h2⟩:=h
    by_cases e:p.1=k
    · rw [if_pos e,if_pos (h1.symm.trans e)];exact ⟨h1,ry⟩
    · rw [if_neg e,if_neg (fun z=>e (h1.trans z))];exact ⟨h1,h2⟩
theorem KV.put {kvs:List (κ × V)} {vs:List (κ × Value)} (r:KV kvs vs) (k:κ) {y:V} {u:Value} (ry:RelV y u):KV (putK kvs k y) (stored vs k u):=by
  unfold putK stored
  rw [r.any k]
  by_cases e:(vs.any fun kv=>decide (kv.1=k))=true
  · rw [if_pos e,if_pos e];exact r.repl k ry
  · rw [if_neg e,if_neg e];exact Paired.snoc r ⟨rfl,ry⟩
theorem KV.length {kvs:List (κ × V)} {vs:List (κ × Value)} (r:KV kvs vs):kvs.length=vs.length:=Paired.length r
end
theorem kV_is {P:Program} {w:World} {k:Key} {u:Value} (r:RelV (kV k) u):(mixKind P w).is k u=true:=by
  cases k with
  | inl i=>obtain ⟨t,e⟩:=(show ∃ t,u=Value.int i t from r);subst e;exact mixKind_int P w i t
  | inr x=>obtain ⟨t,e⟩:=(show ∃ t,u=Value.str x t from r);subst e;exact mixKind_str P w x t
theorem items_are {P:Program} {w:World}:∀ {ks:List Key} {us:List Value},Vals (ks.map kV) us→ItemsAre (mixKind P w) ks us
  | [],_,r=>by rw [List.map_nil] at r;cases r;exact .nil
  | k::ks,_,r=>by
    rw [List.map_cons] at r
    cases r with
    | cons h t=>exact .cons (kV_is h) (items_are t)
abbrev KT (H:Hp):List (List Key × V)→List (List Key × Addr × Value)→Prop:=Paired fun p q=>p.1=q.1∧H q.2.1=some (.tup (p.1.map kV))∧RelV p.2 q.2.2
theorem KT.val {H:Hp} {kvs:List (List Key × V)} {xs:List (List Key × Addr × Value)} (r:KT H kvs xs) (k:List Key):RelO (valV kvs k) ((atKey xs k).map (·.2)):=by
  induction r with
  | nil=>exact True.intro
  | @cons p q ps qs h t ih=>
    obtain ⟨h1,_,h2⟩:=h
    by_cases e:p.1=k
    · have e':q.1=k:=h1.symm.trans e
      have b:atKey (q::qs) k=some q.2:=by simp [atKey,List.find?_cons,e']
      rw [valV_pos e,b];exact h2
    · have e':¬ q.1=k:=fun z=>e (h1.trans z)
      have b:atKey (q::qs) k=atKey qs k:=by simp [atKey,List.find?_cons,e']
      rw [valV_neg e,b];exact ih
section
variable {P:Program} {w:World} {H:Hp} {h:Heap} {a:Addr}
theorem rd_of {u:HO} (ok:HOk P w H h) (e:Rd H a u):ObjOk P w H h a u:=e.ok ok
theorem dk_rd {kvs:List (Key × V)} (ok:HOk P w H h) (e:Rd H a (.dK kvs)):kvs.length≤sizeLine∧(a == sysModules)=false∧∃ vs,KV kvs vs∧h.DictOf (mixKind P w) a vs:=
  show ObjOk P w H h a (.dK kvs) from rd_of ok e
theorem dk_of {kvs:List (Key × V)} (ok:HOk P w H h) (e:H a=some (.dK kvs)):kvs.length≤sizeLine∧(a == sysModules)=false∧∃ vs,KV kvs vs∧h.DictOf (mixKind P w) a vs:=dk_rd ok (.inl e)
theorem key_of {ks:List Key} (ok:HOk P w H h) (e:H a=some (.tup (ks.map kV))):(tupleKind (mixKind P w)).is h ks a:=by
  obtain ⟨_,its,r,o,h1,h2,n,h3⟩:=(show ObjOk P w H h a (.tup (ks.map kV)) from ok a _ e)
  exact ⟨o,its.toArray,n,h1,h2,h3,by simpa using items_are r⟩
theorem dt_rd {kvs:List (List Key × V)} (ok:HOk P w H h) (e:Rd H a (.dT kvs)):kvs.length≤sizeLine∧(a == sysModules)=false∧
    ∃ xs,KT H kvs xs∧h.DictOfH (tupleKind (mixKind P w)) a xs:=by
  obtain ⟨z,y,xs,r,o,es,ep,h1,h2,h3,h4,h5⟩:=(show ObjOk P w H h a (.dT kvs) from rd_of ok e)
  refine ⟨z,y,xs,r,o,es,ep,h1,h2,h3,h4,fun x hx=> ?_,h5⟩
  have all:∀ {l:List (List Key × V)} {m:List (List Key × Addr × Value)},KT H l m→∀ x∈m,(tupleKind (mixKind P w)).is h x.1 x.2.1:=by
    intro l m q
    induction q with
    | nil=>intro x hx;exact nomatch hx
    | @cons p q ps qs hq t ih=>
      intro x hx
      rcases List.mem_cons.mp hx with e | hx
      · subst e
        exact key_of ok (by rw [← hq.1];exact hq.2.1)
      · exact ih x hx
  exact all r x hx
end
def DGet (H:Hp) (a:Addr) (y:V) (r:Option V):Prop:=
  (∃ kvs k,Rd H a (.dK kvs)∧y=kV k∧r=valV kvs k)∨∃ kvs k b,Rd H a (.dT kvs)∧y= .ref b∧H b=some (.tup (k.map kV))∧r=valV kvs k
theorem DGet.k {H:Hp} {a:Addr} {kvs:List (Key × V)} {k:Key} (e:H a=some (.dK kvs)):DGet H a (kV k) (valV kvs k):= .inl ⟨kvs,k, .inl e,rfl,rfl⟩
section
variable {X:Cx} {pins:List (Addr × Obj)} {σ:St} {H:Hp} {s:Shared} {a:Addr} {y v:V} {u r:Value} {o:Option V} {A:Around} {E:Value→Shared→Prop}
theorem Inv.big (I:Inv X pins σ H s):sysModules<s.heap.objs.size:=by
  have h:mainGlobals<s.heap.objs.size:=(I.mod.glob.keeps I.bk).lt
  exact Nat.lt_trans (by decide) h
theorem d_getItem {Q:Value→Shared→Prop} (hu:A.units+1<cLine) (I:Inv X pins σ H s) (g:DGet H a y (some v)) (ry:RelV y u) (h:∀ w' s',Inv X pins σ H s'→RelV v w'→Q w' s'):
    wpAny (model X.prog X.w) A (getItem (.ref a) u) Q E s:=by
  rcases g with ⟨kvs,k,e,ey,l⟩ | ⟨kvs,k,b,e,ey,eb,l⟩
  · subst ey
    obtain ⟨z,hd,vs,rel,dd⟩:=dk_rd I.hok e
    obtain ⟨w',hw,rw'⟩:=RelO.some_of (v:=v) (o:=valueAt vs k) (by rw [l];exact rel.val k)
    exact wpAny_getItem_of (kV_is ry) dd.mapOf hw (h w' _ (I.tok _) rw')
  · subst ey
    cases (show u=Value.ref b from ry)
    obtain ⟨z,hd,xs,rel,dd⟩:=dt_rd I.hok e
    obtain ⟨w',hw,rw'⟩:=RelO.some_of (v:=v) (o:=(atKey xs k).map (·.2)) (by rw [l];exact rel.val k)
    obtain ⟨p,hp,hp2⟩:=Option.map_eq_some_iff.mp hw
    refine wpAny_getItem_heap (tupleKind_room_in1 hu) (key_of I.hok eb) dd hp ?_
    rw [hp2]
    exact h w' _ (I.tok _) rw'
theorem d_write {h':Heap} {t':Nat} {ob:HO} (I:Inv X pins σ H s) (mu:Mut (H a)) (hs:Heap.SameBut a s.heap h') (he:∃ q,h'.get? a=some q) (new:ObjOk X.prog X.w (upd H a ob) h' a ob):
    Inv X pins σ (upd H a ob) { s with heap:=h',toks:=t' }:=
  I.write (x:=a) (e:=a) mu (.inl rfl) (fun b q hb z=>(hs.2 b hb).trans z) he new
theorem dk_new {P:Program} {w:World} {H':Hp} {h':Heap} {kvs:List (Key × V)} {vs:List (Key × Value)} (z:kvs.length≤sizeLine) (hd:(a == sysModules)=false) (rel:KV kvs vs) (dd:h'.DictOf (mixKind P w) a vs):
    ObjOk P w H' h' a (.dK kvs):=⟨z,hd,vs,rel,dd⟩
end
section
variable {X:Cx} {pins:List (Addr × Obj)} {σ:St} {H:Hp} {s:Shared} {a:Addr} {kvs:List (Key × V)} {k:Key} {u:Value} {A:Around} {E:Value→Shared→Prop}
end
def NoSl (i:Expr):Prop:=∀ ov iv,subscripted i false ov iv=operate [ov,iv] (getItem ov iv)
theorem subD_of {prog:Program} {w:World} {A:Around} {E:Value→Shared→Prop} {s:Shared} {env:Env} {value slice:Expr} {pos:Pos} {T id:String} {Q:Value→Shared→Prop}
    (hl:typeLookup (.type T) "__getitem__"=pure (some (.builtin id))) (hs:NoSl slice)
    (h:wpAny (model prog w) A (eval value env) (fun o s₁=>wpAny (model prog w) A (eval slice env) (fun i s₂=>s₂.TypeIs o T∧wpAny (model prog w) A (getItem o i) Q E s₂) E s₁) E s):
    wpAny (model prog w) A (eval (.Subscript value slice pos) env) Q E s:=by
  refine Subscript_ (wpAny_mono h (fun o s₁ h₁=>wpAny_mono h₁ (fun i s₂ h₂=> ?_) fun _ _ x=>x) fun _ _ x=>x)
  obtain ⟨hT,h₂⟩:=h₂
  unfold subscriptTail
  refine wpAny_bind ?_
  rw [getitemInPython_of_ne hT.not_modules]
  refine wpAny_bind (wpAny_specialOf hT hl ?_)
  have fin:wpAny (model prog w) A (subscripted slice false o i) (fun r s₃=>wpAny (model prog w) A (letTemporaryGo value o r >>= fun _=>pure r) Q E s₃) E s₂:=by
    rw [hs o i]
    exact wpAny_operating (wpAny_mono h₂ (fun r s₃ h₃=>wpAny_bind (wpAny_letTemporaryGo (wpAny_pure h₃))) fun _ _ x=>x)
  first
    | exact wpAny_pure (wpAny_bind fin)
    | exact wpAny_bind (wpAny_pure (wpAny_bind fin))
    | exact wpAny_bind fin
theorem dict_typeIs {X:Cx} {pins:List (Addr × Obj)} {σ:St} {H:Hp} {s:Shared} {a:Addr} {y:V} {o:Option V} (I:Inv X pins σ H s) (g:DGet H a y o):s.TypeIs (.ref a) "dict":=by
  rcases g with ⟨kvs,k,e,_,_⟩ | ⟨kvs,k,b,e,_,_,_⟩
  · obtain ⟨_,_,vs,_,dd⟩:=dk_rd I.hok e
    exact dd.typeIs
  · obtain ⟨_,_,xs,_,dd⟩:=dt_rd I.hok e
    exact dd.typeIs
def tDGet (td ty:TE):TE:=fun σ H Q=>td σ H fun x H1=>ty σ H1 fun y H2=>∃ a v,x= .ref a∧DGet H2 a y (some v)∧Q v H2
section
variable {X:Cx} {o i e value:Expr} {pos pos' tpos:Pos} {td ty tv:TE}
theorem pe_dget (hu:X.A.units+1<cLine) (ho:PE X o td) (hi:PE X i ty) (hs:NoSl i):PE X (.Subscript o i pos) (tDGet td ty):=by
  intro pins s σ H Q I h
  refine subD_of PySem.F.slot_dict_getitem.lookup hs (thn (ho pins s σ H _ I h) fun u s1 ⟨x,H1,I1,rx,q1⟩=>thn (hi pins s1 σ H1 _ I1 q1) fun iv s2 ⟨y,H2,I2,ry,a,v,ex,g,q2⟩=> ?_)
  subst ex
  obtain rfl:u=Value.ref a:=rx
  exact ⟨dict_typeIs I2 g,d_getItem hu I2 g ry fun w' s3 I3 rw'=>⟨v,H2,I3,rw',q2⟩⟩
end
theorem dk_empty {P:Program} {w:World} {H:Hp} (h:Heap) (hb:sysModules<h.objs.size):ObjOk P w H (h.push { cls:= .type "dict",data:= .dict #[] }) h.objs.size (.dK []):=
  ⟨Nat.zero_le _,beq_eq_false_iff_ne.mpr (Ne.symm (Nat.ne_of_lt hb)),[], .nil,Heap.DictOf.new h⟩
section
variable {X:Cx} {pos:Pos}
end
def tPairs:List (TE × TE)→St→Hp→(List (V × V)→Hp→Prop)→Prop
  | [],_,H,Q=>Q [] H
  | (tk,tv)::r,σ,H,Q=>tk σ H fun x H1=>tv σ H1 fun y H2=>tPairs r σ H2 fun ps H3=>Q ((x,y)::ps) H3
abbrev VV:List (V × V)→List (Value × Value)→Prop:=Paired fun p q=>RelV p.1 q.1∧RelV p.2 q.2
def PPs (X:Cx) (pos:Pos) (keys:List (Option Expr)) (values:List Expr) (trs:List (TE × TE)):Prop:=
  ∀ (pins:List (Addr × Obj)) (s:Shared) (σ:St) (H:Hp) (Q:List (V × V)→Hp→Prop),Inv X pins σ H s→tPairs trs σ H Q→
    wpAny (model X.prog X.w) X.A (evalPairs (pairTrees keys values X.env pos)) (fun vs s'=>∃ ps H',Inv X pins σ H' s'∧VV ps vs∧Q ps H') X.xe s
theorem pps_nil {X:Cx} {pos:Pos}:PPs X pos [] [] []:=fun pins s σ H Q I h=>pairTrees_nil_walk ⟨[],H,I, .nil,h⟩
theorem pps_cons {X:Cx} {pos:Pos} {k v:Expr} {ks:List (Option Expr)} {vs:List Expr} {tk tv:TE} {trs:List (TE × TE)} (hk:PE X k tk) (hv:PE X v tv) (hr:PPs X pos ks vs trs):
    PPs X pos (some k::ks) (v::vs) ((tk,tv)::trs):=fun pins s σ H Q I h=>
  pairTrees_cons_walk (thn (hk pins s σ H _ I h) fun u s1 ⟨x,H1,I1,rx,q1⟩=>thn (hv pins s1 σ H1 _ I1 q1) fun w2 s2 ⟨y,H2,I2,ry,q2⟩=>
    thn (hr pins s2 σ H2 _ I2 q2) fun ws s3 ⟨ps,H3,I3,rel,q3⟩=>⟨(x,y)::ps,H3,I3, .cons ⟨rx,ry⟩ rel,q3⟩)
def mergeK (kvs more:List (Key × V)):List (Key × V):=more.foldl (fun acc kv=>putK acc kv.1 kv.2) kvs
theorem KV.merge:∀ {more:List (Key × V)} {rs:List (Key × Value)} {kvs:List (Key × V)} {vs:List (Key × Value)},KV more rs→KV kvs vs→KV (mergeK kvs more) (merged vs rs):=by
  intro more rs kvs vs r
  unfold KV at r
  induction r generalizing kvs vs with
  | nil=>intro q;exact q
  | @cons p q ps qs h t ih=>
    intro r0
    have e:KV (putK kvs p.1 p.2) (stored vs q.1 q.2):=by
      have:=r0.put p.1 h.2
      rw [← h.1];exact this
    exact ih e
theorem length_mergeK:∀ (more kvs:List (Key × V)),(mergeK kvs more).length≤kvs.length+more.length
  | [],kvs=>by show kvs.length≤kvs.length+0;omega
  | p::r,kvs=>by
    have h1:=length_mergeK r (putK kvs p.1 p.2)
    have h2:=length_putK kvs p.1 p.2
    show (mergeK (putK kvs p.1 p.2) r).length≤_
    rw [List.length_cons];omega
theorem carries_of {P:Program} {w:World}:∀ {kvs:List (Key × V)} {ws:List (Value × Value)},VV (kvs.map fun kv=>(kV kv.1,kv.2)) ws→∃ rs,Carries (mixKind P w) ws rs∧KV kvs rs
  | [],_,r=>by rw [List.map_nil] at r;cases r;exact ⟨[],True.intro, .nil⟩
  | p::kvs,_,r=>by
    rw [List.map_cons] at r
    cases r with
    | @cons a b as bs h t=>
      obtain ⟨rs,c,q⟩:=carries_of (P:=P) (w:=w) t
      obtain ⟨b1,b2⟩:=b
      exact ⟨(p.1,b2)::rs,⟨kV_is h.1,rfl,c⟩, .cons ⟨rfl,h.2⟩ q⟩
def tDisp (trs:List (TE × TE)):TE:=fun σ H Q=>∀ p,H p=none→tPairs trs σ (upd H p (.dK [])) fun ps H2=>H2 p=some (.dK [])∧∃ kvs:List (Key × V),ps=kvs.map (fun kv=>(kV kv.1,kv.2))∧kvs.length≤15∧Q (.ref p) (upd H2 p (.dK (mergeK [] kvs)))
theorem pe_disp {X:Cx} {pos:Pos} {keys:List (Option Expr)} {values:List Expr} {trs:List (TE × TE)} (h:PPs X pos keys values trs) (hall:keys.all (·.isSome)=true) (hl:keys.length=values.length) (h0:keys≠[])
    (h15:keys.length≤15):PE X (.Dict keys values pos) (tDisp trs):=by
  intro pins s σ H Q I q
  have hn:=I.hok.fresh (Nat.le_refl s.heap.objs.size)
  have I1:=I.laid (a:=s.heap.objs.size) (o:= .dK []) (h':=s.heap.push { cls:= .type "dict",data:= .dict #[] }) (t':=s.toks) (fun _ _ q=>Heap.get?_push_of_some _ q) (Nat.le_refl _) (dk_empty s.heap I.big)
  refine wpAny_Dict_walk (knd:=mixKind X.prog X.w) hall hl h0 h15 (thn (h pins _ σ _ _ I1 (q _ hn)) fun ws s2 ⟨ps,H2,I2,rel,e,kvs,ep,lk,q2⟩=> ?_)
  subst ep
  obtain ⟨rs,c,rk⟩:=carries_of (P:=X.prog) (w:=X.w) rel
  obtain ⟨z,hd,vs0,r0,dd⟩:=dk_of I2.hok e
  cases r0
  refine ⟨rs,c,dd,fun h' dd' hs=>⟨.ref s.heap.objs.size,_,?_,rfl,q2⟩⟩
  have hz:(mergeK [] kvs).length≤sizeLine:=by
    have h1:=length_mergeK kvs []
    rw [List.length_nil] at h1
    rw [sizeLine_eq];omega
  have he:∃ q,h'.get? s.heap.objs.size=some q:=let ⟨q,_,_,hq,_⟩:=dd';⟨q,hq⟩
  exact d_write I2 (by rw [e];exact True.intro) hs he (dk_new hz hd (rk.merge .nil) dd')
structure M1 (X:Cx) (o:Expr) (m:Str) (apos:Pos) (e:Expr) (cpos:Pos):Prop where
  base:attributeBase o m X.env (eval o X.env)=eval o X.env
  few:((backTo cpos (starEach [e] X.env)).all (fun x=> !x.1)&&(backToKw cpos (keywordEach [] X.env)).all (fun x=>x.1.isSome)
    && decide (([e]:List Expr).length+([]:List Keyword).length+(if ([]:List Keyword).isEmpty then 0 else 1)<30))=true
  line:(apos.endLine == cpos.line)=true
  trees:backTo cpos (starEach [e] X.env)=[(false,eval e X.env)]
structure M2 (X:Cx) (o:Expr) (m:Str) (apos:Pos) (e f:Expr) (cpos:Pos):Prop where
  base:attributeBase o m X.env (eval o X.env)=eval o X.env
  few:((backTo cpos (starEach [e,f] X.env)).all (fun x=> !x.1)&&(backToKw cpos (keywordEach [] X.env)).all (fun x=>x.1.isSome)
    && decide (([e,f]:List Expr).length+([]:List Keyword).length+(if ([]:List Keyword).isEmpty then 0 else 1)<30))=true
  line:(apos.endLine == cpos.line)=true
  trees:backTo cpos (starEach [e,f] X.env)=[(false,eval e X.env),(false,eval f X.env)]
section
variable {X:Cx} {pins:List (Addr × Obj)} {σ:St} {H:Hp} {s:Shared} {a:Addr} {y d:V} {u r:Value} {o:Option V} {A:Around} {E:Value→Shared→Prop}
end
section
variable {X:Cx} {o e f:Expr} {apos cpos:Pos} {td ty tx:TE}
end
section
variable {X:Cx} {pins:List (Addr × Obj)} {σ:St} {H:Hp} {s:Shared} {a:Addr} {kvs:List (Key × V)} {A:Around} {E:Value→Shared→Prop}
end
section
variable {X:Cx} {pins:List (Addr × Obj)} {σ:St} {H:Hp} {s:Shared} {a:Addr} {y:V} {u:Value} {A:Around} {E:Value→Shared→Prop}
end
end L2
namespace L2
open PySem PySem.Spec PyProof.Rows
section
variable {P:Program} {w:World} {K:PySem.W.Frag} {mg:Str→Option Value} {base:Heap}
end
section
variable {X:Cx}
end
section
variable {κ:Type} [DecidableEq κ]
end
end L2
namespace L2
open PySem PySem.Spec PyProof.Rows
def closOf (cells:List (Str × Addr)):List (Str × NameKind)→List (Str × Addr)→List (Str × Addr)
  | [],acc=>acc
  | (n,k)::r,acc=>closOf cells r (if k= .free then (match cells.lookup n with | some a=>(n,a)::acc | none=>acc) else acc)
theorem closureFor_go {env:Env}:∀ (names:List (Str × NameKind)) (acc:List (Str × Addr)),(∀ y∈names,y.2= .free→∃ c,env.cells.lookup y.1=some c)→
    (forIn names acc fun (x:Str × NameKind) (r:List (Str × Addr))=>
      (if (x.2 == NameKind.free)=true then (do let a ← cellOf env x.1;pure (ForInStep.yield ((x.1,a)::r))) else pure (ForInStep.yield r):Sem (ForInStep (List (Str × Addr)))))=(pure (closOf env.cells names acc):Sem (List (Str × Addr)))
  | [],acc,_=>rfl
  | (n,k)::rest,acc,h=>by
    rw [List.forIn_cons]
    have ih:=fun acc'=>closureFor_go (env:=env) rest acc' fun y hy=>h y (List.mem_cons_of_mem _ hy)
    by_cases hk:k= .free
    · subst hk
      obtain ⟨c,hc⟩:=h (n, .free) List.mem_cons_self rfl
      have hc:env.cells.lookup n=some c:=hc
      have e:cellOf env n=pure c:=by unfold cellOf;rw [hc]
      simp only [beq_self_eq_true,if_true,e,pure_bind,closOf,hc]
      exact ih _
    · have hb:(k == NameKind.free)=false:=by simpa using hk
      simp only [hb,Bool.false_eq_true,if_false,pure_bind,closOf,if_neg hk]
      exact ih _
theorem closureFor_eq {env:Env} {scope:Scope} (h:∀ y∈scope.names,y.2= .free→∃ c,env.cells.lookup y.1=some c):closureFor scope env=pure (closOf env.cells scope.names []):=by
  have e:=closureFor_go (env:=env) scope.names [] h
  unfold closureFor
  simp only [bind_pure_comp,bind_pure,map_pure] at*
  exact e
theorem closOf_sub {cells:List (Str × Addr)}:∀ (names:List (Str × NameKind)) (acc:List (Str × Addr)),(∀ x c,acc.lookup x=some c→cells.lookup x=some c)→∀ x c,(closOf cells names acc).lookup x=some c→cells.lookup x=some c
  | [],acc,h,x,c,e=>h x c e
  | (n,k)::r,acc,h,x,c,e=>by
    refine closOf_sub r _ ?_ x c e
    intro y d q
    split at q
    · split at q
      · rename_i a ha
        rw [List.lookup_cons] at q
        split at q
        · rename_i hy
          cases q
          rw [eq_of_beq hy]
          exact ha
        · exact h y d q
      · exact h y d q
    · exact h y d q
theorem closOf_has {cells:List (Str × Addr)}:∀ (names:List (Str × NameKind)) (acc:List (Str × Addr)) (x:Str),(((x,NameKind.free)∈names∧∃ c,cells.lookup x=some c)∨∃ c,acc.lookup x=some c)→∃ c,(closOf cells names acc).lookup x=some c
  | [],acc,x,h=>by
    rcases h with ⟨h,_⟩ | h
    · cases h
    · exact h
  | (n,k)::r,acc,x,h=>by
    refine closOf_has r _ x ?_
    have up:(∃ c,acc.lookup x=some c)→∃ c,(if k= .free then (match cells.lookup n with | some a=>(n,a)::acc | none=>acc) else acc).lookup x=some c:=by
      rintro ⟨c,hc⟩
      split
      · split
        · rename_i a ha
          rw [List.lookup_cons]
          split
          · exact ⟨_,rfl⟩
          · exact ⟨c,hc⟩
        · exact ⟨c,hc⟩
      · exact ⟨c,hc⟩
    rcases h with ⟨h,c,hc⟩ | h
    · rcases List.mem_cons.mp h with e | e
      · cases e
        right
        refine ⟨c,?_⟩
        rw [if_pos rfl,hc,List.lookup_cons,beq_self_eq_true]
      · exact .inl ⟨e,c,hc⟩
    · exact .inr (up h)
theorem lookup_rel (env:Env) (x:Str):∀ names:List (Str × NameKind),
    (names.map fun (n,k)=>if (k == NameKind.free&&env.scope.kind == .function&&env.kindOf n == some .cell) then (n,NameKind.cell) else (n,k)).lookup x=
      (names.lookup x).map fun k=>if (k == NameKind.free&&env.scope.kind == .function&&env.kindOf x == some .cell)=true then NameKind.cell else k
  | []=>rfl
  | (n,k)::r=>by
    have ih:=lookup_rel env x r
    show List.lookup x ((if (k == NameKind.free&&env.scope.kind == .function&&env.kindOf n == some .cell)=true then (n,NameKind.cell) else (n,k))::_)=_
    cases hx:x == n with
    | true=>
      have e:x=n:=eq_of_beq hx
      subst e
      by_cases hc:(k == NameKind.free&&env.scope.kind == .function&&env.kindOf x == some .cell)=true
      · rw [if_pos hc,List.lookup_cons,List.lookup_cons,beq_self_eq_true]
        simp only [Option.map_some,if_pos hc]
      · rw [if_neg hc,List.lookup_cons,List.lookup_cons,beq_self_eq_true]
        simp only [Option.map_some,if_neg hc]
    | false=>
      have e:(List.lookup x ((n,k)::r))=List.lookup x r:=by rw [List.lookup_cons,hx]
      rw [e, ← ih]
      split <;> rw [List.lookup_cons,hx]
structure BlkScope (X:Cx) (scope:Scope) (own:List Str) (fr:List (Str × Nat)):Prop where
  kind:scope.kind= .function
  nocell:∀ y∈scope.names,y.2≠ .cell
  loc:∀ y∈scope.names,y.2= .local→scope.names.lookup y.1=some .local
  free:∀ y∈scope.names,y.2= .free→(X.env.scope.names.lookup y.1=some .cell∨X.env.scope.names.lookup y.1=some .free)
  fr:∀ p∈fr,X.N[p.2]?=some p.1∧(p.1,NameKind.free)∈scope.names
  only:∀ x,(x,NameKind.free)∈scope.names→scope.names.lookup x=some .free
def blkCx (X:Cx) (scope:Scope) (own:List Str) (fr:List (Str × Nat)) (C:Addr) (ex:List Addr) (s:Shared) (H:Hp):Cx where
  prog:=X.prog
  w:=X.w
  K:=X.K
  mg:=X.mg
  base:=X.base
  A:=X.A
  N:=own++fr.map (·.1)
  s₀:=s
  H₀:=H
  env:=compEnvC scope (closOf X.env.cells scope.names []) C X.env
  outer:=X.stack
  stack:=X.stack
  ex:=ex
  fn:=fun _=>false
  calm:=X.calm
  pn:=[]
  xe:=fun _ _=>False
def blkSt (own:List Str) (fr:List (Str × Nat)) (σ:St):St:=own.map (fun _=>none)++fr.map (fun p=>(σ[p.2]?).getD none)
section
variable {X:Cx} {pins:List (Addr × Obj)} {σ:St} {H:Hp} {s:Shared} {scope:Scope} {own:List Str} {fr:List (Str × Nat)} {fp:List Addr}
theorem BlkScope.cells (S:BlkScope X scope own fr) (ok:X.Ok):∀ y∈scope.names,y.2= .free→∃ c,X.env.cells.lookup y.1=some c:=fun y hy e=>ok.has y.1 (S.free y hy e)
theorem Inv.block {h':Heap} {t':Nat} {m:Str→Option Value} (I:Inv X pins σ H s) (S:BlkScope X scope own fr) (hf:∀ b∈fp,FpOk X pins H b) (hlt:∀ b∈fp,b<s.heap.objs.size)
    (hns:h'.Ns s.heap.objs.size m) (k:∀ b o,s.heap.get? b=some o→h'.get? b=some o):
    Inv (blkCx X scope own fr s.heap.objs.size fp s H) [] (blkSt own fr σ) H { s with heap:=h',toks:=t' }:=by
  have cs:∀ x c,(closOf X.env.cells scope.names []).lookup x=some c→X.env.cells.lookup x=some c:=closOf_sub _ _ (fun _ _ e=>by simp at e)
  have ck:∀ c v,s.heap.IsCell c v→h'.IsCell c v:=fun c v ⟨o,ho,hd⟩=>⟨o,k _ _ ho,hd⟩
  have kf:∀ x,(x,NameKind.free)∈scope.names→∃ c,X.env.cells.lookup x=some c∧(closOf X.env.cells scope.names []).lookup x=some c:=fun x hx=>by
    obtain ⟨c0,e0⟩:=S.cells I.ok (x, .free) hx rfl
    obtain ⟨c,e⟩:=closOf_has (cells:=X.env.cells) scope.names [] x (.inl ⟨hx,c0,e0⟩)
    exact ⟨c,cs _ _ e,e⟩
  have rel:∀ x,(compEnvC scope (closOf X.env.cells scope.names []) s.heap.objs.size X.env).kindOf x=(scope.names.lookup x).map fun k=>if (k == NameKind.free&&X.env.scope.kind == .function&&X.env.kindOf x == some .cell)=true then NameKind.cell else k:=fun x=>lookup_rel X.env x scope.names
  have nc:∀ x,scope.names.lookup x≠some .cell:=fun x e=>S.nocell _ (PySem.mem_of_lookup e) rfl
  refine ⟨⟨I.ok.mod,S.kind,I.ok.glob,I.ok.blt,Nat.le_refl _,fun x y c e1 e2=>I.ok.inj x y c (cs _ _ e1) (cs _ _ e2),fun x hx=> ?_,fun x c e _=>(nomatch e),I.ok.hd,I.ok.frames, .inl rfl,
    fun b hb=>⟨Nat.ne_of_lt (hlt b hb),fun x c e=>(hf b hb).2.2.2.2.1 x c (cs _ _ e)⟩,I.bs,Nat.le_trans I.ok.bsz I.sz,fun b o e hb=> ?_,fun b hb z=>(List.mem_cons.mp (I.stkSub b z)).elim (hf b hb).2.1 (hf b hb).2.2.1,I.stack,I.stkFree⟩,
    rfl,I.bare,Un.kept k,⟨m,hns,fun i x v e1 e2 e3=> ?_⟩,fun x c e=> ?_,I.hok.fresh (Nat.le_refl _),fun x c e=>I.freeC x c (cs _ _ e),fun p hp=>absurd (show p∈([]:List (Addr × Obj)) from hp) (by simp),I.hok.kept k,?_⟩
  · have hx:(compEnvC scope (closOf X.env.cells scope.names []) s.heap.objs.size X.env).kindOf x=some .cell∨(compEnvC scope (closOf X.env.cells scope.names []) s.heap.objs.size X.env).kindOf x=some .free:=hx
    rw [rel x] at hx
    have q:scope.names.lookup x=some .free:=by
      cases e:scope.names.lookup x with
      | none=>rw [e] at hx;simp at hx
      | some kk=>
        rw [e] at hx
        simp only [Option.map_some,Option.some.injEq] at hx
        by_cases hk:kk= .free
        · rw [hk]
        · have hb:(kk == NameKind.free)=false:=by simpa using hk
          simp only [hb,Bool.false_and,Bool.false_eq_true,if_false] at hx
          rcases hx with hx | hx
          · rw [hx] at e;exact absurd e (nc x)
          · exact absurd hx hk
    obtain ⟨c,_,e⟩:=kf x (PySem.mem_of_lookup q)
    exact ⟨c,e⟩
  · rcases (hf b hb).2.2.2.1 with z | z
    · exact I.ok.noex b o e z
    · exact absurd (Nat.lt_of_lt_of_le (Heap.lt_size (I.ok.bs b o e).1) z) (Nat.lt_irrefl _)
  · have e1:(own++fr.map (·.1))[i]?=some x:=e1
    have e2:(blkSt own fr σ)[i]?=some (some v):=e2
    unfold blkSt at e2
    by_cases hi:i<own.length
    · rw [List.getElem?_append_left (by simpa using hi),List.getElem?_map] at e2
      rw [List.getElem?_eq_getElem hi] at e2
      simp at e2
    · rw [List.getElem?_append_right (by simpa using hi),List.getElem?_map,List.length_map] at e2
      rw [List.getElem?_append_right (by omega),List.getElem?_map] at e1
      cases ep:fr[i - own.length]? with
      | none=>rw [ep] at e1;simp at e1
      | some p=>
        rw [ep] at e1 e2
        simp only [Option.map_some,Option.some.injEq] at e1 e2
        subst e1
        obtain ⟨h1,h2⟩:=S.fr p (List.mem_of_getElem? ep)
        have e4:σ[p.2]?=some (some v):=by
          cases q:σ[p.2]? with
          | none=>rw [q] at e2;simp at e2
          | some z=>rw [q] at e2;simp at e2;rw [e2]
        have kx:=S.free _ h2 rfl
        obtain ⟨m0,hn0,hl0⟩:=I.loc
        obtain ⟨u,r,l⟩:=hl0 p.2 p.1 v h1 e4 (kx.elim (fun z=> .inr (.inl z)) fun z=> .inr (.inr z))
        refine ⟨u,r,?_⟩
        rcases l with ⟨z,_⟩ | ⟨_,c,hc,hcell⟩
        · have z:X.env.scope.names.lookup p.1=some .local:=z
          rcases kx with y | y <;> (rw [y] at z;cases z)
        · obtain ⟨c',q1,q2⟩:=kf p.1 h2
          rw [hc] at q1
          cases q1
          refine .inr ⟨?_,c,q2,ck _ _ hcell⟩
          show (compEnvC scope (closOf X.env.cells scope.names []) s.heap.objs.size X.env).kindOf p.1=some .cell∨(compEnvC scope (closOf X.env.cells scope.names []) s.heap.objs.size X.env).kindOf p.1=some .free
          have e3:(compEnvC scope (closOf X.env.cells scope.names []) s.heap.objs.size X.env).kindOf p.1=some .local∨(compEnvC scope (closOf X.env.cells scope.names []) s.heap.objs.size X.env).kindOf p.1=some .cell∨(compEnvC scope (closOf X.env.cells scope.names []) s.heap.objs.size X.env).kindOf p.1=some .free:=e3
          rcases e3 with e3 | e3
          · exfalso
            rw [rel] at e3
            cases e:scope.names.lookup p.1 with
            | none=>rw [e] at e3;cases e3
            | some kk=>
              rw [e] at e3
              simp only [Option.map_some,Option.some.injEq] at e3
              by_cases hk:kk= .free
              · subst hk;split at e3 <;> cases e3
              · have hb:(kk == NameKind.free)=false:=by simpa using hk
                simp only [hb,Bool.false_and,Bool.false_eq_true,if_false] at e3
                subst e3
                have:=S.only p.1 h2
                rw [this] at e
                cases e
          · exact e3
  · obtain ⟨v,z⟩:=I.cell x c (cs _ _ e)
    exact ⟨v,ck _ _ z⟩
  · unfold blkSt
    show _=(own++fr.map (·.1)).length
    simp
end
end L2
namespace L2
open PySem PySem.Spec PyProof.Rows
theorem compLoop_go {prog:Program} {w:World} {A:Around} {R:Result→Shared→Prop} {s:Shared} {elt target iter:Expr} {ifs:List Expr} {scope:Scope} {pos:Pos} {it acc:Value} {env:Env} (I:Nat→Shared→Prop)
    (turn:∀ n s,I n s→wpAny (model prog w) A (pyNext it) (fun r s₁=>match r with
      | none=>R (.ok .next) s₁
      | some v=>wpAny (model prog w) A (letOwnedTupleGo target it v) (fun _ s₁'=>wpAny (model prog w) A (assign target env v) (fun _ s₂=>
          wpAny (model prog w) A (forIn ifs true fun c r=>if r=true then do let ok ← isTrue c env (eval c env);pure (ForInStep.yield ok) else pure (ForInStep.yield r)) (fun ok s₃=>
            if ok=true then wpAny (model prog w) A (eval elt env) (fun x s₄=>
              wpAny (model prog w) A (call (.builtin "list.append") [acc,x]) (fun _ s₅=>∃ m,m<n∧I m s₅) (fun _ _=>False) s₄) (fun _ _=>False) s₃
            else ∃ m,m<n∧I m s₃) (fun _ _=>False) s₂) (fun _ _=>False) s₁') (fun _ _=>False) s₁) (fun _ _=>False) s)
    (n:Nat) (h:I n s):codeAny (model prog w) A (.compLoop (.ListComp elt [⟨target,iter,ifs,0⟩] scope pos) 0 it acc env) R s:=by
  refine codeAny_loop rfl I (fun n s hI=> ?_) n h
  show wpAny _ A ((compTurn (.ListComp elt [⟨target,iter,ifs,0⟩] scope pos) 0 it acc env).onRaise (fun x=>do noteFrame x env;theTreesLotGoes x)) _ _ s
  refine wpAny_noted ?_
  rw [compTurn_list]
  refine wpAny_bind (wpAny_standAt (wpAny_bind (wpAny_mono (turn n s hI) (fun r s₁ h₁=> ?_) fun _ _ f=>f.elim)))
  cases r with
  | none=>exact wpAny_pure h₁
  | some v=>
    refine wpAny_bind (wpAny_mono h₁ (fun _ s₁' h₁'=>wpAny_bind (wpAny_mono h₁' (fun _ s₂ h₂=>wpAny_bind (wpAny_mono h₂ (fun ok s₃ h₃=> ?_) fun _ _ f=>f.elim)) fun _ _ f=>f.elim)) fun _ _ f=>f.elim)
    cases ok with
    | false=>exact wpAny_pure ⟨rfl,h₃⟩
    | true=>
      exact wpAny_bind (wpAny_bind (wpAny_mono h₃ (fun x s₄ h₄=>wpAny_bind (wpAny_mono h₄ (fun _ s₅ h₅=>wpAny_pure (wpAny_pure ⟨rfl,h₅⟩)) fun _ _ f=>f.elim)) fun _ _ f=>f.elim))
section
variable {X:Cx}
def PTs (X:Cx) (ifs:List Expr) (tc:TT):Prop:=
  ∀ (pins:List (Addr × Obj)) (s:Shared) (σ:St) (H:Hp) (Q:Bool→Hp→Prop),Inv X pins σ H s→tc σ H Q→
    wpAny (model X.prog X.w) X.A (forIn ifs true fun c r=>if r=true then do let ok ← isTrue c X.env (eval c X.env);pure (ForInStep.yield ok) else pure (ForInStep.yield r)) (TP X pins σ Q) X.xe s
def tYes:TT:=fun _ H Q=>Q true H
theorem pts_nil:PTs X [] tYes:=fun _ _ _ H _ I h=>wpAny_tests_nil ⟨H,I,h⟩
theorem pts_one {c:Expr} {tc:TT} (h:PT X c tc):PTs X [c] tc:=fun pins s σ H Q I q=>wpAny_tests_one (h pins s σ H Q I q)
def Kp (σ0 σ:St):Prop:=σ.length=σ0.length∧∀ (i:Nat) (v:V),σ0[i]?=some (some v)→σ[i]?=some (some v)
theorem Kp.refl (σ:St):Kp σ σ:=⟨rfl,fun _ _ h=>h⟩
theorem Kp.set {σ0 σ:St} {i:Nat} {v:V} (k:Kp σ0 σ) (h:σ0[i]?=some none):Kp σ0 (σ.set i (some v)):=by
  refine ⟨by rw [List.length_set];exact k.1,fun j u e=> ?_⟩
  by_cases hj:i=j
  · subst hj;rw [h] at e;cases e
  · rw [List.getElem?_set_ne hj];exact k.2 j u e
def CompW (J:It) (σ0:St) (g:TG) (tc:TT) (te:TE) (Q:VK) (H1:Hp) (D:Addr):Prop:=
  ∃ W:Nat→Nat→List V→Hp→Prop,(∃ m,W 0 m [] (upd H1 D (.lst [])))∧∀ i m ys H,W i m ys H→
    (J.stop i H∧Q (.ref D) H)∨(J.go i H∧∃ N:List V→Hp→Prop,(∀ ys' H',N ys' H'→∃ m',m'<m∧W (i+1) m' ys' H')∧∀ x H',J.yld i H x H'→g x σ0 H' fun σ2 H2=>Kp σ0 σ2∧tc σ2 H2 fun b H3=>
      if b=true then te σ2 H3 fun y H4=>H4 D=some (.lst ys)∧ys.length<sizeLine∧N (ys++[y]) (upd H4 D (.lst (ys++[y]))) else N ys H3)
def tComp (wi:TI) (own:List Str) (fr:List (Str × Nat)) (g:TG) (tc:TT) (te:TE):TE:=fun σ H Q=>wi σ H fun J H1=>∀ D,H1 D=none→CompW J (blkSt own fr σ) g tc te Q H1 D
theorem comp_run {elt tg iter:Expr} {ifs:List Expr} {scope:Scope} {pos:Pos} {own:List Str} {fr:List (Str × Nat)} {g:TG} {tc:TT} {te:TE} (hc:X.calm=true) (S:BlkScope X scope own fr)
    (hg:∀ C ex s H,PG (blkCx X scope own fr C ex s H) tg g) (ht:∀ C ex s H,PTs (blkCx X scope own fr C ex s H) ifs tc) (he:∀ C ex s H,PE (blkCx X scope own fr C ex s H) elt te)
    {pins:List (Addr × Obj)} {σ:St} {H:Hp} {s:Shared} {it:Addr} {fp:List Addr} {tn:Nat→Heap→Prop} {J:It} {E:Value→Shared→Prop}
    (I:Inv X pins σ H s) (T:Turn X.prog X.w X.K tg J fp it tn) (st:tn 0 s.heap) (hf:∀ b∈fp,FpOk X pins H b) {Q:VK}
    (h:∀ D,H D=none→CompW J (blkSt own fr σ) g tc te Q H D)
    {RR:Value→Addr→Result→Shared→Prop}
    (hR:∀ D C H' s',Inv X pins σ H' s'→(∃ m,s'.heap.Ns C m)→FpOk X pins H' C→Q (.ref D) H'→RR (.ref D) C (.ok .next) s'):
    wpAny (model X.prog X.w) X.A (newList []) (fun acc s₃=>wpAny (model X.prog X.w) X.A (newFunctionEnv scope X.env.globals (closOf X.env.cells scope.names []) [] X.env.qual none .none (some X.env)) (fun cenv s₄=>
      codeAny (model X.prog X.w) X.A (.compStart (.ListComp elt [⟨tg,iter,ifs,0⟩] scope pos) 0 (.ref it) acc { cenv with scope:=relabel scope X.env }) (RR acc cenv.locals) s₄) E s₃) E s:=by
  have hDn:H s.heap.objs.size=none:=I.fresh
  obtain ⟨W,⟨m0,w0⟩,turn⟩:=h s.heap.objs.size hDn
  have I3:Inv X pins σ (upd H s.heap.objs.size (.lst [])) { s with heap:=s.heap.push { cls:= .type "list",data:= .seq ([]:List Value).toArray },toks:=s.toks }:=I.lnew .nil (Nat.zero_le _)
  refine wpAny_newObj_type ?_
  generalize hs3:({ s with heap:=s.heap.push { cls:= .type "list",data:= .seq ([]:List Value).toArray } }:Shared)=s3 at I3 ⊢
  have I3:Inv X pins σ (upd H s.heap.objs.size (.lst [])) s3:=I3
  have old3:∀ b o,s.heap.get? b=some o→s3.heap.get? b=some o:=fun b o e=>by rw [← hs3];exact Heap.get?_push_of_some _ e
  have hobj:∀ b∈fp,∃ o,s.heap.get? b=some o∧∀ v,o.data≠ .cell v:=T.obj 0 _ st
  have hne:∀ b∈fp,b≠s.heap.objs.size:=fun b hb=>by obtain ⟨o,e,_⟩:=hobj b hb;exact Nat.ne_of_lt (Heap.lt_size e)
  have hf3:∀ b∈fp,FpOk X pins (upd H s.heap.objs.size (.lst [])) b:=fun b hb=>⟨by rw [upd_ne (hne b hb)];exact (hf b hb).1,(hf b hb).2⟩
  have hlt3:∀ b∈fp,b<s3.heap.objs.size:=fun b hb=>by obtain ⟨o,e,_⟩:=hobj b hb;exact Heap.lt_size (old3 b o e)
  refine wpAny_newFunctionEnv S.nocell (by intro y hy;simp at hy) (fun h₁ hns hsb=> ?_) S.kind
  have keep:∀ b o,s3.heap.get? b=some o→h₁.get? b=some o:=fun b o e=>hsb.extBut b o (Nat.ne_of_lt (Heap.lt_size e)) (Heap.get?_push_of_some _ e)
  have J0:=I3.block (t':=s3.toks+([]:List (Str × Value)).length) S hf3 hlt3 hns keep
  have st3:tn 0 h₁:=T.keep 0 _ _ st fun b hb o e=>keep b o (old3 b o e)
  have loop:codeAny (model X.prog X.w) X.A (.compLoop (.ListComp elt [⟨tg,iter,ifs,0⟩] scope pos) 0 (.ref it) (.ref s.heap.objs.size) (compEnvC scope (closOf X.env.cells scope.names []) s3.heap.objs.size X.env))
      (RR (.ref s.heap.objs.size) s3.heap.objs.size) { s3 with heap:=h₁,toks:=s3.toks+([]:List (Str × Value)).length }:=by
    have stat:∀ {H':Hp},(∀ b∈fp,H' b=none)→∀ b∈fp,FpOk (blkCx X scope own fr s3.heap.objs.size fp s3 (upd H s.heap.objs.size (.lst []))) [] H' b:=fun {H'} hn b hb=>
      ⟨hn b hb,Nat.ne_of_lt (hlt3 b hb),J0.ok.exfs b hb, .inl hb,(J0.ok.exf b hb).2,fun p hp=>absurd (show p∈([]:List (Addr × Obj)) from hp) (by simp)⟩
    refine compLoop_go (fun n s'=>∃ i ys H',Inv (blkCx X scope own fr s3.heap.objs.size fp s3 (upd H s.heap.objs.size (.lst []))) [] (blkSt own fr σ) H' s'∧tn i s'.heap∧(∀ b∈fp,H' b=none)∧W i n ys H') ?_ m0
      ⟨0,[],_,J0,st3,fun b hb=>(hf3 b hb).1,w0⟩
    rintro n s4 ⟨i,ys,H4,I4,st4,fr4,w4⟩
    rcases turn i n ys H4 w4 with ⟨stop,q⟩ | ⟨go,N,hN,step⟩
    · refine thn (T.done (blkCx X scope own fr s3.heap.objs.size fp s3 (upd H s.heap.objs.size (.lst []))) rfl rfl rfl hc i [] s4 _ H4 (fun _ _=>False) I4 (stat fr4) st4 stop) fun r s5 ⟨hr,I5⟩=> ?_
      subst hr
      obtain ⟨m,hn,_⟩:=id I5.loc
      exact hR _ _ H4 s5 (I3.call' I5.os I5.base I5.hok I5.bare fun b hb=>⟨(hf3 b hb).2.2.2.1,(hf3 b hb).2.1,(hf3 b hb).2.2.2.2.1,(hf3 b hb).2.2.2.2.2⟩) ⟨m,hn⟩ (I3.fpOk (Nat.le_refl _) I5.free) q
    · refine thn (T.item (blkCx X scope own fr s3.heap.objs.size fp s3 (upd H s.heap.objs.size (.lst []))) rfl rfl rfl hc i [] s4 _ H4 (fun _ _=>False) I4 (stat fr4) st4 go) fun r s5 ⟨u,hr,h5⟩=> ?_
      subst hr
      refine thn h5 fun _ s6 ⟨x,H6,I6,r6,y6,st6,fr6⟩=> ?_
      have I6':=I6.pinned (stat fr6) (T.obj _ _ st6)
      refine thn (hg _ _ _ _ _ s6 _ H6 x u _ I6' r6 (step x H6 y6)) fun _ s7 ⟨σ7,H7,I7,kp,q7⟩=> ?_
      refine thn (ht _ _ _ _ _ s7 σ7 H7 _ I7 q7) fun b s8 ⟨H8,I8,q8⟩=> ?_
      have again:∀ {s9:Shared} {H9:Hp} {ys':List V},Inv (blkCx X scope own fr s3.heap.objs.size fp s3 (upd H s.heap.objs.size (.lst []))) ([]++pinsAt fp s6.heap) σ7 H9 s9→N ys' H9→
          ∃ m,m<n∧∃ i ys H',Inv (blkCx X scope own fr s3.heap.objs.size fp s3 (upd H s.heap.objs.size (.lst []))) [] (blkSt own fr σ) H' s9∧tn i s9.heap∧(∀ b∈fp,H' b=none)∧W i m ys H':=fun {s9 H9 ys'} I9 n9=>by
        obtain ⟨m',hm,w9⟩:=hN ys' H9 n9
        refine ⟨m',hm,i+1,ys',H9,I9.unpinned.weak kp.1.symm kp.2,T.keep _ _ _ st6 fun b hb o e=>(I9.pin (b,o) (List.mem_append_right _ (List.mem_append_right _ (mem_pinsAt hb e)))).1,fun b hb=> ?_,w9⟩
        obtain ⟨o,e,d⟩:=T.obj _ _ st6 b hb
        exact (I9.pin (b,o) (List.mem_append_right _ (List.mem_append_right _ (mem_pinsAt hb e)))).2.1
      cases b with
      | false=>
        rw [if_neg Bool.false_ne_true] at q8 ⊢
        exact again I8 q8
      | true=>
        rw [if_pos rfl] at q8 ⊢
        refine thn (he _ _ _ _ _ s8 σ7 H8 _ I8 q8) fun xv s9 ⟨y,H9,I9,r9,hD,hl,n9⟩=> ?_
        refine thn (mt_append _ s9 σ7 H9 (.ref s.heap.objs.size) [y] (.ref s.heap.objs.size) [xv] (fun _ H'=>H'=upd H9 s.heap.objs.size (.lst (ys++[y]))) I9 rfl (.cons r9 .nil) ⟨_,ys,y,rfl,rfl,hD,hl,rfl⟩) fun _ s10 ⟨_,H10,I10,_,q10⟩=> ?_
        subst q10
        exact again I10 n9
  exact codeAny_compStart_list loop (T.self _ 0 _ _ _ st3 loop)
theorem pe_comp {elt tg iter:Expr} {ifs:List Expr} {scope:Scope} {pos:Pos} {own:List Str} {fr:List (Str × Nat)} {wi:TI} {g:TG} {tc:TT} {te:TE} (hc:X.calm=true) (S:BlkScope X scope own fr) (hi:PI X tg iter wi)
    (hg:∀ C ex s H,PG (blkCx X scope own fr C ex s H) tg g) (ht:∀ C ex s H,PTs (blkCx X scope own fr C ex s H) ifs tc) (he:∀ C ex s H,PE (blkCx X scope own fr C ex s H) elt te)
    (hs:∀ x,foldedSetIterable iter X.env x=pure x:=by intro _;rfl):PE X (.ListComp elt [⟨tg,iter,ifs,0⟩] scope pos) (tComp wi own fr g tc te):=by
  intro pins s σ H Q I h
  rw [eval_ListComp]
  refine wpAny_comprehension_free (use:=none) rfl hs (closureFor_eq (S.cells I.ok)) S.kind S.loc (thn (hi pins s σ H _ I h) fun xv s₁ h₁=>thn h₁ fun itv s₂ h₂=> ?_)
  obtain ⟨it,fp,tn,J,H2,rfl,I2,T,st2,f2,h2⟩:=h₂
  refine comp_run (RR:=fun acc C=>compPost (model X.prog X.w) X.A X.xe none (EP X pins σ Q) acc C) hc S hg ht he I2 T st2 f2 h2 ?_
  rintro D C H' s' I' ⟨m,hn⟩ f q
  exact ⟨m,hn,fun h' sb=>⟨.ref D,H',I'.turned (t':=s'.toks) (it:=C) (fun b o hb e=>(sb.2 b hb).trans e) f.1 f.2.1 f.2.2.2.1 f.2.2.2.2.1 f.2.2.2.2.2,rfl,q⟩⟩
theorem ps_comp {i:Nat} {x:Str} {px spos:Pos} {elt tg iter:Expr} {ifs:List Expr} {scope:Scope} {pos:Pos} {own:List Str} {fr:List (Str × Nat)} {wi:TI} {g:TG} {tc:TT} {te:TE} (hN:X.N.Nodup) (hix:X.N[i]?=some x) (hx:Loc X.env.scope x)
    (hc:X.calm=true) (S:BlkScope X scope own fr) (hi:PI X tg iter wi)
    (hg:∀ C ex s H,PG (blkCx X scope own fr C ex s H) tg g) (ht:∀ C ex s H,PTs (blkCx X scope own fr C ex s H) ifs tc) (he:∀ C ex s H,PE (blkCx X scope own fr C ex s H) elt te)
    (hsw:swapsWith (.ListComp elt [⟨tg,iter,ifs,0⟩] scope pos) (some (.Name x px)) spos.line X.env=pure true:=by rfl)
    (hf:X.fn x=true∨X.env.scope.names.lookup x=some .local:=by first | exact .inl rfl | exact .inr rfl | assumption)
    (hs:∀ x,foldedSetIterable iter X.env x=pure x:=by intro _;rfl):PS X (.Assign [.Name x px] (.ListComp elt [⟨tg,iter,ifs,0⟩] scope pos) spos) (tAsg (tComp wi own fr g tc te) (gName i)):=by
  intro pins s σ H D I h
  rw [exec_Assign_Name_used _ _ _ _ hsw]
  refine wpAny_bind (wpAny_standAt (wpAny_bind ?_))
  show wpAny _ X.A (do let _ ← comprehension (.ListComp elt [⟨tg,iter,ifs,0⟩] scope pos) scope X.env _ (newList []) false (eval iter X.env) (some (assign (.Name x px) X.env))) _ _ s
  refine wpAny_bind (wpAny_mono (wpAny_comprehension_free (use:=some (assign (.Name x px) X.env)) (Q:=fun _ s'=>SP X pins D .next s') rfl hs (closureFor_eq (S.cells I.ok)) S.kind S.loc
    (thn (hi pins s σ H _ I h) fun xv s₁ h₁=>thn h₁ fun itv s₂ h₂=> ?_)) (fun _ s' hq=>wpAny_pure (wpAny_pure hq)) fun _ _ e=>e)
  obtain ⟨it,fp,tn,J,H2,rfl,I2,T,st2,f2,h2⟩:=h₂
  refine comp_run (Q:=fun x H1=>gName i x σ H1 D.nx) (RR:=fun acc C=>compPost (model X.prog X.w) X.A X.xe (some (assign (.Name x px) X.env)) (fun _ s'=>SP X pins D .next s') acc C) hc S hg ht he I2 T st2 f2 h2 ?_
  rintro Dl C H' s' I' ⟨m,hn⟩ f q
  obtain ⟨o,es,ep,ho,hd,r⟩:=hn
  have pinC:∀ v,o.data≠ .cell v:=fun v z=>by rw [hd] at z;cases z
  have I'':Inv X (pins++[(C,o)]) σ H' s':=I'.pins_of fun p hp=>(List.mem_append.mp hp).elim (fun z=>I'.pin p (List.mem_append_right _ z)) fun z=>by
    have e:p=(C,o):=by simpa using z
    subst e
    exact ⟨ho,f.1,f.2.1,f.2.2.1,pinC⟩
  show wpAny _ X.A (assign (.Name x px) X.env (.ref Dl)) _ _ s'
  refine wpAny_assign_Name (store_ok I'' hN hix hx (v:= .ref Dl) rfl (fun s2 I2=> ?_) hf)
  have pc:=(I2.pin (C,o) (List.mem_append_right _ (List.mem_append_right _ (by simp)))).1
  refine ⟨m,⟨o,es,ep,pc,hd,r⟩,fun h' sb=>⟨_,H',?_,q⟩⟩
  exact (I2.unpinned (pl:=[(C,o)])).turned (t':=s2.toks) (it:=C) (fun b o hb e=>(sb.2 b hb).trans e) f.1 f.2.1 f.2.2.2.1 f.2.2.2.2.1 f.2.2.2.2.2
end
section
variable {X:Cx} {tg:Expr}
end
end L2
namespace L2
open PySem PySem.Spec PyProof.Rows
section
variable {X:Cx}
theorem fst_of_ints:∀ {ns:List Int} {l:List (Int × Tok)},Vals (ns.map V.int) (l.map fun p=>Value.int p.1 p.2)→l.map (·.1)=ns
  | [],[],_=>rfl
  | n::ns,p::l,r=>by
    cases r with
    | cons r1 r2=>
      obtain ⟨t,e⟩:=r1
      injection e with e1 e2
      rw [List.map_cons,fst_of_ints r2,e1]
  | [],_::_,r=>by cases r
  | _::_,[],r=>by cases r
theorem call_sum (hc:X.calm=true):CallR X (.builtin "sum") (fun xs H Q=>∃ (p:Addr) (ns:List Int),xs=[.ref p]∧SqL X.K H p (ns.map V.int)∧Q (.int ns.sum) H):=by
  intro pins s σ H xs us Q I r h
  obtain ⟨p,ns,rfl,hq,q⟩:=h
  obtain ⟨u,rfl,rx⟩:=vals1 r
  cases rx
  obtain ⟨its,rv,pl,_⟩:=I.list hq
  obtain ⟨ps,e⟩:=(IntsAre.allInts (intsAre_of rv)).items
  have e':its=ps.toList.map fun p=>Value.int p.1 p.2:=by
    have:=congrArg Array.toList e
    simpa [intItems] using this
  have hl:=pl.isList
  rw [e] at hl
  refine sum_intListG (I.ok.hd hc) hl fun h' tk t' hk=> ?_
  have es:preSum (numAt ps) ps.size=ns.sum:=by
    rw [preSum_eq,List.take_of_length_le (by simp),fst_of_ints (ns:=ns) (l:=ps.toList) (by rw [← e'];exact rv)]
  rw [es]
  exact ⟨.int ns.sum,H,I.kept hk,⟨t',rfl⟩,q⟩
theorem all_range (bs:List Bool):(List.range bs.length).all (fun i=>bs.getD i true)=bs.all id:=by
  rw [Bool.eq_iff_iff,List.all_eq_true,List.all_eq_true]
  constructor
  · intro h b hb
    obtain ⟨i,hi,rfl⟩:=List.getElem_of_mem hb
    have:=h i (by simpa using hi)
    rw [List.getD_eq_getElem?_getD,List.getElem?_eq_getElem hi] at this
    exact this
  · intro h i hi
    have hi:i<bs.length:=by simpa using hi
    rw [List.getD_eq_getElem?_getD,List.getElem?_eq_getElem hi]
    exact h _ (List.getElem_mem hi)
theorem call_all (hc:X.calm=true):CallR X (.builtin "all") (fun xs H Q=>∃ (p:Addr) (bs:List Bool),xs=[.ref p]∧SqL X.K H p (bs.map V.bl)∧Q (.bl (bs.all id)) H):=by
  intro pins s σ H xs us Q I r h
  obtain ⟨p,bs,rfl,hq,q⟩:=h
  obtain ⟨u,rfl,rx⟩:=vals1 r
  cases rx
  obtain ⟨its,rv,pl,_⟩:=I.list hq
  have hl:=rv.length
  rw [List.length_map] at hl
  obtain ⟨o,ho,_⟩:=id pl.isList
  have hne:p≠s.heap.objs.size:=Nat.ne_of_lt (Heap.lt_size ho)
  refine call_all_walk (wpAny_pyIter_list pl.isList ?_)
  refine ⟨s.heap.objs.size,_,_,_,_,_,fun i=>bs.getD i true,rfl,Walks.list (A:=X.A.in1) (I.ok.hd hc) _ p hne its.toArray,⟨⟨_,Heap.get?_push_size _ rfl,rfl,rfl⟩,pl.isList.at fun o e=>Heap.get?_push_of_some _ e⟩,?_,fun h' tk hk=> ?_⟩
  · intro i v s' Q' E' hv hQ'
    have hv:its[i]?=some v:=by simpa using hv
    have hi:i<bs.length:=by rw [hl];exact (List.getElem?_eq_some_iff.mp hv).1
    obtain ⟨u,hu,ru⟩:=rv.get (i:=i) (x:= .bl (bs.getD i true)) (by rw [List.getElem?_map,List.getD_eq_getElem?_getD,List.getElem?_eq_getElem hi];rfl)
    rw [hu] at hv
    cases hv
    cases ru
    exact wpAny_truthy_bool hQ'
  · have e:its.toArray.size=bs.length:=by rw [List.size_toArray];exact hl.symm
    rw [e,all_range]
    exact ⟨.bl _,H,I.kept fun b o e=>hk b o (fun z=>by simp at z;exact absurd (Heap.lt_size e) (by rw [z];exact Nat.lt_irrefl _)) (Heap.get?_push_of_some _ e),rfl,q⟩
theorem call_isinst:CallR X (.builtin "isinstance") (fun xs H Q=>∃ x n t b,xs=[x, .ty n]∧TyOf X.K H x t∧PySem.W.kitOne X.K t (.type n)=some b∧Q (.bl b) H):=by
  intro pins s σ H xs us Q I r h
  obtain ⟨x,n,t,b,rfl,ty,e,q⟩:=h
  obtain ⟨u,c,rfl,rx,rc⟩:=vals2 r
  cases rc
  exact isinst_ok I rx ty e fun tk=>⟨.bl b,H,I.tok tk,rfl,q⟩
def rCatS (K:PySem.W.Frag):R2:=fun x y H Q=>∃ l b xs zs,x= .ref l∧y= .ref b∧SqL K H l xs∧SqL K H b zs∧xs.length+zs.length≤sizeLine∧∀ p,H p=none→Q (.ref p) (upd H p (.lst (xs++zs)))
theorem op_catS:OpR X (binaryOp .Add) (rCatS X.K):=by
  intro pins s σ H x y v u Q I rx ry h
  obtain ⟨l,b,xs,zs,rfl,rfl,hH,hB,hz,q⟩:=h
  cases rx
  cases ry
  obtain ⟨its,r,pl,_⟩:=I.list hH
  obtain ⟨its2,r2,pl2,_⟩:=I.list hB
  have h1:=r.length
  have h2:=r2.length
  obtain ⟨⟨cls,dd,data,sl⟩,n,ho,hc,hdd,hd⟩:=pl
  obtain ⟨⟨cls2,dd2,data2,sl2⟩,n2,ho2,hc2,hdd2,hd2⟩:=pl2
  simp only at hc hdd hd hc2 hdd2 hd2
  subst hc hdd hd hc2 hdd2 hd2
  refine concat_meets ⟨_,ho,rfl⟩ ⟨_,ho2,rfl⟩ noFill_list_add seq_list_add PySem.F.slot_list_add PySem.F.entry_list_add (PySem.F.args_list_add_2 _ _) (list_addW l b its.toArray its2.toArray n n2 none none sl sl2 (by rw [List.size_toArray,List.size_toArray];omega)) ⟨ho,ho2,?_⟩
  have e:its.toArray++its2.toArray=(its++its2).toArray:=by simp
  rw [e]
  exact ⟨.ref _,_,I.lnew (t':=s.toks) (r.append r2) (by rw [List.length_append];omega),rfl,q _ I.fresh⟩
def eqVs (xs ys:List V):Bool:=xs.length == ys.length&&(List.range xs.length).all fun i=>eqV (xs.getD i .non) (ys.getD i .non)
theorem flat_getD {xs:List V} (h:xs.all flatV=true) {i:Nat} (hi:i<xs.length):flatV (xs.getD i .non)=true:=by
  rw [List.getD_eq_getElem?_getD,List.getElem?_eq_getElem hi]
  exact (List.all_eq_true.mp h) _ (List.getElem_mem hi)
def rEqL (K:PySem.W.Frag) (neg:Bool):R2:=fun x y H Q=>∃ p q xs ys,x= .ref p∧y= .ref q∧SqL K H p xs∧SqL K H q ys∧xs.all flatV=true∧ys.all flatV=true∧Q (.bl (if neg then !eqVs xs ys else eqVs xs ys)) H
theorem eqAt_items {A:Around} {s:Shared} {xs ys:List V} {its its2:List Value} (r:Vals xs its) (r2:Vals ys its2) (fx:xs.all flatV=true) (fy:ys.all flatV=true):
    ∀ j (h1:j<its.toArray.size) (h2:j<its2.toArray.size),SeqAt.EqAt A s its.toArray[j] its2.toArray[j] (eqV (xs.getD j .non) (ys.getD j .non)):=fun j h1 h2=>by
  have l1:=r.length
  have l2:=r2.length
  have h1':j<its.length:=by simpa using h1
  have h2':j<its2.length:=by simpa using h2
  have g1:xs[j]?=some (xs.getD j .non):=by rw [List.getD_eq_getElem?_getD,List.getElem?_eq_getElem (by omega)];rfl
  have g2:ys[j]?=some (ys.getD j .non):=by rw [List.getD_eq_getElem?_getD,List.getElem?_eq_getElem (by omega)];rfl
  obtain ⟨u,e1,ru⟩:=r.get g1
  obtain ⟨u2,e2,ru2⟩:=r2.get g2
  have q1:its.toArray[j]=u:=by rw [List.getElem?_eq_getElem h1'] at e1;simpa using Option.some.inj e1
  have q2:its2.toArray[j]=u2:=by rw [List.getElem?_eq_getElem h2'] at e2;simpa using Option.some.inj e2
  rw [q1,q2]
  exact eqAt_V ru ru2 (flat_getD fx (by omega)) (flat_getD fy (by omega))
theorem op_eqL (hu:X.A.units<cLine):OpR X (compareOp .Eq) (rEqL X.K false):=by
  intro pins s σ H x y v u Q I rx ry h
  obtain ⟨p,q,xs,ys,rfl,rfl,h1,h2,fx,fy,hq⟩:=h
  cases rx
  cases ry
  obtain ⟨its,r,pl,_⟩:=I.list h1
  obtain ⟨its2,r2,pl2,_⟩:=I.list h2
  have l1:=r.length
  have l2:=r2.length
  by_cases hl:xs.length=ys.length
  · refine SeqAt.eq_listAt pl.isList pl2.isList (by simp;omega) hu (eqAt_items r r2 fx fy) ⟨.bl _,H,I,rfl,?_⟩
    have e:eqVs xs ys=(List.range its.toArray.size).all fun i=>eqV (xs.getD i .non) (ys.getD i .non):=by
      unfold eqVs
      rw [hl,beq_self_eq_true,Bool.true_and,List.size_toArray, ← l1,hl]
    rw [← e]
    exact hq
  · refine SeqAt.eq_list_lengthsAt pl.isList pl2.isList (by simp;omega) hu ⟨.bl _,H,I,rfl,?_⟩
    have e:eqVs xs ys=false:=by unfold eqVs;rw [beq_eq_false_iff_ne.mpr hl,Bool.false_and]
    rw [← e]
    exact hq
theorem op_neL (hu:X.A.units<cLine):OpR X (compareOp .NotEq) (rEqL X.K true):=by
  intro pins s σ H x y v u Q I rx ry h
  obtain ⟨p,q,xs,ys,rfl,rfl,h1,h2,fx,fy,hq⟩:=h
  cases rx
  cases ry
  obtain ⟨its,r,pl,_⟩:=I.list h1
  obtain ⟨its2,r2,pl2,_⟩:=I.list h2
  have l1:=r.length
  have l2:=r2.length
  by_cases hl:xs.length=ys.length
  · refine SeqAt.RcNeAt.lists pl.isList pl2.isList (by simp;omega) hu (eqAt_items r r2 fx fy) _ _ _ _ ⟨.bl _,H,I,rfl,?_⟩
    have e:eqVs xs ys=(List.range its.toArray.size).all fun i=>eqV (xs.getD i .non) (ys.getD i .non):=by
      unfold eqVs
      rw [hl,beq_self_eq_true,Bool.true_and,List.size_toArray, ← l1,hl]
    rw [← e]
    exact hq
  · refine SeqAt.RcNeAt.lists_lengths pl.isList pl2.isList (by simp;omega) hu _ _ _ _ ⟨.bl _,H,I,rfl,?_⟩
    have e:eqVs xs ys=false:=by unfold eqVs;rw [beq_eq_false_iff_ne.mpr hl,Bool.false_and]
    rw [e] at hq
    exact hq
theorem eqVs_of {α:Type} [DecidableEq α] (f:α→V) (hf:∀ a b,eqV (f a) (f b)=decide (a=b)) (as bs:List α):eqVs (as.map f) (bs.map f)=decide (as=bs):=by
  unfold eqVs
  rw [Bool.eq_iff_iff,Bool.and_eq_true,List.all_eq_true,decide_eq_true_iff,beq_iff_eq,List.length_map,List.length_map]
  constructor
  · rintro ⟨h1,h2⟩
    refine List.ext_getElem h1 fun i g1 g2=> ?_
    have:=h2 i (by simpa using g1)
    rw [List.getD_eq_getElem?_getD,List.getD_eq_getElem?_getD,List.getElem?_map,List.getElem?_map,List.getElem?_eq_getElem g1,List.getElem?_eq_getElem g2] at this
    have:=(hf _ _).symm.trans this
    exact of_decide_eq_true this
  · rintro rfl
    refine ⟨rfl,fun i hi=> ?_⟩
    have hi:i<as.length:=by simpa using hi
    rw [List.getD_eq_getElem?_getD,List.getElem?_map,List.getElem?_eq_getElem hi]
    show eqV (f as[i]) (f as[i])=true
    rw [hf]
    exact decide_eq_true rfl
theorem eqVs_int (as bs:List Int):eqVs (as.map V.int) (bs.map V.int)=decide (as=bs):=eqVs_of V.int (fun a b=>by show (a == b)=_;rw [Bool.eq_iff_iff,beq_iff_eq,decide_eq_true_iff]) as bs
theorem flat_int (as:List Int):(as.map V.int).all flatV=true:=by simp [flatV]
end
end L2
namespace L2
open PySem PySem.Spec PyProof.Rows
def CallF (P:Program) (w:World) (K:PySem.W.Frag) (mg:Str→Option Value) (base:Heap) (x:Str) (k:Nat) (ps:List Str) (sp:Sp):Prop:=
  ∃ f fd,mg x=some (.ref f)∧PySem.W.keepIn K (.ref f)=true∧FnOk P w K mg base CX0 k f fd ps sp∧Binds K fd ps []
section
variable {X:Cx} {x:Str} {k:Nat} {ps:List Str} {sp:Sp} {e:Expr} {es:List Expr} {t:TA} {p pos:Pos}
theorem pe_callF (h:CallF X.prog X.w X.K X.mg X.base x k ps sp) (hr:Room k X.A) (ha:PA X (e::es) t) (hg:Gl X x:=by rfl) (hdb:(x == ("__debug__":Str))=false:=by decide)
    (he:starEach (e::es) X.env=(false,eval e X.env)::starEach es X.env:=by rfl) (hpl:(backTo pos (starEach es X.env)).any (·.1)=false:=by rfl):
    PE X (.Call (.Name x p) (e::es) [] pos) (tCall sp [] E0 t):=by
  obtain ⟨f,fd,hm,hk,F,hb⟩:=h
  exact pe_call F hr hg hm hk hb .nil pass0 ha hdb he hpl
end
structure DefAt (K:PySem.W.Frag) (mg:Str→Option Value) (x:Str) (st:Stmt) (ps:List Str) (f:Addr) (fd:FuncData):Prop where
  fn:Fun K x x st f fd
  at':mg x=some (.ref f)
  bi:Binds K fd ps []
theorem DefAt.call {P:Program} {w:World} {K:PySem.W.Frag} {mg:Str→Option Value} {base:Heap} {x:Str} {st:Stmt} {ps:List Str} {f:Addr} {fd:FuncData} {k:Nat} {sp:Sp} (d:DefAt K mg x st ps f fd)
    (F:FnOk P w K mg base CX0 k f fd ps sp):CallF P w K mg base x k ps sp:=⟨f,fd,d.at',d.fn.kp,F,d.bi⟩
def isIntV:V→Bool | .int _=>true | _=>false
def isBlV:V→Bool | .bl _=>true | _=>false
def Ty (K:PySem.W.Frag) (H:Hp) (x:V):Prop:=∃ n,TyOf K H x (.type n)
def kitB (n T:String):Option Bool:=if (Value.type n == Value.type T)=true then some true else if PySem.W.kitMeta T=true then (fastBuiltinMro n).map (·.contains (.type T)) else none
section
variable {K:PySem.W.Frag} {H:Hp} {x:V} {n:String}
theorem kb {n T:String} {b:Bool} (h:kitB n T=some b):PySem.W.kitOne K (.type n) (.type T)=some b:=h
theorem kit_int (h:TyOf K H x (.type n)):PySem.W.kitOne K (.type n) (.type "int")=some (isIntV x||isBlV x):=by
  cases h <;> first
    | exact (show PySem.W.kitOne K _ _=some true from kb (by decide +kernel))
    | exact (show PySem.W.kitOne K _ _=some false from kb (by decide +kernel))
theorem kit_bool (h:TyOf K H x (.type n)):PySem.W.kitOne K (.type n) (.type "bool")=some (isBlV x):=by
  cases h <;> first
    | exact (show PySem.W.kitOne K _ _=some true from kb (by decide +kernel))
    | exact (show PySem.W.kitOne K _ _=some false from kb (by decide +kernel))
end
section
variable {X:Cx}
def Own (mg:Str→Option Value) (names:List Str):Prop:=∀ x∈names,mg x=none
theorem boot_all':bootBuiltins "all"=some (.builtin "all"):=by decide +kernel
theorem pe_ty {x:Str} {T:String} {pos:Pos} (hg:Gl X x) (hm:X.mg x=none) (hv:bootBuiltins x=some (.type T)) (hn:x≠"__name__":=by decide) (hd:(x == ("__debug__":Str))=false:=by decide):PE X (.Name x pos) (tC (.ty T)):=
  pe_bltn hg hm hv (show RelV (.ty T) (.type T) from rfl) hn hd
end
end L2
namespace L2
open PySem PySem.Spec PyProof.Rows
def frOf (N:List Str) (scope:Scope):List (Str × Nat):=scope.names.filterMap fun y=>if y.2= .free then (N.findIdx? fun n=>decide (n=y.1)).map fun i=>(y.1,i) else none
def blkOk (sc:Scope) (N:List Str) (scope:Scope) (own:List Str) (fr:List (Str × Nat)):Bool:=
  decide (scope.kind= .function)&&
  (scope.names.all fun y=>decide (y.2≠ .cell)&&(decide (y.2≠ .local)||decide (scope.names.lookup y.1=some .local))&&
    (decide (y.2≠ .free)||((decide (sc.names.lookup y.1=some .cell)||decide (sc.names.lookup y.1=some .free))&&decide (scope.names.lookup y.1=some .free))))&&
  (fr.all fun p=>decide (N[p.2]?=some p.1)&&decide ((p.1,NameKind.free)∈scope.names))&&
  (own.all fun x=>decide (scope.names.lookup x=some .local))&&decide ((own++fr.map (·.1)).Nodup)
section
variable {X:Cx} {scope:Scope} {own:List Str} {fr:List (Str × Nat)}
theorem BlkScope.of (h:blkOk X.env.scope X.N scope own fr=true):BlkScope X scope own fr:=by
  unfold blkOk at h
  simp only [Bool.and_eq_true,List.all_eq_true,decide_eq_true_iff,Bool.or_eq_true] at h
  obtain ⟨⟨⟨⟨h1,h2⟩,h3⟩,h4⟩,h5⟩:=h
  exact ⟨h1,fun y hy=>(h2 y hy).1.1,fun y hy e=>(h2 y hy).1.2.resolve_left (fun z=>z e),fun y hy e=>((h2 y hy).2.resolve_left (fun z=>z e)).1,fun p hp=>h3 p hp,fun x hx=>((h2 _ hx).2.resolve_left (fun z=>z rfl)).2⟩
theorem blkOk_own (h:blkOk X.env.scope X.N scope own fr=true):(∀ x∈own,scope.names.lookup x=some .local)∧(own++fr.map (·.1)).Nodup:=by
  unfold blkOk at h
  simp only [Bool.and_eq_true,List.all_eq_true,decide_eq_true_iff,Bool.or_eq_true] at h
  exact ⟨h.1.2,h.2⟩
theorem pg_own {i:Nat} {x:Str} {px:Pos} (h:blkOk X.env.scope X.N scope own fr=true) (hi:own[i]?=some x) (C:Addr) (ex:List Addr) (s:Shared) (H:Hp):PG (blkCx X scope own fr C ex s H) (.Name x px) (gName i):=by
  obtain ⟨h1,h2⟩:=blkOk_own h
  have hl:(relabel scope X.env).names.lookup x=some .local:=lookup_relabel_local (h1 x (List.mem_of_getElem? hi))
  have hlt:=(List.getElem?_eq_some_iff.mp hi).1
  refine pg_name h2 ?_ (.inl hl) (.inr hl)
  show (own++fr.map (·.1))[i]?=some x
  rw [List.getElem?_append_left hlt]
  exact hi
theorem pe_comp1 {elt iter:Expr} {x:Str} {px:Pos} {ifs:List Expr} {pos:Pos} {wi:TI} {tc:TT} {te:TE} (hi:PI X (.Name x px) iter wi)
    (ht:∀ C ex s H,PTs (blkCx X scope [x] (frOf X.N scope) C ex s H) ifs tc) (he:∀ C ex s H,PE (blkCx X scope [x] (frOf X.N scope) C ex s H) elt te)
    (hb:blkOk X.env.scope X.N scope [x] (frOf X.N scope)=true:=by with_unfolding_all rfl) (hc:X.calm=true:=by rfl)
    (hs:∀ x,foldedSetIterable iter X.env x=pure x:=by intro _;rfl):PE X (.ListComp elt [⟨.Name x px,iter,ifs,0⟩] scope pos) (tComp wi [x] (frOf X.N scope) (gName 0) tc te):=
  pe_comp hc (.of hb) hi (fun C ex s H=>pg_own hb rfl C ex s H) ht he hs
theorem ps_comp1 {i:Nat} {y x:Str} {py px spos:Pos} {elt iter:Expr} {ifs:List Expr} {pos:Pos} {wi:TI} {tc:TT} {te:TE} (hN:X.N.Nodup) (hix:X.N[i]?=some y) (hx:Loc X.env.scope y) (hi:PI X (.Name x px) iter wi)
    (ht:∀ C ex s H,PTs (blkCx X scope [x] (frOf X.N scope) C ex s H) ifs tc) (he:∀ C ex s H,PE (blkCx X scope [x] (frOf X.N scope) C ex s H) elt te)
    (hb:blkOk X.env.scope X.N scope [x] (frOf X.N scope)=true:=by with_unfolding_all rfl) (hc:X.calm=true:=by rfl)
    (hsw:swapsWith (.ListComp elt [⟨.Name x px,iter,ifs,0⟩] scope pos) (some (.Name y py)) spos.line X.env=pure true:=by rfl)
    (hf:X.fn y=true∨X.env.scope.names.lookup y=some .local:=by first | exact .inl rfl | exact .inr rfl | assumption)
    (hs:∀ x,foldedSetIterable iter X.env x=pure x:=by intro _;rfl):
    PS X (.Assign [.Name y py] (.ListComp elt [⟨.Name x px,iter,ifs,0⟩] scope pos) spos) (tAsg (tComp wi [x] (frOf X.N scope) (gName 0) tc te) (gName i)):=
  ps_comp hN hix hx hc (.of hb) hi (fun C ex s H=>pg_own hb rfl C ex s H) ht he hsw hf hs
theorem tYes_i {σ:L2.St} {H:Hp} {A B:Hp→Prop} (h:A H):tYes σ H (fun b H3=>if b=true then A H3 else B H3):=by
  show (if true=true then A H else B H)
  exact iteT h
end
end L2
namespace L2
open PySem PySem.Spec PyProof.Rows
def rLen (K:PySem.W.Frag):List V→Hp→VK→Prop:=fun xs H Q=>∃ x n,xs=[x]∧LenV K x H n∧Q (.int n) H
def rSum (K:PySem.W.Frag):List V→Hp→VK→Prop:=fun xs H Q=>∃ (p:Addr) (ns:List Int),xs=[.ref p]∧SqL K H p (ns.map V.int)∧Q (.int ns.sum) H
def rAll (K:PySem.W.Frag):List V→Hp→VK→Prop:=fun xs H Q=>∃ (p:Addr) (bs:List Bool),xs=[.ref p]∧SqL K H p (bs.map V.bl)∧Q (.bl (bs.all id)) H
def rIsin (K:PySem.W.Frag):List V→Hp→VK→Prop:=fun xs H Q=>∃ x n t b,xs=[x, .ty n]∧TyOf K H x t∧PySem.W.kitOne K t (.type n)=some b∧Q (.bl b) H
def rListOf (K:PySem.W.Frag):List V→Hp→VK→Prop:=fun xs H Q=>∃ p ys,xs=[.ref p]∧(SqL K H p ys∨SqT K H p ys)∧∀ l,H l=none→Q (.ref l) (upd H l (.lst ys))
def rTupleOf (K:PySem.W.Frag):List V→Hp→VK→Prop:=fun xs H Q=>∃ p ys,xs=[.ref p]∧((SqL K H p ys∧∀ l,H l=none→Q (.ref l) (upd H l (.tup ys)))∨(SqT K H p ys∧Q (.ref p) H))
section
variable {X:Cx} {K:PySem.W.Frag}
theorem k_len (hK:X.K=K:=by rfl):CallR X (.builtin "len") (rLen K):=by subst hK;exact call_len
theorem k_sum (hK:X.K=K:=by rfl) (hc:X.calm=true:=by rfl):CallR X (.builtin "sum") (rSum K):=by subst hK;exact call_sum hc
theorem k_all (hK:X.K=K:=by rfl) (hc:X.calm=true:=by rfl):CallR X (.builtin "all") (rAll K):=by subst hK;exact call_all hc
theorem k_isin (hK:X.K=K:=by rfl):CallR X (.builtin "isinstance") (rIsin K):=by subst hK;exact call_isinst
theorem k_list (hK:X.K=K:=by rfl):CallR X (.type "list") (rListOf K):=by subst hK;exact call_list_of
theorem k_tuple (hK:X.K=K:=by rfl):CallR X (.type "tuple") (rTupleOf K):=by subst hK;exact call_tuple_of
theorem k_ixl (hK:X.K=K:=by rfl):IxR X (rIxL K):=by subst hK;exact ix_list
theorem k_ixt (hK:X.K=K:=by rfl):IxR X (rIxT K):=by subst hK;exact ix_tup
theorem k_cat (hK:X.K=K:=by rfl):OpR X (binaryOp .Add) (rCatS K):=by subst hK;exact op_catS
theorem k_eql (hu:X.A.units<cLine) (hK:X.K=K:=by rfl):OpR X (compareOp .Eq) (rEqL K false):=by subst hK;exact op_eqL hu
theorem k_nel (hu:X.A.units<cLine) (hK:X.K=K:=by rfl):OpR X (compareOp .NotEq) (rEqL K true):=by subst hK;exact op_neL hu
theorem k_sll (hK:X.K=K:=by rfl):SlR X (rSlL K):=by subst hK;exact sl_list
theorem k_pil {tg l:Expr} {tl:TE} (hl:PE X l tl) (hK:X.K=K:=by rfl):PI X tg l (iList K tl):=by subst hK;exact pi_list hl
theorem k_pit {tg l:Expr} {tl:TE} (hl:PE X l tl) (hK:X.K=K:=by rfl):PI X tg l (iTup K tl):=by subst hK;exact pi_tup hl
end
end L2
namespace L2
open PySem PySem.Spec PyProof.Rows
section
variable {X:Cx} {pins:List (Addr × Obj)} {σ:St} {H:Hp} {s:Shared} {h':Heap}
theorem Inv.turnedL {t':Nat} (ch:List Addr) (I:Inv X pins σ H s) (hf:∀ b∈ch,FpOk X pins H b) (k:∀ b o,b∉ch→s.heap.get? b=some o→h'.get? b=some o):Inv X pins σ H { s with heap:=h',toks:=t' }:=by
  have nit:∀ b u,H b=some u→b∉ch:=fun b u e z=>by rw [(hf b z).1] at e;cases e
  refine I.step (g':=s.gens) (d':=s.drawn) (ch:=ch) (fun b hb=> ?_) (fun b o _ _ hc e _=>k b o hc e) (fun b o _ _ hc e _=>⟨o.slots,k b o hc e⟩) (fun _ _ _ _ n=>n)
    (fun b o hc e=>⟨o,k b o hc e⟩) (fun _ _ e=>e) (fun _ _ _ e=>e) (fun b ps e=>⟨#[],by rw [e];simp⟩) (fun m hm=> ?_) (fun b u e=> ?_) I.bare
  · obtain ⟨f0,f1,f2,f3,f4,f5⟩:=hf b hb
    exact ⟨f3,f1,f4,f5⟩
  · obtain ⟨o,es,ep,ho,r⟩:=hm
    exact ⟨o,es,ep,k _ o (fun z=>(hf _ z).2.1 rfl) ho,r⟩
  · refine (I.hok b u e).stay (fun c v hc q=>k c v ?_ q) (fun _ q=>q) fun _ _ q=>q
    rcases hc with z | z
    · rw [z];exact nit b u e
    · exact nit c _ z
end
def Ite (K:PySem.W.Frag) (a:Addr):It:=
  ⟨fun i H=>∃ xs x,SqL K H a xs∧xs[i]?=some x,fun i H v H'=>∃ p x,H p=none∧v= .ref p∧H'=upd H p (.tup [.int i,x])∧∀ xs,SqL K H a xs→xs[i]?=some x,fun i H=>∃ xs,SqL K H a xs∧xs.length≤i⟩
theorem fp_upd {X:Cx} {pins:List (Addr × Obj)} {H:Hp} {b p:Addr} {o:HO} (h:FpOk X pins H b) (n:b≠p):FpOk X pins (upd H p o) b:=⟨by rw [upd_ne n];exact h.1,h.2⟩
theorem turn_enum {P:Program} {w:World} {K:PySem.W.Frag} {elts:List Expr} {k:Nat} {pos:Pos} (a e it:Addr) (hne:e≠it):
    Turn P w K (.Tuple elts k pos) (Ite K a) [e,it] e (fun i h=>(∃ old,IsEnum h e it i old)∧h.IsListIter it a i) where
  mem:=by simp
  obj:=fun i h st b hb=>by
    obtain ⟨⟨old,he⟩,o,eo,c,d⟩:=st
    rcases List.mem_cons.mp hb with z | z
    · subst z
      exact ⟨_,he,fun v z=>by cases (show Data.fields _=Data.cell v from z)⟩
    · have z:b=it:=by simpa using z
      subst z
      exact ⟨o,eo,fun v z=>by rw [d] at z;cases z⟩
  keep:=fun i h h' st kp=>by
    obtain ⟨⟨old,he⟩,hi⟩:=st
    exact ⟨⟨old,kp e (by simp) _ he⟩,hi.at fun o z=>kp it (by simp) o z⟩
  item:=by
    intro X hP hw hK hc i pins s σ H E I hf st hg
    subst hP hw hK
    obtain ⟨xs,x,hq,hx⟩:=hg
    obtain ⟨its,rv,p,hz⟩:=I.list hq
    obtain ⟨u,hu,ru⟩:=rv.get hx
    obtain ⟨⟨old,he⟩,hi⟩:=st
    have hel:e<s.heap.objs.size:=Heap.lt_size he
    have hil:it<s.heap.objs.size:=by obtain ⟨_,z,_⟩:=hi;exact Heap.lt_size z
    refine wpAny_pyNext_enum_item he hi p.isList (x:=u) (by simpa using hu) hne fun h' ho hi' hT hsz hk=> ?_
    have I0:=I.laid (h':=s.heap.push { cls:= .type "tuple",data:= .seq #[.int i s.toks,u] }) (a:=s.heap.objs.size) (o:= .tup [.int i,x]) (t':=s.toks+1) (fun _ _ q=>Heap.get?_push_of_some _ q) (Nat.le_refl _)
      ⟨(by show 2≤sizeLine;decide),[.int i s.toks,u], .cons ⟨_,rfl⟩ (.cons ru .nil),⟨_,Heap.get?_push_size _ rfl,rfl,_,rfl⟩⟩
    have f0:∀ b∈[e,it],FpOk X pins (upd H s.heap.objs.size (.tup [.int i,x])) b:=fun b hb=>fp_upd (hf b hb) (by
      rcases List.mem_cons.mp hb with z | z
      · rw [z];exact Nat.ne_of_lt hel
      · rw [show b=it by simpa using z];exact Nat.ne_of_lt hil)
    have I1:=Inv.turnedL (t':=s.toks+1) (h':=h') [e,it] I0 f0 (fun b o hb z=>by
      have hb1:b≠e:=fun q=>hb (by simp [q])
      have hb2:b≠it:=fun q=>hb (by simp [q])
      rcases Heap.get?_push_cases (show (s.heap.push { cls:= .type "tuple",data:= .seq #[.int i s.toks,u] }).get? b=some o from z) with ⟨q1,q2⟩ | q
      · rw [q1,q2];exact hT
      · exact hk b o hb1 hb2 q)
    refine ⟨.ref s.heap.objs.size,rfl,wpAny_letOwnedTupleGo_enum (s:={ s with heap:=h',toks:=s.toks+1 }) ho fun h2 he2 sb=> ?_⟩
    refine ⟨.ref s.heap.objs.size,_,Inv.turnedL (t':=s.toks+1) (h':=h2) [e,it] I1 f0 (fun b o hb z=>(sb.2 b fun q=>hb (by simp [q])).trans z),rfl,⟨_,x,I.fresh,rfl,rfl,fun ys hy=>by rw [I.list_inj hy hq];exact hx⟩,⟨⟨u,by simpa using he2⟩,hi'.at fun o z=>(sb.2 it hne.symm).trans z⟩,fun b hb=>(f0 b hb).1⟩
  done:=by
    intro X hP hw hK hc i pins s σ H E I hf st hg
    subst hP hw hK
    obtain ⟨xs,hq,hx⟩:=hg
    obtain ⟨its,rv,p,hz⟩:=I.list hq
    obtain ⟨⟨old,he⟩,hi⟩:=st
    have hl:=rv.length
    exact wpAny_pyNext_enum_end (I.ok.hd hc) he hi p.isList (by simp;omega) fun h' eb=>⟨rfl,I.turnedL (t':=s.toks) [e,it] hf fun b o hb z=>eb b o (fun q=>hb (by simp [q])) z⟩
  self:=fun _ _ _ _ _ st h=>by
    obtain ⟨⟨old,he⟩,_⟩:=st
    exact wpAny_pyIter_enum he h
section
variable {X:Cx} {elts:List Expr} {k:Nat} {tpos:Pos} {K:PySem.W.Frag}
def iEnum (K:PySem.W.Frag) (ta:TA):TI:=fun σ H R=>ta σ H fun vs H1=>∃ a,vs=[.ref a]∧(∃ xs,SqL K H1 a xs)∧R (Ite K a) H1
theorem boot_enum:bootBuiltins "enumerate"=some (.type "enumerate"):=by decide +kernel
theorem boot_zip:bootBuiltins "zip"=some (.type "zip"):=by decide +kernel
theorem pi_enum {l:Expr} {ta:TA} {p pos:Pos} (hg:Gl X "enumerate") (hm:X.mg "enumerate"=none) (ha:PA X [l] ta) (hK:X.K=K:=by rfl) (hs:starEach [l] X.env=[(false,eval l X.env)]:=by rfl):PI X (.Tuple elts k tpos) (.Call (.Name "enumerate" p) [l] [] pos) (iEnum K ta):=by
  subst hK
  intro pins s σ H R I h
  refine Call_ (ld_blt I hg hm boot_enum (PyProof.Rows.callWith_type1 (thn (ha pos pins s σ H _ I h) fun us s1 ⟨vs,H1,I1,r1,q1⟩=> ?_) hs rfl))
  obtain ⟨a,e,⟨xs,hq⟩,q⟩:=q1
  subst e
  cases r1 with
  | cons r rr=>
    cases rr
    cases r
    obtain ⟨its,rv,pl,hz⟩:=I1.list hq
    refine call_enumerate_list pl.isList fun h' he hi hsz hk=> ?_
    refine wpAny_pyIter_enum he ?_
    have I2:=I1.kept (t':=s1.toks) hk
    refine ⟨s1.heap.objs.size+1,[s1.heap.objs.size+1,s1.heap.objs.size],_,_,H1,rfl,I2,turn_enum a _ _ (Nat.succ_ne_self _),⟨⟨_,he⟩,hi⟩,fun b hb=> ?_,q⟩
    have hb':s1.heap.objs.size≤b:=by
      rcases List.mem_cons.mp hb with z | z
      · rw [z];exact Nat.le_succ _
      · have z:b=s1.heap.objs.size:=by simpa using z
        rw [z];exact Nat.le_refl _
    exact I1.fpOk hb' (I1.hok.fresh hb')
end
section
variable {X:Cx} {elts:List Expr} {k:Nat} {tpos:Pos} {K:PySem.W.Frag}
end
end L2
namespace L2
open PySem PySem.Spec PyProof.Rows
def SrcIt (tp:Bool) (h:Heap) (it l:Addr) (i:Nat):Prop:=if tp=true then h.IsTupleIter it l i else h.IsListIter it l i
def SrcSq (tp:Bool) (h:Heap) (l:Addr) (xs:Array Value):Prop:=if tp=true then h.IsTuple l xs else h.IsList l xs
theorem srcIt_at {tp:Bool} {h h':Heap} {it l:Addr} {i:Nat} (x:SrcIt tp h it l i) (k:∀ o,h.get? it=some o→h'.get? it=some o):SrcIt tp h' it l i:=by
  cases tp with
  | false=>obtain ⟨o,e,r⟩:=(show h.IsListIter it l i from x);exact (show h'.IsListIter it l i from ⟨o,k o e,r⟩)
  | true=>obtain ⟨o,e,r⟩:=(show h.IsTupleIter it l i from x);exact (show h'.IsTupleIter it l i from ⟨o,k o e,r⟩)
theorem srcSq_at {tp:Bool} {h h':Heap} {l:Addr} {xs:Array Value} (x:SrcSq tp h l xs) (k:∀ o,h.get? l=some o→h'.get? l=some o):SrcSq tp h' l xs:=by
  cases tp with
  | false=>obtain ⟨o,e,r⟩:=(show h.IsList l xs from x);exact (show h'.IsList l xs from ⟨o,k o e,r⟩)
  | true=>obtain ⟨o,e,r⟩:=(show h.IsTuple l xs from x);exact (show h'.IsTuple l xs from ⟨o,k o e,r⟩)
theorem srcIt_obj {tp:Bool} {h:Heap} {it l:Addr} {i:Nat} (x:SrcIt tp h it l i):∃ o,h.get? it=some o∧o.data= .fields #[.ref l, .int i 0]:=by
  cases tp with
  | false=>obtain ⟨o,e,_,d⟩:=(show h.IsListIter it l i from x);exact ⟨o,e,d⟩
  | true=>obtain ⟨o,e,_,d⟩:=(show h.IsTupleIter it l i from x);exact ⟨o,e,d⟩
theorem srcSq_obj {tp:Bool} {h:Heap} {l:Addr} {xs:Array Value} (x:SrcSq tp h l xs):∃ o n,h.get? l=some o∧o.data= .seq xs n:=by
  cases tp with
  | false=>obtain ⟨o,e,_,n,d⟩:=(show h.IsList l xs from x);exact ⟨o,n,e,d⟩
  | true=>obtain ⟨o,e,_,n,d⟩:=(show h.IsTuple l xs from x);exact ⟨o,n,e,d⟩
section
variable {prog:Program} {w:World} {A:Around} {E:Value→Shared→Prop} {s:Shared}
theorem src_item {tp:Bool} {it l:Addr} {i:Nat} {xs:Array Value} {x:Value} {Q:Value→Shared→Prop} (ht:SrcIt tp s.heap it l i) (hq:SrcSq tp s.heap l xs) (hx:xs[i]?=some x)
    (k:∀ h',SrcIt tp h' it l (i+1)→Heap.SameBut it s.heap h'→Q x { s with heap:=h' }):wpAny (model prog w) A (Builtin.SmallTypes.nextOf (.ref it)) Q E s:=by
  cases tp with
  | false=>exact wpAny_nextOf_list_item (show s.heap.IsListIter it l i from ht) (show s.heap.IsList l xs from hq) hx k
  | true=>
    have ht:s.heap.IsTupleIter it l i:=ht
    obtain ⟨ob,eb,cb,db⟩:=id ht
    obtain ⟨ol,el,_,nl,dl⟩:=(show s.heap.IsTuple l xs from hq)
    unfold Builtin.SmallTypes.nextOf
    refine wpAny_bind (wpAny_callSpecial?_slot (name:=Str.ofString "__next__") ht.typeIs F.slot_tuple_iterator_next (wpAny_call_entry F.slot_tuple_iterator_next ht.typeIs F.entry_tuple_iterator_next ?_ (F.args_tuple_iterator_next_1 _)))
    show wpAny _ _ (field (.ref it) 0 >>= _) _ _ s
    refine wpAny_bind (wpAny_field eb db (x:= .ref l) rfl ?_)
    show wpAny _ _ (if (Value.ref l == Value.none)=true then _ else _) _ _ s
    rw [if_neg (show ¬ ((Value.ref l == Value.none)=true) from Bool.false_ne_true)]
    show wpAny _ _ (field (.ref it) 1 >>= _) _ _ s
    refine wpAny_bind (wpAny_field eb db (x:= .int i 0) rfl ?_)
    show wpAny _ _ (seqItems? (.ref l) >>= _) _ _ s
    refine wpAny_bind (wpAny_seqItems el dl ?_)
    simp only [Int.toNat_natCast,hx]
    refine wpAny_bind (wpAny_setField eb db (by simp) (wpAny_pure ⟨x,rfl,wpAny_pure (k _ ?_ (Heap.SameBut.update ..))⟩))
    exact (show Heap.IsTupleIter _ it l (i+1) from ⟨_,Heap.get?_update_self _ eb (Obj.isFreed_of_fields (Obj.data_mapFields db _)),(Obj.cls_mapFields ..).trans cb,by rw [Obj.data_mapFields db];simp [rawInt]⟩)
theorem src_end {tp:Bool} {it l:Addr} {i:Nat} {xs:Array Value} {Q:Value→Shared→Prop} (hh:A.handled=none) (ht:SrcIt tp s.heap it l i) (hq:SrcSq tp s.heap l xs) (hx:xs[i]?=none)
    (k:∀ h' e,Heap.ExtBut it s.heap h'→(∃ o,h'.get? e=some o∧o.cls= .type "StopIteration")→E (.ref e) { s with heap:=h' }):wpAny (model prog w) A (Builtin.SmallTypes.nextOf (.ref it)) Q E s:=by
  cases tp with
  | false=>exact wpAny_nextOf_list_end hh (show s.heap.IsListIter it l i from ht) (show s.heap.IsList l xs from hq) hx k
  | true=>
    have ht:s.heap.IsTupleIter it l i:=ht
    obtain ⟨ob,eb,cb,db⟩:=id ht
    obtain ⟨ol,el,_,nl,dl⟩:=(show s.heap.IsTuple l xs from hq)
    unfold Builtin.SmallTypes.nextOf
    refine wpAny_bind (wpAny_callSpecial?_slot (name:=Str.ofString "__next__") ht.typeIs F.slot_tuple_iterator_next (wpAny_call_entry F.slot_tuple_iterator_next ht.typeIs F.entry_tuple_iterator_next ?_ (F.args_tuple_iterator_next_1 _)))
    show wpAny _ _ (field (.ref it) 0 >>= _) _ _ s
    refine wpAny_bind (wpAny_field eb db (x:= .ref l) rfl ?_)
    show wpAny _ _ (if (Value.ref l == Value.none)=true then _ else _) _ _ s
    rw [if_neg (show ¬ ((Value.ref l == Value.none)=true) from Bool.false_ne_true)]
    show wpAny _ _ (field (.ref it) 1 >>= _) _ _ s
    refine wpAny_bind (wpAny_field eb db (x:= .int i 0) rfl ?_)
    show wpAny _ _ (seqItems? (.ref l) >>= _) _ _ s
    refine wpAny_bind (wpAny_seqItems el dl ?_)
    simp only [Int.toNat_natCast,hx]
    refine wpAny_bind (wpAny_rule (wpAny_bind (wpAny_setField eb db (by simp) ?_)))
    show wpAny _ _ (newExc (.type "StopIteration") [] >>= _) _ _ _
    refine wpAny_bind ?_
    simp only [newExc,newTuple]
    refine wpAny_bind (wpAny_newObj_type ?_ (by size_fits))
    refine wpAny_bind (m:=firstArgMember _ _) (wpAny_of_eq (a:=Value.none) (by first | rfl | (simp only [firstArgMember];rfl)) ?_)
    refine wpAny_newObj_type ?_ (by size_fits)
    simp only [raiseNew]
    refine wpAny_bind (wpAny_handled ?_)
    first | rw [show A.in1.handled=none from hh] | rw [hh]
    exact wpAny_bind (wpAny_pure (wpAny_throw (k _ _ (((Heap.SameBut.update ..).extBut.push _).push _) ⟨_,Heap.get?_push_size _ rfl,rfl⟩)))
end
section
variable {prog:Program} {w:World} {A:Around} {E:Value→Shared→Prop} {s:Shared}
structure ZipSt (t1 t2:Bool) (h:Heap) (z TI TO i1 i2 l1 l2:Addr) (k:Nat):Prop where
  hz:IsZip h z TI TO .none
  hTI:IsPair h TI (.ref i1) (.ref i2)
  hTO:∃ c d,IsPair h TO c d
  h1:SrcIt t1 h i1 l1 k
  h2:SrcIt t2 h i2 l2 k
theorem zipS_item {t1 t2:Bool} {z TI TO i1 i2 l1 l2:Addr} {k:Nat} {xs ys:Array Value} {x y:Value} {Q:Value→Shared→Prop} (D:ZipApart z TI TO i1 i2 l1 l2) (Z:ZipSt t1 t2 s.heap z TI TO i1 i2 l1 l2 k)
    (q1:SrcSq t1 s.heap l1 xs) (q2:SrcSq t2 s.heap l2 ys) (hx:xs[k]?=some x) (hy:ys[k]?=some y)
    (fin:∀ h',IsZip h' z TI TO (rawInt s.heap.objs.size)→IsPair h' TO x y→SrcIt t1 h' i1 l1 (k+1)→SrcIt t2 h' i2 l2 (k+1)→IsPair h' s.heap.objs.size x y→
      (∀ c o,c≠z→c≠TO→c≠i1→c≠i2→s.heap.get? c=some o→h'.get? c=some o)→Q (.ref s.heap.objs.size) { s with heap:=h' }):
    wpAny (model prog w) A (Builtin.«zip.__next__» ⟨[.ref z],[]⟩) (fun fin s'=>∃ v,fin= .done (.ret v)∧Q v s') E s:=by
  obtain ⟨hz,hTI,⟨c0,d0,hTO⟩,g1,g2⟩:=Z
  show wpAny _ _ (field (.ref z) 2 >>= _) _ _ _
  refine wpAny_bind (wpAny_field hz rfl (x:= .bool false) rfl ?_)
  show wpAny _ _ (field (.ref z) 3 >>= _) _ _ _
  refine wpAny_bind (wpAny_field hz rfl (x:= .ref TI) rfl (wpAny_bind (wpAny_seqItems hTI rfl ?_)))
  show wpAny _ _ (Builtin.SmallTypes.ownedTupleIsFree (.ref z) >>= _) _ _ _
  refine wpAny_bind ?_
  unfold Builtin.SmallTypes.ownedTupleIsFree
  refine wpAny_bind (wpAny_field hz rfl (x:= .none) rfl (wpAny_pure ?_))
  simp only [if_true]
  refine wpAny_bind (wpAny_rule (wpAny_bind (wpAny_field hz rfl (x:= .ref TO) rfl (wpAny_bind (wpAny_setField_rec hz (by simp) fun a1 za b1=> ?_)))))
  replace za:IsZip a1 z TI TO .ellipsis:=za
  refine wpAny_bind ?_
  simp only [List.zipIdx_cons,List.zipIdx_nil,List.forIn_cons,List.forIn_nil]
  refine wpAny_bind (wpAny_bind (wpAny_onRaise ?_))
  show wpAny _ _ (Builtin.SmallTypes.nextOf (.ref i1) >>= _) _ _ _
  refine wpAny_bind (src_item (s:={ s with heap:=a1 }) (srcIt_at g1 fun o e=>b1.extBut _ o D.i1z e) (srcSq_at q1 fun o e=>b1.extBut _ o D.l1z e) hx fun a2 i1a b2=>wpAny_pure ?_)
  have to2:IsPair a2 TO c0 d0:=b2.extBut _ _ D.TOi1 (b1.extBut _ _ D.TOz hTO)
  refine wpAny_bind (wpAny_seqItems to2 rfl (wpAny_bind (wpAny_updateSeq_pair to2 fun a3 to3 b3=> ?_)))
  replace to3:IsPair a3 TO x d0:=to3
  refine wpAny_bind (wpAny_letGo (wpAny_pure (wpAny_bind (wpAny_bind (wpAny_onRaise ?_)))))
  show wpAny _ _ (Builtin.SmallTypes.nextOf (.ref i2) >>= _) _ _ _
  have up3:∀ c o,c≠z→c≠i1→c≠TO→s.heap.get? c=some o→a3.get? c=some o:=fun c o n1 n2 n3 e=>b3.extBut _ o n3 (b2.extBut _ o n2 (b1.extBut _ o n1 e))
  refine wpAny_bind (src_item (s:={ s with heap:=a3 }) (srcIt_at g2 fun o e=>up3 _ o D.i2z D.i12.symm D.TOi2.symm e) (srcSq_at q2 fun o e=>up3 _ o D.l2z D.l2i1 D.l2TO e) hy fun a4 i2a b4=>wpAny_pure ?_)
  have to4:IsPair a4 TO x d0:=b4.extBut _ _ D.TOi2 to3
  refine wpAny_bind (wpAny_seqItems to4 rfl (wpAny_bind (wpAny_updateSeq_pair to4 fun a5 to5 b5=> ?_)))
  replace to5:IsPair a5 TO x y:=to5
  refine wpAny_bind (wpAny_letGo (wpAny_pure (wpAny_pure (wpAny_bind (wpAny_seqItems to5 rfl (wpAny_bind (wpAny_newTuple ?_)))))))
  have sz:a5.objs.size=s.heap.objs.size:=by rw [b5.1,b4.1,b3.1,b2.1,b1.1]
  have z5:IsZip a5 z TI TO .ellipsis:=b5.extBut _ _ D.TOz.symm (b4.extBut _ _ D.i2z.symm (b3.extBut _ _ D.TOz.symm (b2.extBut _ _ D.i1z.symm za)))
  have k5:∀ c o,c≠z→c≠TO→c≠i1→c≠i2→s.heap.get? c=some o→a5.get? c=some o:=fun c o n1 n2 n3 n4 e=>b5.extBut _ _ n2 (b4.extBut _ _ n4 (up3 c o n1 n3 n2 e))
  have f1:SrcIt t1 a5 i1 l1 (k+1):=srcIt_at i1a fun o e=>b5.extBut _ o D.TOi1.symm (b4.extBut _ o D.i12 (b3.extBut _ o D.TOi1.symm e))
  have f2:SrcIt t2 a5 i2 l2 (k+1):=srcIt_at i2a fun o e=>b5.extBut _ o D.TOi2.symm e
  have zlt:z<a5.objs.size:=Heap.lt_size z5
  show wpAny _ _ (Builtin.SmallTypes.ownedTupleHandOut (.ref z) (.ref a5.objs.size) >>= _) _ _ _
  refine wpAny_bind ?_
  unfold Builtin.SmallTypes.ownedTupleHandOut
  have z6:IsZip (a5.push { cls:= .type "tuple",data:= .seq #[x,y] }) z TI TO .ellipsis:=Heap.get?_push_of_some _ z5
  refine wpAny_bind (wpAny_setField_rec z6 (by simp) fun a7 z7 b7=> ?_)
  replace z7:IsZip a7 z TI TO (rawInt a5.objs.size):=z7
  refine wpAny_setField_rec z7 (by simp) fun a8 z8 b8=> ?_
  replace z8:IsZip a8 z TI TO (rawInt a5.objs.size):=z8
  have up:∀ c o,c≠z→a5.get? c=some o→a8.get? c=some o:=fun c o n e=>b8.extBut _ _ n (b7.extBut _ _ n (Heap.get?_push_of_some _ e))
  have t8:IsPair a8 a5.objs.size x y:=b8.extBut _ _ (Nat.ne_of_gt zlt) (b7.extBut _ _ (Nat.ne_of_gt zlt) (Heap.get?_push_size _ rfl))
  rw [sz] at z8 t8
  refine wpAny_pure ⟨_,rfl,?_⟩
  show Q (.ref a5.objs.size) _
  rw [sz]
  exact fin a8 z8 (up _ _ D.TOz to5) (srcIt_at f1 fun o e=>up _ o D.i1z e) (srcIt_at f2 fun o e=>up _ o D.i2z e) t8 fun c o n1 n2 n3 n4 e=>up c o n1 (k5 c o n1 n2 n3 n4 e)
theorem zipS_end {t1 t2:Bool} {z TI TO i1 i2 l1 l2:Addr} {k:Nat} {xs ys:Array Value} {Q:Fin→Shared→Prop} (hh:A.handled=none) (D:ZipApart z TI TO i1 i2 l1 l2) (Z:ZipSt t1 t2 s.heap z TI TO i1 i2 l1 l2 k)
    (q1:SrcSq t1 s.heap l1 xs) (q2:SrcSq t2 s.heap l2 ys) (hend:xs[k]?=none∨ys[k]?=none)
    (fin:∀ h' e,(∀ c o,c≠z→c≠TO→c≠i1→c≠i2→s.heap.get? c=some o→h'.get? c=some o)→(∃ o,h'.get? e=some o∧o.cls= .type "StopIteration")→E (.ref e) { s with heap:=h' }):
    wpAny (model prog w) A (Builtin.«zip.__next__» ⟨[.ref z],[]⟩) Q E s:=by
  obtain ⟨hz,hTI,⟨c0,d0,hTO⟩,g1,g2⟩:=Z
  show wpAny _ _ (field (.ref z) 2 >>= _) _ _ _
  refine wpAny_bind (wpAny_field hz rfl (x:= .bool false) rfl ?_)
  show wpAny _ _ (field (.ref z) 3 >>= _) _ _ _
  refine wpAny_bind (wpAny_field hz rfl (x:= .ref TI) rfl (wpAny_bind (wpAny_seqItems hTI rfl ?_)))
  show wpAny _ _ (Builtin.SmallTypes.ownedTupleIsFree (.ref z) >>= _) _ _ _
  refine wpAny_bind ?_
  unfold Builtin.SmallTypes.ownedTupleIsFree
  refine wpAny_bind (wpAny_field hz rfl (x:= .none) rfl (wpAny_pure ?_))
  simp only [if_true]
  refine wpAny_bind (wpAny_rule (wpAny_bind (wpAny_field hz rfl (x:= .ref TO) rfl (wpAny_bind (wpAny_setField_rec hz (by simp) fun a1 za b1=> ?_)))))
  replace za:IsZip a1 z TI TO .ellipsis:=za
  refine wpAny_bind ?_
  simp only [List.zipIdx_cons,List.zipIdx_nil,List.forIn_cons,List.forIn_nil]
  refine wpAny_bind (wpAny_bind (wpAny_onRaise ?_))
  show wpAny _ _ (Builtin.SmallTypes.nextOf (.ref i1) >>= _) _ _ _
  have g1':=srcIt_at g1 fun o e=>b1.extBut _ o D.i1z e
  have q1':=srcSq_at q1 fun o e=>b1.extBut _ o D.l1z e
  cases hx:xs[k]? with
  | none=>
    refine wpAny_bind (src_end (s:={ s with heap:=a1 }) hh g1' q1' hx fun a2 e b2 he=> ?_)
    obtain ⟨oe,eo,ce⟩:=he
    have z2:IsZip a2 z TI TO .ellipsis:=b2 _ _ D.i1z.symm za
    have nz:e≠z:=fun q=>by subst q;rw [z2] at eo;cases eo;simp at ce
    exact wpAny_setField_rec z2 (by simp) fun a3 _ b3=>fin a3 e (fun c o n1 _ n3 _ q=>b3.extBut _ _ n1 (b2 _ _ n3 (b1.extBut _ _ n1 q))) ⟨oe,b3.extBut _ _ nz eo,ce⟩
  | some x=>
    have hy:ys[k]?=none:=by
      rcases hend with q | q
      · rw [hx] at q;cases q
      · exact q
    refine wpAny_bind (src_item (s:={ s with heap:=a1 }) g1' q1' hx fun a2 i1a b2=>wpAny_pure ?_)
    have to2:IsPair a2 TO c0 d0:=b2.extBut _ _ D.TOi1 (b1.extBut _ _ D.TOz hTO)
    refine wpAny_bind (wpAny_seqItems to2 rfl (wpAny_bind (wpAny_updateSeq_pair to2 fun a3 to3 b3=> ?_)))
    refine wpAny_bind (wpAny_letGo (wpAny_pure (wpAny_bind (wpAny_bind (wpAny_onRaise ?_)))))
    show wpAny _ _ (Builtin.SmallTypes.nextOf (.ref i2) >>= _) _ _ _
    have up3:∀ c o,c≠z→c≠i1→c≠TO→s.heap.get? c=some o→a3.get? c=some o:=fun c o n1 n2 n3 e=>b3.extBut _ o n3 (b2.extBut _ o n2 (b1.extBut _ o n1 e))
    refine wpAny_bind (src_end (s:={ s with heap:=a3 }) hh (srcIt_at g2 fun o e=>up3 _ o D.i2z D.i12.symm D.TOi2.symm e) (srcSq_at q2 fun o e=>up3 _ o D.l2z D.l2i1 D.l2TO e) hy fun a4 e b4 he=> ?_)
    obtain ⟨oe,eo,ce⟩:=he
    have z4:IsZip a4 z TI TO .ellipsis:=b4 _ _ D.i2z.symm (b3.extBut _ _ D.TOz.symm (b2.extBut _ _ D.i1z.symm za))
    have nz:e≠z:=fun q=>by subst q;rw [z4] at eo;cases eo;simp at ce
    exact wpAny_setField_rec z4 (by simp) fun a5 _ b5=>fin a5 e (fun c o n1 n2 n3 n4 q=>b5.extBut _ _ n1 (b4 _ _ n4 (up3 c o n1 n3 n2 q))) ⟨oe,b5.extBut _ _ nz eo,ce⟩
def srcTy (tp:Bool):String:=if tp=true then "tuple_iterator" else "list_iterator"
theorem src_iter {tp:Bool} {l:Addr} {xs:Array Value} {Q:Value→Shared→Prop} (hq:SrcSq tp s.heap l xs) (k:Q (.ref s.heap.objs.size) { s with heap:=s.heap.push { cls:= .type (srcTy tp),data:= .fields #[.ref l, .int 0 0] } }):
    wpAny (model prog w) A (pyIter (.ref l)) Q E s:=by
  cases tp with
  | false=>exact wpAny_pyIter_list (show s.heap.IsList l xs from hq) k
  | true=>exact wpAny_pyIter_tuple (show s.heap.IsTuple l xs from hq) k
theorem srcIt_new {tp:Bool} {h:Heap} {l:Addr}:SrcIt tp (h.push { cls:= .type (srcTy tp),data:= .fields #[.ref l, .int 0 0] }) h.objs.size l 0:=by
  cases tp with
  | false=>exact (show Heap.IsListIter _ _ l 0 from ⟨_,Heap.get?_push_size _ rfl,rfl,rfl⟩)
  | true=>exact (show Heap.IsTupleIter _ _ l 0 from ⟨_,Heap.get?_push_size _ rfl,rfl,rfl⟩)
abbrev zs1 (t1:Bool) (h:Heap) (l1:Addr):Heap:=h.push { cls:= .type (srcTy t1),data:= .fields #[.ref l1, .int 0 0] }
abbrev zs2 (t1 t2:Bool) (h:Heap) (l1 l2:Addr):Heap:=(zs1 t1 h l1).push { cls:= .type (srcTy t2),data:= .fields #[.ref l2, .int 0 0] }
abbrev zs3 (t1 t2:Bool) (h:Heap) (l1 l2:Addr):Heap:=(zs2 t1 t2 h l1 l2).push { cls:= .type "tuple",data:= .seq #[.ref h.objs.size, .ref (zs1 t1 h l1).objs.size] }
abbrev zs4 (t1 t2:Bool) (h:Heap) (l1 l2:Addr):Heap:=(zs3 t1 t2 h l1 l2).push { cls:= .type "tuple",data:= .seq #[.none, .none] }
abbrev zs5 (t1 t2:Bool) (h:Heap) (l1 l2:Addr):Heap:=(zs4 t1 t2 h l1 l2).push { cls:= .type "zip",data:= .fields #[.none, .bool false, .bool false, .ref (zs2 t1 t2 h l1 l2).objs.size, .ref (zs3 t1 t2 h l1 l2).objs.size] }
theorem meets_zipS (t1 t2:Bool) (l1 l2:Addr) (xs ys:Array Value):
    Meets (Builtin.«zip.__new__» ⟨[.type "zip", .ref l1, .ref l2],[]⟩) (fun _ R s=>SrcSq t1 s.heap l1 xs∧SrcSq t2 s.heap l2 ys∧
      R (.ok (.ret (.ref (zs4 t1 t2 s.heap l1 l2).objs.size))) { s with heap:=zs5 t1 t2 s.heap l1 l2 }):=
  .of_wp fun prog w A R s h=>by
    obtain ⟨hp,g,d,tk,os⟩:=s
    obtain ⟨m1,m2,h⟩:=h
    have hsub:=sub_zip
    have M1:SrcSq t1 (Shared.heap ⟨hp,g,d,tk,os⟩) l1 xs:=m1
    have M2:SrcSq t2 (Shared.heap ⟨hp.push { cls:= .type (srcTy t1),data:= .fields #[.ref l1, .int 0 0] },g,d,tk,os⟩) l2 ys:=srcSq_at m2 fun o e=>Heap.get?_push_of_some _ e
    wp_walk using src_iter M1,src_iter M2
    exact ⟨_,rfl,h⟩
theorem call_zipS {t1 t2:Bool} {l1 l2:Addr} {xs ys:Array Value} {Q:Value→Shared→Prop} (m1:SrcSq t1 s.heap l1 xs) (m2:SrcSq t2 s.heap l2 ys)
    (k:∀ h',ZipSt t1 t2 h' (s.heap.objs.size+4) (s.heap.objs.size+2) (s.heap.objs.size+3) s.heap.objs.size (s.heap.objs.size+1) l1 l2 0→
      (∀ c o,s.heap.get? c=some o→h'.get? c=some o)→Q (.ref (s.heap.objs.size+4)) { s with heap:=h' }):
    wpAny (model prog w) A (call (.type "zip") [.ref l1, .ref l2]) Q E s:=by
  refine callType_new F.called_zip (by decide) (F.typeCall_zip_2 _ _) (F.newCall_zip_2 _ _) (fun obj=>F.args_object_init_3 obj _ _) F.entry_zip_new (meets_zipS t1 t2 l1 l2 xs ys) ⟨m1,m2,?_⟩
  have n1:(zs1 t1 s.heap l1).objs.size=s.heap.objs.size+1:=Heap.size_push ..
  have n2:(zs2 t1 t2 s.heap l1 l2).objs.size=s.heap.objs.size+2:=by rw [Heap.size_push,n1]
  have n3:(zs3 t1 t2 s.heap l1 l2).objs.size=s.heap.objs.size+3:=by rw [Heap.size_push,n2]
  have n4:(zs4 t1 t2 s.heap l1 l2).objs.size=s.heap.objs.size+4:=by rw [Heap.size_push,n3]
  have g5:(zs5 t1 t2 s.heap l1 l2).get? (zs4 t1 t2 s.heap l1 l2).objs.size=some _:=Heap.get?_push_size _ rfl
  have g4:(zs5 t1 t2 s.heap l1 l2).get? (zs3 t1 t2 s.heap l1 l2).objs.size=some _:=Heap.get?_push_of_some _ (Heap.get?_push_size _ rfl)
  have g3:(zs5 t1 t2 s.heap l1 l2).get? (zs2 t1 t2 s.heap l1 l2).objs.size=some _:=Heap.get?_push_of_some _ (Heap.get?_push_of_some _ (Heap.get?_push_size _ rfl))
  have up2:∀ c o,(zs2 t1 t2 s.heap l1 l2).get? c=some o→(zs5 t1 t2 s.heap l1 l2).get? c=some o:=fun c o e=>Heap.get?_push_of_some _ (Heap.get?_push_of_some _ (Heap.get?_push_of_some _ e))
  have s2:SrcIt t2 (zs5 t1 t2 s.heap l1 l2) (zs1 t1 s.heap l1).objs.size l2 0:=srcIt_at srcIt_new fun o e=>up2 _ o e
  have s1:SrcIt t1 (zs5 t1 t2 s.heap l1 l2) s.heap.objs.size l1 0:=srcIt_at srcIt_new fun o e=>up2 _ o (Heap.get?_push_of_some _ e)
  show _∧_
  rw [n2,n3,n4] at g5
  rw [n1,n2] at g3
  rw [n3] at g4
  rw [n1] at s2
  rw [n4]
  exact ⟨⟨_,g5,rfl⟩,k _ ⟨g5,g3,⟨_,_,g4⟩,s1,s2⟩ fun c o e=>up2 c o (Heap.get?_push_of_some _ (Heap.get?_push_of_some _ e))⟩
end
def SqS (tp:Bool) (K:PySem.W.Frag) (H:Hp) (a:Addr) (xs:List V):Prop:=if tp=true then SqT K H a xs else SqL K H a xs
theorem sqS_src {X:Cx} {pins:List (Addr × Obj)} {σ:St} {H:Hp} {s:Shared} {tp:Bool} {a:Addr} {xs:List V} (I:Inv X pins σ H s) (h:SqS tp X.K H a xs):∃ its:List Value,Vals xs its∧SrcSq tp s.heap a its.toArray:=by
  cases tp with
  | false=>
    obtain ⟨its,r,p,_⟩:=I.list (show SqL X.K H a xs from h)
    exact ⟨its,r,(show s.heap.IsList a its.toArray from p.isList)⟩
  | true=>
    obtain ⟨its,r,p,_⟩:=I.tuple (show SqT X.K H a xs from h)
    exact ⟨its,r,(show s.heap.IsTuple a its.toArray from p)⟩
theorem sqS_inj {X:Cx} {pins:List (Addr × Obj)} {σ:St} {H:Hp} {s:Shared} {tp:Bool} {a:Addr} {xs ys:List V} (I:Inv X pins σ H s) (h:SqS tp X.K H a xs) (h2:SqS tp X.K H a ys):xs=ys:=by
  cases tp with
  | false=>exact I.list_inj h h2
  | true=>exact I.tuple_inj h h2
def Izs (t1 t2:Bool) (K:PySem.W.Frag) (a b:Addr):It:=
  ⟨fun i H=>∃ xs ys x y,SqS t1 K H a xs∧SqS t2 K H b ys∧xs[i]?=some x∧ys[i]?=some y,
   fun i H v H'=>∃ p x y,H p=none∧v= .ref p∧H'=upd H p (.tup [x,y])∧(∀ xs,SqS t1 K H a xs→xs[i]?=some x)∧∀ ys,SqS t2 K H b ys→ys[i]?=some y,
   fun i H=>∃ xs ys,SqS t1 K H a xs∧SqS t2 K H b ys∧(xs.length≤i∨ys.length≤i)⟩
theorem turn_zs {P:Program} {w:World} {K:PySem.W.Frag} {elts:List Expr} {k:Nat} {pos:Pos} (t1 t2:Bool) (a b z TI TO i1 i2:Addr) (D:ZipApart z TI TO i1 i2 a b):
    Turn P w K (.Tuple elts k pos) (Izs t1 t2 K a b) [z,TI,TO,i1,i2] z (fun i h=>ZipSt t1 t2 h z TI TO i1 i2 a b i) where
  mem:=by simp
  obj:=fun i h st c hc=>by
    obtain ⟨hz,hTI,⟨x,y,hTO⟩,h1,h2⟩:=st
    obtain ⟨o1,e1,d1⟩:=srcIt_obj h1
    obtain ⟨o2,e2,d2⟩:=srcIt_obj h2
    simp only [List.mem_cons,List.not_mem_nil,or_false] at hc
    rcases hc with q | q | q | q | q
    · subst q;exact ⟨_,hz,fun v z=>by cases (show Data.fields _=Data.cell v from z)⟩
    · subst q;exact ⟨_,hTI,fun v z=>by cases (show Data.seq _ _=Data.cell v from z)⟩
    · subst q;exact ⟨_,hTO,fun v z=>by cases (show Data.seq _ _=Data.cell v from z)⟩
    · subst q;exact ⟨o1,e1,fun v z=>by rw [d1] at z;cases z⟩
    · subst q;exact ⟨o2,e2,fun v z=>by rw [d2] at z;cases z⟩
  keep:=fun i h h' st kp=>by
    obtain ⟨hz,hTI,⟨x,y,hTO⟩,h1,h2⟩:=st
    exact ⟨kp z (by simp) _ hz,kp TI (by simp) _ hTI,⟨x,y,kp TO (by simp) _ hTO⟩,srcIt_at h1 fun o q=>kp i1 (by simp) o q,srcIt_at h2 fun o q=>kp i2 (by simp) o q⟩
  item:=by
    intro X hP hw hK hc i pins s σ H E I hf st hg
    subst hP hw hK
    obtain ⟨xs,ys,x,y,hq1,hq2,hx,hy⟩:=hg
    obtain ⟨its,rv,p1⟩:=sqS_src I hq1
    obtain ⟨its2,rv2,p2⟩:=sqS_src I hq2
    obtain ⟨u,hu,ru⟩:=rv.get hx
    obtain ⟨u2,hu2,ru2⟩:=rv2.get hy
    have lt:∀ q∈[z,TI,TO,i1,i2],q<s.heap.objs.size:=fun q hq=>by
      obtain ⟨hz,hTI,⟨c,d,hTO⟩,h1,h2⟩:=id st
      obtain ⟨_,e1,_⟩:=srcIt_obj h1
      obtain ⟨_,e2,_⟩:=srcIt_obj h2
      simp only [List.mem_cons,List.not_mem_nil,or_false] at hq
      rcases hq with q' | q' | q' | q' | q'
      · subst q';exact Heap.lt_size hz
      · subst q';exact Heap.lt_size hTI
      · subst q';exact Heap.lt_size hTO
      · subst q';exact Heap.lt_size e1
      · subst q';exact Heap.lt_size e2
    have hT0:s.TypeIs (.ref z) "zip":=⟨_,st.hz,rfl⟩
    unfold pyNext
    refine wpAny_bind (wpAny_attempt (wpAny_callSpecial?_slot (name:=Str.ofString "__next__") hT0 F.slot_zip_next (wpAny_call_entry F.slot_zip_next hT0 F.entry_zip_next
      (zipS_item D st p1 p2 (x:=u) (y:=u2) (by simpa using hu) (by simpa using hu2) fun h' hz' hTO' h1' h2' hT hk=>wpAny_pure ?_) (F.args_zip_next_1 _))))
    have I0:=I.laid (h':=s.heap.push { cls:= .type "tuple",data:= .seq #[u,u2] }) (a:=s.heap.objs.size) (o:= .tup [x,y]) (t':=s.toks) (fun _ _ q=>Heap.get?_push_of_some _ q) (Nat.le_refl _)
      ⟨(by show 2≤sizeLine;decide),[u,u2], .cons ru (.cons ru2 .nil),⟨_,Heap.get?_push_size _ rfl,rfl,_,rfl⟩⟩
    have f0:∀ b∈[z,TI,TO,i1,i2],FpOk X pins (upd H s.heap.objs.size (.tup [x,y])) b:=fun b hb=>fp_upd (hf b hb) (Nat.ne_of_lt (lt b hb))
    have I1:=Inv.turnedL (t':=s.toks) (h':=h') [z,TI,TO,i1,i2] I0 f0 (fun b o hb q=>by
      rcases Heap.get?_push_cases (show (s.heap.push { cls:= .type "tuple",data:= .seq #[u,u2] }).get? b=some o from q) with ⟨q1,q2⟩ | q
      · rw [q1,q2];exact hT
      · exact hk b o (fun e=>hb (by simp [e])) (fun e=>hb (by simp [e])) (fun e=>hb (by simp [e])) (fun e=>hb (by simp [e])) q)
    refine ⟨.ref s.heap.objs.size,rfl,wpAny_letOwnedTupleGo_zip (s:={ s with heap:=h' }) hz' fun h3 hz3 sb=> ?_⟩
    refine ⟨.ref s.heap.objs.size,_,Inv.turnedL (t':=s.toks) (h':=h3) [z,TI,TO,i1,i2] I1 f0 (fun b o hb q=>(sb.2 b fun e=>hb (by simp [e])).trans q),rfl,
      ⟨_,x,y,I.fresh,rfl,rfl,fun l hl=>by rw [sqS_inj I hl hq1];exact hx,fun l hl=>by rw [sqS_inj I hl hq2];exact hy⟩,
      ⟨hz3,(sb.2 TI D.TIz).trans (hk TI _ D.TIz D.TITO D.TIi1 D.TIi2 st.hTI),⟨u,u2,(sb.2 TO D.TOz).trans hTO'⟩,srcIt_at h1' fun o q=>(sb.2 i1 D.i1z).trans q,srcIt_at h2' fun o q=>(sb.2 i2 D.i2z).trans q⟩,fun b hb=>(f0 b hb).1⟩
  done:=by
    intro X hP hw hK hc i pins s σ H E I hf st hg
    subst hP hw hK
    obtain ⟨xs,ys,hq1,hq2,hx⟩:=hg
    obtain ⟨its,rv,p1⟩:=sqS_src I hq1
    obtain ⟨its2,rv2,p2⟩:=sqS_src I hq2
    have hl:=rv.length
    have hl2:=rv2.length
    have hT0:s.TypeIs (.ref z) "zip":=⟨_,st.hz,rfl⟩
    unfold pyNext
    refine wpAny_bind (wpAny_attempt (wpAny_callSpecial?_slot (name:=Str.ofString "__next__") hT0 F.slot_zip_next (wpAny_call_entry F.slot_zip_next hT0 F.entry_zip_next
      (zipS_end (I.ok.hd hc) D st p1 p2 (hx.elim (fun q=> .inl (by simp;omega)) fun q=> .inr (by simp;omega)) fun h' e eb he=> ?_) (F.args_zip_next_1 _))))
    obtain ⟨oe,eo,ce⟩:=he
    refine wpAny_bind (wpAny_isInstance (T:="StopIteration") (b:=true) ⟨oe,eo,ce⟩ isSubtype_stop (wpAny_pure ?_))
    exact ⟨rfl,I.turnedL (t':=s.toks) [z,TI,TO,i1,i2] hf fun b o hb q=>eb b o (fun e=>hb (by simp [e])) (fun e=>hb (by simp [e])) (fun e=>hb (by simp [e])) (fun e=>hb (by simp [e])) q⟩
  self:=fun _ _ _ _ _ st h=>wpAny_pyIter_zip st.hz h
section
variable {X:Cx} {elts:List Expr} {k:Nat} {tpos:Pos} {K:PySem.W.Frag}
def iZs (K:PySem.W.Frag) (ta:TA):TI:=fun σ H R=>ta σ H fun vs H1=>∃ t1 t2 a b,vs=[.ref a, .ref b]∧(∃ xs,SqS t1 K H1 a xs)∧(∃ ys,SqS t2 K H1 b ys)∧R (Izs t1 t2 K a b) H1
theorem pi_zs {l m:Expr} {ta:TA} {p pos:Pos} (hg:Gl X "zip") (hm:X.mg "zip"=none) (ha:PA X [l,m] ta) (hK:X.K=K:=by rfl) (hs:starEach [l,m] X.env=[(false,eval l X.env),(false,eval m X.env)]:=by rfl) (hs2:starEach [m] X.env=[(false,eval m X.env)]:=by rfl):
    PI X (.Tuple elts k tpos) (.Call (.Name "zip" p) [l,m] [] pos) (iZs K ta):=by
  subst hK
  intro pins s σ H R I h
  refine Call_ (ld_blt I hg hm boot_zip (PyProof.Rows.callWith_type1 (thn (ha pos pins s σ H _ I h) fun us s1 ⟨vs,H1,I1,r1,q1⟩=> ?_) (by rw [hs,hs2]) (by rw [hs2];rfl)))
  obtain ⟨t1,t2,a,b,e,⟨xs,hq⟩,⟨ys,hq2⟩,q⟩:=q1
  subst e
  cases r1 with
  | cons r rr=>
    cases rr with
    | cons r' rr=>
    cases rr
    cases r
    cases r'
    obtain ⟨its,rv,pl⟩:=sqS_src I1 hq
    obtain ⟨its2,rv2,pl2⟩:=sqS_src I1 hq2
    obtain ⟨oa,_,ea,_⟩:=srcSq_obj pl
    obtain ⟨ob,_,eb,_⟩:=srcSq_obj pl2
    refine call_zipS pl pl2 fun h' st hk=> ?_
    refine wpAny_pyIter_zip st.hz ?_
    have I2:=I1.kept (t':=s1.toks) hk
    refine ⟨s1.heap.objs.size+4,_,_,_,H1,rfl,I2,turn_zs t1 t2 a b _ _ _ _ _ (PySem.W.ktu_apart s1.heap.objs.size a b (Heap.lt_size ea) (Heap.lt_size eb)),st,fun c hc=> ?_,q⟩
    have hb':s1.heap.objs.size≤c:=by
      simp only [List.mem_cons,List.not_mem_nil,or_false] at hc
      rcases hc with q | q | q | q | q <;> rw [q] <;> first | exact Nat.le_refl _ | exact Nat.le_add_right _ _
    exact I1.fpOk hb' (I1.hok.fresh hb')
end
end L2
namespace L2
open PySem PySem.Spec PyProof.Rows
section
variable {X:Cx} {K:PySem.W.Frag}
theorem boot_list':bootBuiltins "list"=some (.type "list"):=by decide +kernel
theorem boot_tuple':bootBuiltins "tuple"=some (.type "tuple"):=by decide +kernel
theorem boot_min':bootBuiltins "min"=some (.builtin "min"):=by decide +kernel
theorem boot_max':bootBuiltins "max"=some (.builtin "max"):=by decide +kernel
def rIsinT (K:PySem.W.Frag):List V→Hp→VK→Prop:=fun xs H Q=>∃ (x:V) (p:Addr) (ns:List String) (t:Value) (b:Bool),xs=[x, .ref p]∧H p=some (.tup (ns.map V.ty))∧TyOf K H x t∧PySem.W.kitAny K t (ns.map Value.type)=some b∧Q (.bl b) H
theorem vals_ty:∀ {ns:List String} {us:List Value},Vals (ns.map V.ty) us→us=ns.map Value.type
  | [],us,r=>by cases r;rfl
  | n::ns,us,r=>by
    cases r with
    | cons r1 r2=>
      cases r1
      rw [vals_ty r2]
      rfl
theorem k_isinT (hK:X.K=K:=by rfl):CallR X (.builtin "isinstance") (rIsinT K):=by
  subst hK
  intro pins s σ H xs us Q I r h
  obtain ⟨x,p,ns,t,b,rfl,hp,ty,e,q⟩:=h
  obtain ⟨u,c,rfl,rx,rc⟩:=vals2 r
  cases rc
  obtain ⟨_,its,rt,ot,e1,e2,nt,e3⟩:=(show ObjOk X.prog X.w H s.heap p (.tup (ns.map V.ty)) from I.hok p _ hp)
  have ei:=vals_ty rt
  subst ei
  have htp:s.heap.get? p=some ⟨.type "tuple",ot.dict, .seq (ns.map Value.type).toArray nt,ot.slots⟩:=by
    rw [e1]
    obtain ⟨c,d,da,sl⟩:=ot
    simp only at e2 e3
    rw [e2,e3]
  have fin:∀ tk,EP X pins σ Q (.bool b) { s with toks:=tk }:=fun tk=>⟨.bl b,H,I.tok tk,rfl,q⟩
  cases ty with
  | non=>cases (show u=Value.none from rx);exact PySem.W.kia_tup PySem.W.kitx_none I.kIn True.intro htp e (fun z=>nomatch z) fin
  | bl y=>cases (show u=Value.bool y from rx);exact PySem.W.kia_tup PySem.W.kitx_bool I.kIn True.intro htp e (fun z=>nomatch z) fin
  | int i=>obtain ⟨t,q⟩:=(show ∃ t,u=Value.int i t from rx);cases q;exact PySem.W.kia_tup PySem.W.kitx_int I.kIn True.intro htp e (fun z=>nomatch z) fin
  | str y=>obtain ⟨t,q⟩:=(show ∃ t,u=Value.str y t from rx);cases q;exact PySem.W.kia_tup PySem.W.kitx_str I.kIn True.intro htp e (fun z=>nomatch z) fin
  | flt y=>obtain ⟨t,q⟩:=(show ∃ t,u=Value.float y t from rx);cases q;exact PySem.W.kia_tup PySem.W.kitx_float I.kIn True.intro htp e (fun z=>nomatch z) fin
  | @lst a xs ea=>
    cases (show u=Value.ref a from rx)
    obtain ⟨_,_,n,_,h1⟩:=(show ObjOk X.prog X.w H s.heap a (.lst xs) from I.hok a _ ea)
    exact PySem.W.kia_tup PySem.W.kitx_list I.kIn ⟨_,h1,rfl⟩ htp e (fun z=>nomatch z) fin
  | @frz a ob xs ea=>
    cases (show u=Value.ref a from rx)
    obtain ⟨_,_,_,n,_,h1⟩:=(show ObjOk X.prog X.w H s.heap a (.frz ob (.lst xs)) from I.hok a _ ea)
    exact PySem.W.kia_tup PySem.W.kitx_list I.kIn ⟨_,h1,rfl⟩ htp e (fun z=>nomatch z) fin
  | @tup a xs ea=>
    cases (show u=Value.ref a from rx)
    obtain ⟨_,_,_,p⟩:=(show ObjOk X.prog X.w H s.heap a (.tup xs) from I.hok a _ ea)
    obtain ⟨o,h1,h2,_⟩:=p
    exact PySem.W.kia_tup PySem.W.kitx_tuple I.kIn ⟨o,h1,h2⟩ htp e (fun z=>nomatch z) fin
  | @dK a kvs ea=>
    cases (show u=Value.ref a from rx)
    obtain ⟨_,_,vs,_,p⟩:=(show ObjOk X.prog X.w H s.heap a (.dK kvs) from I.hok a _ ea)
    obtain ⟨o,es,ep,h1,h2,_⟩:=p
    exact PySem.W.kia_tup PySem.W.kitx_dict I.kIn ⟨o,h1,h2.1⟩ htp e (fun z=>nomatch z) fin
  | @dT a kvs ea=>
    cases (show u=Value.ref a from rx)
    obtain ⟨_,_,xs,_,o,es,ep,h1,h2,_⟩:=(show ObjOk X.prog X.w H s.heap a (.dT kvs) from I.hok a _ ea)
    exact PySem.W.kia_tup PySem.W.kitx_dict I.kIn ⟨o,h1,h2.1⟩ htp e (fun z=>nomatch z) fin
  | @ins a C dx fs ea cl ha hn htk hm=>
    cases (show u=Value.ref a from rx)
    obtain ⟨mA,O,_⟩:=ins_get I.hok ea
    obtain ⟨od,J,_⟩:=O.look
    exact PySem.W.kia_tup (PySem.W.kitx_own (cl.get _) cl.hd ha hn htk hm) I.kIn J htp e (fun z=>nomatch z) fin
theorem k_gtup {es:List Expr} {k:Nat} {t:TGs} {n:Nat} {pos:Pos} (hc:X.calm=true) (h:PGs X es t) (hK:X.K=K:=by rfl)
    (hn:(assignEach es X.env).length=n:=by rfl) (hst:(assignEach es X.env).findIdx? (·.1)=none:=by rfl):PG X (.Tuple es k pos) (gTup K n t):=by
  subst hK
  exact pg_tup hc h hn hst
variable {scope:Scope} {fr:List (Str × Nat)}
theorem pg_own2 {x y:Str} {px py pt:Pos} {k:Nat} (h:blkOk X.env.scope X.N scope [x,y] fr=true) (hc:X.calm=true) (C:Addr) (ex:List Addr) (s:Shared) (H:Hp) (hK:X.K=K:=by rfl):
    PG (blkCx X scope [x,y] fr C ex s H) (.Tuple [.Name x px, .Name y py] k pt) (gTup K 2 (gCons (gName 0) (gCons (gName 1) gNil))):=by
  subst hK
  exact pg_tup (X:=blkCx X scope [x,y] fr C ex s H) hc (pgs_cons (pg_own h rfl C ex s H) (pgs_cons (pg_own h rfl C ex s H) pgs_nil))
theorem pe_comp2 {elt iter:Expr} {x y:Str} {px py pt:Pos} {k:Nat} {ifs:List Expr} {pos:Pos} {wi:TI} {tc:TT} {te:TE} (hi:PI X (.Tuple [.Name x px, .Name y py] k pt) iter wi)
    (ht:∀ C ex s H,PTs (blkCx X scope [x,y] (frOf X.N scope) C ex s H) ifs tc) (he:∀ C ex s H,PE (blkCx X scope [x,y] (frOf X.N scope) C ex s H) elt te) (hK:X.K=K:=by rfl)
    (hb:blkOk X.env.scope X.N scope [x,y] (frOf X.N scope)=true:=by with_unfolding_all rfl) (hc:X.calm=true:=by rfl)
    (hs:∀ x,foldedSetIterable iter X.env x=pure x:=by intro _;rfl):PE X (.ListComp elt [⟨.Tuple [.Name x px, .Name y py] k pt,iter,ifs,0⟩] scope pos) (tComp wi [x,y] (frOf X.N scope) (gTup K 2 (gCons (gName 0) (gCons (gName 1) gNil))) tc te):=
  pe_comp hc (.of hb) hi (fun C ex s H=>pg_own2 hb hc C ex s H hK) ht he hs
end
section
variable {K:PySem.W.Frag} {D:Addr} {σ0:St} {tc:TT} {te:TE} {Q:VK} {H:Hp}
theorem comp_zs {t1 t2:Bool} {a b:Addr} {xs zs:List V} (hlen:xs.length=zs.length) (Pv:Nat→List V→Hp→Prop) (h0:Pv 0 [] (upd H D (.lst [])))
    (hl:∀ i ys H,i≤xs.length→Pv i ys H→SqS t1 K H a xs∧SqS t2 K H b zs)
    (hs:∀ i x z ys H p,xs[i]?=some x→zs[i]?=some z→Pv i ys H→H p=none→Kp σ0 ((σ0.set 0 (some x)).set 1 (some z))∧tc ((σ0.set 0 (some x)).set 1 (some z)) (upd H p (.tup [x,z])) fun b H3=>
      if b=true then te ((σ0.set 0 (some x)).set 1 (some z)) H3 fun y H4=>H4 D=some (.lst ys)∧ys.length<sizeLine∧Pv (i+1) (ys++[y]) (upd H4 D (.lst (ys++[y]))) else Pv (i+1) ys H3)
    (hd:∀ ys H,Pv xs.length ys H→Q (.ref D) H):
    CompW (Izs t1 t2 K a b) σ0 (gTup K 2 (gCons (gName 0) (gCons (gName 1) gNil))) tc te Q H D:=by
  refine ⟨fun i m ys H=>m=xs.length - i∧i≤xs.length∧Pv i ys H,⟨_,rfl,Nat.zero_le _,h0⟩,?_⟩
  rintro i m ys H ⟨rfl,hi,p⟩
  obtain ⟨q1,q2⟩:=hl i ys H hi p
  by_cases hlt:i<xs.length
  · refine .inr ⟨⟨xs,zs,xs[i],zs[i]'(by omega),q1,q2,by simp [hlt],by simp⟩,Pv (i+1),fun ys' H' p'=>⟨xs.length - (i+1),by omega,rfl,hlt,p'⟩,fun x H' y=> ?_⟩
    obtain ⟨pp,v,z,hp,rfl,rfl,hv,hz⟩:=y
    exact ⟨pp,_,rfl,SqT.of upd_same,rfl,_,_,rfl,_,_,rfl,rfl,hs i v z ys H pp (hv xs q1) (hz zs q2) p hp⟩
  · have e:i=xs.length:=by omega
    subst e
    exact .inl ⟨⟨xs,zs,q1,q2, .inl (Nat.le_refl _)⟩,hd ys H p⟩
end
end L2
namespace L2
open PySem PySem.Spec PyProof.Rows
inductive Dt where
  | non | bl (b:Bool) | int (i:Int) | str (z:Str) | lst (xs:List Dt) | tup (xs:List Dt)
inductive Rp (H:Hp) (F:Addr→Prop):Nat→V→Dt→Prop where
  | non {n:Nat}:Rp H F n .non .non
  | bl {n:Nat} (b:Bool):Rp H F n (.bl b) (.bl b)
  | int {n:Nat} (i:Int):Rp H F n (.int i) (.int i)
  | str {n:Nat} (z:Str):Rp H F n (.str z) (.str z)
  | lst {n:Nat} {a:Addr} {vs:List V} {ds:List Dt} (h:H a=some (.lst vs)) (f:F a) (b:vs.length≤100000) (l:vs.length=ds.length) (e:∀ (i:Nat) (v:V) (d:Dt),vs[i]?=some v→ds[i]?=some d→Rp H F n v d):Rp H F (n+1) (.ref a) (.lst ds)
  | tup {n:Nat} {a:Addr} {vs:List V} {ds:List Dt} (h:H a=some (.tup vs)) (b:vs.length≤100000) (l:vs.length=ds.length) (e:∀ (i:Nat) (v:V) (d:Dt),vs[i]?=some v→ds[i]?=some d→Rp H F n v d):Rp H F (n+1) (.ref a) (.tup ds)
theorem Rp.mono {H H':Hp} {F F':Addr→Prop} {n:Nat} {v:V} {d:Dt} (r:Rp H F n v d) (k:∀ a o,H a=some o→(∀ xs,o= .lst xs→F a)→H' a=some o) (f:∀ a,F a→F' a):Rp H' F' n v d:=by
  induction r with
  | non=>exact .non
  | bl b=>exact .bl b
  | int i=>exact .int i
  | str z=>exact .str z
  | lst h p b l e ih=>exact .lst (k _ _ h fun _ _=>p) (f _ p) b l fun i v d h1 h2=>ih i v d h1 h2
  | tup h b l e ih=>exact .tup (k _ _ h fun xs q=>by cases q) b l fun i v d h1 h2=>ih i v d h1 h2
theorem Rp.same {H H':Hp} {F:Addr→Prop} {n:Nat} {v:V} {d:Dt} (r:Rp H F n v d) (s:Same H H'):Rp H' F n v d:=r.mono (fun a o h _=>s a o h) fun _ h=>h
theorem Rp.imp {H:Hp} {F F':Addr→Prop} {n:Nat} {v:V} {d:Dt} (r:Rp H F n v d) (f:∀ a,F a→F' a):Rp H F' n v d:=r.mono (fun a o h _=>h) f
theorem Rp.up {H:Hp} {F:Addr→Prop} {n m:Nat} {v:V} {d:Dt} (r:Rp H F n v d) (h:n≤m):Rp H F m v d:=by
  induction r generalizing m with
  | non=>exact .non
  | bl b=>exact .bl b
  | int i=>exact .int i
  | str z=>exact .str z
  | lst h p b l e ih=>
    cases m with
    | zero=>exact absurd h (by omega)
    | succ m=>exact .lst ‹_› p b l fun i v d h1 h2=>ih i v d h1 h2 (by omega)
  | tup h b l e ih=>
    cases m with
    | zero=>exact absurd h (by omega)
    | succ m=>exact .tup ‹_› b l fun i v d h1 h2=>ih i v d h1 h2 (by omega)
abbrev FT:Addr→Prop:=fun _=>True
abbrev FN (H:Hp):Addr→Prop:=fun a=>H a=none
theorem Rp.any {H:Hp} {F:Addr→Prop} {n:Nat} {v:V} {d:Dt} (r:Rp H F n v d):Rp H FT n v d:=r.imp fun _ _=>trivial
theorem Rp.new {H:Hp} {F:Addr→Prop} {n:Nat} {v:V} {d:Dt} {p:Addr} {o:HO} (r:Rp H F n v d) (h:H p=none):Rp (L2.upd H p o) F n v d:=r.same fun b u e=>by rw [upd_ne (ne_of_none e h)];exact e
def dInts (ns:List Int):Dt:= .lst (ns.map .int)
theorem ints_of {H:Hp} {F:Addr→Prop} {n:Nat} {v:V} {ns:List Int} (r:Rp H F n v (dInts ns)):∃ a,v= .ref a∧H a=some (.lst (ns.map V.int))∧F a:=by
  unfold dInts at r
  cases r with
  | @lst n a vs _ h f b l e=>
    refine ⟨a,rfl,?_,f⟩
    rw [h]
    congr 2
    refine List.ext_getElem (by simpa using l) fun i h1 h2=> ?_
    have h2':i<ns.length:=by simpa using h2
    have:=e i vs[i] (.int ns[i]) (by simp [h1]) (by simp [h2'])
    cases hv:vs[i] <;> rw [hv] at this <;> cases this
    simp
end L2
namespace L2
open PySem PySem.Spec PyProof.Rows
section
variable {t u:TS} {D:Ends} {σ:St} {H:Hp} {te ta tb tk:TE} {tt tu:TT} {g:TG} {Q:VK} {QT:Bool→Hp→Prop} {QA:List V→Hp→Prop} {i:Nat} {v x y:V} {r:R2} {tr:TA} {K:PySem.W.Frag}
theorem rd_seq (h:t { D with nx:=u D } σ H):tSeq t u D σ H:=h
theorem rd_next (h:D.nx σ H):tNext D σ H:=h
theorem rd_asg (h:te σ H fun x H1=>g x σ H1 D.nx):tAsg te g D σ H:=h
theorem rd_name {QS:St→Hp→Prop} (h:QS (σ.set i (some v)) H):gName i v σ H QS:=h
theorem rd_var (e:σ[i]?=some (some v)) (h:Q v H):tVar i σ H Q:=⟨v,e,h⟩
theorem rd_c (h:Q v H):tC v σ H Q:=h
theorem rd_op (h:ta σ H fun x H1=>tb σ H1 fun y H2=>r x y H2 Q):tOp r ta tb σ H Q:=h
theorem rd_rI {C:Int→Int→Prop} {gg:Int→Int→V} {a b:Int} (c:C a b) (h:Q (gg a b) H):rI C gg (.int a) (.int b) H Q:=⟨a,b,rfl,rfl,c,h⟩
theorem rd_rI0 {gg:Int→Int→V} {a b:Int} (h:Q (gg a b) H):rI0 gg (.int a) (.int b) H Q:=⟨a,b,rfl,rfl,h⟩
theorem rd_eqI {a b:Int} (h:Q (.bl (decide (a=b))) H):rEq (.int a) (.int b) H Q:=⟨rfl,by rw [show decide (V.int a=V.int b)=decide (a=b) by rw [Bool.eq_iff_iff];simp];exact h⟩
theorem rd_neI {a b:Int} (h:Q (.bl (!decide (a=b))) H):rNe (.int a) (.int b) H Q:=⟨rfl,by rw [show decide (V.int a=V.int b)=decide (a=b) by rw [Bool.eq_iff_iff];simp];exact h⟩
theorem rd_eqB {a b:Bool} (h:Q (.bl (decide (a=b))) H):rEq (.bl a) (.bl b) H Q:=⟨rfl,by rw [show decide (V.bl a=V.bl b)=decide (a=b) by rw [Bool.eq_iff_iff];simp];exact h⟩
theorem rd_neB {a b:Bool} (h:Q (.bl (!decide (a=b))) H):rNe (.bl a) (.bl b) H Q:=⟨rfl,by rw [show decide (V.bl a=V.bl b)=decide (a=b) by rw [Bool.eq_iff_iff];simp];exact h⟩
theorem rd_not (h:tt σ H fun c H1=>QT (!c) H1):tNot tt σ H QT:=h
theorem rd_test (h:te σ H fun x H'=>∃ k,x= .bl k∧QT k H'):tTest te σ H QT:=h
theorem rd_tB (h:te σ H fun x H'=>∃ k,x= .bl k∧QT k H'):tB te σ H QT:=h
theorem rd_bl {b:Bool} {R:Bool→Prop} (h:R b):∃ k,V.bl b= .bl k∧R k:=⟨b,rfl,h⟩
theorem rd_or (h:tt σ H fun c H1=>if c=true then QT true H1 else tu σ H1 QT):tOr tt tu σ H QT:=h
theorem rd_andV (h:ta σ H fun x H1=>∃ c,x= .bl c∧if c=true then tb σ H1 Q else Q (.bl false) H1):tAndV ta tb σ H Q:=h
theorem rd_notV (h:ta σ H fun x H1=>∃ c,x= .bl c∧Q (.bl (!c)) H1):tNotV ta σ H Q:=h
theorem rd_ifS (h:tt σ H fun b H1=>if b=true then t D σ H1 else u D σ H1):tIfS tt t u D σ H:=h
theorem rd_if (h:tt σ H fun c H1=>if c=true then ta σ H1 Q else tb σ H1 Q):tIf tt ta tb σ H Q:=h
theorem rd_ret (h:te σ H D.rt):tRet te D σ H:=h
theorem rd_drop (h:te σ H fun _ H1=>D.nx σ H1):tDrop te D σ H:=h
theorem rd_nil (h:QA [] H):tNil σ H QA:=h
theorem rd_cons (h:te σ H fun x H1=>tr σ H1 fun xs H2=>QA (x::xs) H2):tCons te tr σ H QA:=h
theorem rd_lst (h:tr σ H fun xs H1=>xs.length≤sizeLine∧∀ p,H1 p=none→Q (.ref p) (upd H1 p (.lst xs))):tLst tr σ H Q:=h
theorem rd_tup (h:tr σ H fun xs H1=>xs.length≤sizeLine∧∀ p,H1 p=none→Q (.ref p) (upd H1 p (.tup xs))):tTup tr σ H Q:=h
theorem rd_cb {rr:List V→Hp→VK→Prop} (h:tr σ H fun vs H1=>rr vs H1 Q):tCB rr tr σ H Q:=h
theorem rd_call {sp:Sp} {E:XK} (h:tr σ H fun vs H1=>sp vs H1 Q E):tCall sp [] E tr σ H Q:=by
  unfold tCall
  simpa using h
theorem rd_sl {rs:V→Option Int→Option Int→Hp→VK→Prop} {tl th:TO} (h:te σ H fun x H1=>tl σ H1 fun l H2=>th σ H2 fun u H3=>rs x l u H3 Q):tSl rs te tl th σ H Q:=h
theorem rd_part {QO:Option Int→Hp→Prop} (h:te σ H fun x H1=>∃ i,x= .int i∧QO (some i) H1):tPart te σ H QO:=h
theorem rd_noPart {QO:Option Int→Hp→Prop} (h:QO none H):tNoPart σ H QO:=h
theorem rd_int {a:Int} {R:Int→Prop} (h:R a):∃ k,V.int a= .int k∧R k:=⟨a,rfl,h⟩
theorem rd_slL {p:Addr} {xs:List V} {lo hi:Option Int} (c:SqL K H p xs) (h:∀ q,H q=none→Q (.ref q) (upd H q (.lst (cutV xs lo hi)))):rSlL K (.ref p) lo hi H Q:=⟨p,xs,rfl,c,h⟩
theorem rd_lenS {z:Str} (c:z.length≤sizeLine) (h:Q (.int z.length) H):rLen K [.str z] H Q:=⟨_,_,rfl,⟨c,rfl⟩,h⟩
theorem rd_lenL {p:Addr} {xs:List V} (c:SqL K H p xs) (h:Q (.int xs.length) H):rLen K [.ref p] H Q:=⟨_,_,rfl, .inl ⟨xs,c,rfl⟩,h⟩
theorem rd_lenT {p:Addr} {xs:List V} (c:SqT K H p xs) (h:Q (.int xs.length) H):rLen K [.ref p] H Q:=⟨_,_,rfl, .inr ⟨xs,c,rfl⟩,h⟩
theorem rd_sum {p:Addr} {ns:List Int} (c:SqL K H p (ns.map V.int)) (h:Q (.int ns.sum) H):rSum K [.ref p] H Q:=⟨p,ns,rfl,c,h⟩
theorem rd_all {p:Addr} {bs:List Bool} (c:SqL K H p (bs.map V.bl)) (h:Q (.bl (bs.all id)) H):rAll K [.ref p] H Q:=⟨p,bs,rfl,c,h⟩
theorem rd_isin {n:String} {ty:Value} {b:Bool} (c:TyOf K H x ty) (e:PySem.W.kitOne K ty (.type n)=some b) (h:Q (.bl b) H):rIsin K [x, .ty n] H Q:=⟨x,n,ty,b,rfl,c,e,h⟩
theorem rd_ixL {p:Addr} {xs:List V} {k:Int} (c:SqL K H p xs) (e:atI xs k=some v) (h:Q v H):rIxL K (.ref p) (.int k) H Q:=⟨p,xs,k,v,rfl,rfl,c,e,h⟩
theorem rd_ixT {p:Addr} {xs:List V} {k:Int} (c:SqT K H p xs) (e:atI xs k=some v) (h:Q v H):rIxT K (.ref p) (.int k) H Q:=⟨p,xs,k,v,rfl,rfl,c,e,h⟩
theorem rd_ixS {z:Str} {k:Int} {c:Nat} (l:z.length≤sizeLine) (e:atI z.cps.toList k=some c) (h:Q (.str ⟨#[c]⟩) H):rIxS (.str z) (.int k) H Q:=⟨z,k,c,rfl,rfl,l,e,h⟩
theorem rd_len {xs:List V} {B:Prop} (c:xs.length≤1000) (h:B):xs.length≤sizeLine∧B:=⟨Nat.le_trans c (by decide),h⟩
end
theorem iteP {p A B:Prop} [Decidable p] (h1:p→A) (h2:¬ p→B):if decide p=true then A else B:=by
  by_cases h:p
  · rw [if_pos (decide_eq_true h)];exact h1 h
  · rw [if_neg (fun q=>h (of_decide_eq_true q))];exact h2 h
theorem iteN {p A B:Prop} [Decidable p] (h1:¬ p→A) (h2:p→B):if (!decide p)=true then A else B:=by
  by_cases h:p
  · rw [decide_eq_true h];exact iteF (h2 h)
  · rw [decide_eq_false h];exact iteT (h1 h)
theorem iteB {b:Bool} {A B:Prop} (h1:b=true→A) (h2:b=false→B):if b=true then A else B:=by
  cases b with
  | true=>exact iteT (h1 rfl)
  | false=>exact iteF (h2 rfl)
def tyD:Dt→String | .non=>"NoneType" | .bl _=>"bool" | .int _=>"int" | .str _=>"str" | .lst _=>"list" | .tup _=>"tuple"
def isLst:Dt→Bool | .lst _=>true | _=>false
def isTup:Dt→Bool | .tup _=>true | _=>false
def isBl:Dt→Bool | .bl _=>true | _=>false
theorem Rp.ty {K:PySem.W.Frag} {H:Hp} {F:Addr→Prop} {n:Nat} {v:V} {d:Dt} (r:Rp H F n v d):TyOf K H v (.type (tyD d)):=by
  cases r with
  | non=>exact .non
  | bl b=>exact .bl b
  | int i=>exact .int i
  | str z=>exact .str z
  | lst h _ _ _ _=>exact .lst h
  | tup h _ _ _=>exact .tup h
theorem kD_list_f:kitB "NoneType" "list"=some false∧kitB "bool" "list"=some false∧kitB "int" "list"=some false∧kitB "str" "list"=some false∧kitB "list" "list"=some true∧kitB "tuple" "list"=some false:=by decide +kernel
theorem kD_list {K:PySem.W.Frag} (d:Dt):PySem.W.kitOne K (.type (tyD d)) (.type "list")=some (isLst d):=by
  obtain ⟨h1,h2,h3,h4,h5,h6⟩:=kD_list_f
  cases d with
  | non=>exact kb h1
  | bl _=>exact kb h2
  | int _=>exact kb h3
  | str _=>exact kb h4
  | lst _=>exact kb h5
  | tup _=>exact kb h6
theorem kD_tuple_f:kitB "NoneType" "tuple"=some false∧kitB "bool" "tuple"=some false∧kitB "int" "tuple"=some false∧kitB "str" "tuple"=some false∧kitB "list" "tuple"=some false∧kitB "tuple" "tuple"=some true:=by decide +kernel
theorem kD_tuple {K:PySem.W.Frag} (d:Dt):PySem.W.kitOne K (.type (tyD d)) (.type "tuple")=some (isTup d):=by
  obtain ⟨h1,h2,h3,h4,h5,h6⟩:=kD_tuple_f
  cases d with
  | non=>exact kb h1
  | bl _=>exact kb h2
  | int _=>exact kb h3
  | str _=>exact kb h4
  | lst _=>exact kb h5
  | tup _=>exact kb h6
theorem kD_bool_f:kitB "NoneType" "bool"=some false∧kitB "bool" "bool"=some true∧kitB "int" "bool"=some false∧kitB "str" "bool"=some false∧kitB "list" "bool"=some false∧kitB "tuple" "bool"=some false:=by decide +kernel
theorem kD_bool {K:PySem.W.Frag} (d:Dt):PySem.W.kitOne K (.type (tyD d)) (.type "bool")=some (isBl d):=by
  obtain ⟨h1,h2,h3,h4,h5,h6⟩:=kD_bool_f
  cases d with
  | non=>exact kb h1
  | bl _=>exact kb h2
  | int _=>exact kb h3
  | str _=>exact kb h4
  | lst _=>exact kb h5
  | tup _=>exact kb h6
theorem kD_lt {K:PySem.W.Frag} (d:Dt):PySem.W.kitAny K (.type (tyD d)) (["list","tuple"].map Value.type)=some (isLst d||isTup d):=by
  show (match PySem.W.kitOne K (.type (tyD d)) (.type "list") with
    | some true=>some true
    | some false=>(match PySem.W.kitOne K (.type (tyD d)) (.type "tuple") with
      | some true=>some true
      | some false=>some false
      | none=>none)
    | none=>none)=_
  rw [kD_list,kD_tuple]
  cases d <;> rfl
theorem rd_isinT {K:PySem.W.Frag} {H:Hp} {Q:VK} {x:V} {p:Addr} {ns:List String} {t:Value} {b:Bool} (hp:H p=some (.tup (ns.map V.ty))) (c:TyOf K H x t) (e:PySem.W.kitAny K t (ns.map Value.type)=some b) (h:Q (.bl b) H):rIsinT K [x, .ref p] H Q:=⟨x,p,ns,t,b,rfl,hp,c,e,h⟩
def itemsD:Dt→List Dt | .lst ds=>ds | .tup ds=>ds | _=>[]
theorem Rp.seq {K:PySem.W.Frag} {H:Hp} {F:Addr→Prop} {n:Nat} {v:V} {d:Dt} (r:Rp H F n v d) (h:(isLst d||isTup d)=true):
    ∃ m a vs,n=m+1∧v= .ref a∧SqS (isTup d) K H a vs∧vs.length=(itemsD d).length∧vs.length≤100000∧∀ (i:Nat) (x:V) (e:Dt),vs[i]?=some x→(itemsD d)[i]?=some e→Rp H F m x e:=by
  cases r with
  | @lst m a vs ds q f b l e=>exact ⟨m,a,vs,rfl,rfl,(show SqL K H a vs from SqL.of q),l,b,e⟩
  | @tup m a vs ds q b l e=>exact ⟨m,a,vs,rfl,rfl,(show SqT K H a vs from SqT.of q),l,b,e⟩
  | non=>cases h
  | bl _=>cases h
  | int _=>cases h
  | str _=>cases h
theorem rd_lenQ {K:PySem.W.Frag} {H:Hp} {Q:VK} {tp:Bool} {p:Addr} {xs:List V} (c:SqS tp K H p xs) (h:Q (.int xs.length) H):rLen K [.ref p] H Q:=by
  cases tp with
  | false=>exact rd_lenL c h
  | true=>exact rd_lenT c h
theorem SqS.same {K:PySem.W.Frag} {H H':Hp} {tp:Bool} {p:Addr} {xs:List V} (c:SqS tp K H p xs) (s:Same H H'):SqS tp K H' p xs:=by
  cases tp with
  | false=>exact (show SqL K H' p xs from s.seq c)
  | true=>
    rcases (show SqT K H p xs from c) with (q | ⟨o,q⟩) | q
    · exact (show SqT K H' p xs from .inl (.inl (s _ _ q)))
    · exact (show SqT K H' p xs from .inl (.inr ⟨o,s _ _ q⟩))
    · exact (show SqT K H' p xs from .inr q)
theorem same_new {H:Hp} {p:Addr} {o:HO} (h:H p=none):Same H (upd H p o):=fun b u e=>by rw [upd_ne (ne_of_none e h)];exact e
theorem same_at {H H':Hp} {D:Addr} {o:HO} (s:Same H H') (h:H D=none):Same H (upd H' D o):=fun b u e=>by rw [upd_ne (ne_of_none e h)];exact s b u e
theorem scal_self {v:V} {d:Dt} {H:Hp} {F:Addr→Prop} {n:Nat} (r:Rp H F n v d) (h:(isLst d||isTup d)=false):scal v v=true:=by
  cases r with
  | non=>rfl
  | bl _=>rfl
  | int _=>rfl
  | str _=>rfl
  | lst _ _ _ _ _=>cases h
  | tup _ _ _ _=>cases h
theorem scal_eq {v u:V} {d:Dt} {H:Hp} {F:Addr→Prop} {n:Nat} (r:Rp H F n v d) (r2:Rp H F n u d) (h:(isLst d||isTup d)=false):v=u:=by
  cases r with
  | non=>cases r2;rfl
  | bl _=>cases r2;rfl
  | int _=>cases r2;rfl
  | str _=>cases r2;rfl
  | lst _ _ _ _ _=>cases h
  | tup _ _ _ _=>cases h
end L2
namespace L2
open PySem PySem.Spec PyProof.Rows
structure SrcOk (J:It) (g:TG) (σ0:St) (H:Hp) (n:Nat) (st:Nat→St):Prop where
  go:∀ i H',i<n→Same H H'→J.go i H'
  stop:∀ H',Same H H'→J.stop n H'
  yld:∀ i H' x H'' (R:St→Hp→Prop),i<n→Same H H'→J.yld i H' x H''→(∀ H3,Same H' H3→R (st i) H3)→g x σ0 H'' R
  kp:∀ i,i<n→Kp σ0 (st i)
section
variable {J:It} {g:TG} {σ0:St} {H:Hp} {n:Nat} {st:Nat→St} {tc:TT} {te:TE} {Q:VK} {D:Addr}
theorem Rp.off {H:Hp} {F:Addr→Prop} {m:Nat} {v:V} {d:Dt} {D:Addr} {xs:List V} {o:HO} (r:Rp H F m v d) (hD:H D=some (.lst xs)) (hF:¬ F D):Rp (L2.upd H D o) F m v d:=by
  refine r.mono (fun a u e q=> ?_) fun _ h=>h
  have n:a≠D:=fun z=>by
    subst z
    rw [hD] at e
    cases e
    exact hF (q _ rfl)
  rw [upd_ne n]
  exact e
theorem comp_data {m:Nat} {p:Nat→Bool} {G:Nat→Dt} (S:SrcOk J g σ0 H n st) (hD:H D=none) (hn:n≤100000)
    (ht:∀ i H' (R:Bool→Hp→Prop),i<n→Same H H'→(∀ H3,Same H' H3→R (p i) H3)→tc (st i) H' R)
    (he:∀ i H' (R:VK),i<n→p i=true→Same H H'→(∀ H3 y,Same H' H3→Rp H3 (FN H') m y (G i)→R y H3)→te (st i) H' R)
    (hd:∀ H' ys,Same H H'→H' D=some (.lst ys)→Rp H' (FN H) (m+1) (.ref D) (.lst (((List.range n).filter p).map G))→Q (.ref D) H'):
    CompW J σ0 g tc te Q H D:=by
  refine ⟨fun i k ys H'=>k=n - i∧i≤n∧Same H H'∧H' D=some (.lst ys)∧ys.length=(((List.range i).filter p).map G).length∧∀ (j:Nat) (y:V) (d:Dt),ys[j]?=some y→(((List.range i).filter p).map G)[j]?=some d→Rp H' (fun a=>H a=none∧a≠D) m y d,
    ⟨_,rfl,Nat.zero_le _,same_at (Same.refl _) hD,upd_same,rfl,fun j y d q=>by simp at q⟩,?_⟩
  rintro i k ys H1 ⟨rfl,hi,s1,hl,len,el⟩
  have bnd:∀ i,(((List.range i).filter p).map G).length≤i:=fun i=>by
    rw [List.length_map]
    exact Nat.le_trans (List.length_filter_le _ _) (by simp)
  by_cases hlt:i<n
  · refine .inr ⟨S.go i H1 hlt s1,fun ys' H'=>Same H H'∧H' D=some (.lst ys')∧ys'.length=(((List.range (i+1)).filter p).map G).length∧∀ (j:Nat) (y:V) (d:Dt),ys'[j]?=some y→(((List.range (i+1)).filter p).map G)[j]?=some d→Rp H' (fun a=>H a=none∧a≠D) m y d,
      fun ys' H' q=>⟨n - (i+1),by omega,rfl,hlt,q⟩,fun x H2 y=> ?_⟩
    refine S.yld i H1 x H2 _ hlt s1 y fun H3 s3=>⟨S.kp i hlt,?_⟩
    refine ht i H3 _ hlt (s1.trans s3) fun H4 s4=> ?_
    have hl4:H4 D=some (.lst ys):=s4 _ _ (s3 _ _ hl)
    have s14:Same H H4:=s1.trans (s3.trans s4)
    cases hp:p i with
    | false=>
      refine iteF ⟨s14,hl4,?_,?_⟩
      · rw [List.range_succ,List.filter_append,List.filter_cons,hp]
        simpa using len
      · intro j y d h1 h2
        have e:((List.range (i+1)).filter p).map G=((List.range i).filter p).map G:=by
          rw [List.range_succ,List.filter_append,List.filter_cons,hp]
          simp
        rw [e] at h2
        exact (el j y d h1 h2).same (s3.trans s4)
    | true=>
      refine iteT ?_
      refine he i H4 _ hlt hp s14 fun H5 y s5 ry=> ?_
      have hl5:H5 D=some (.lst ys):=s5 _ _ hl4
      have e:((List.range (i+1)).filter p).map G=((List.range i).filter p).map G++[G i]:=by
        rw [List.range_succ,List.filter_append,List.filter_cons,hp]
        simp
      refine ⟨hl5,?_,?_,upd_same,?_,?_⟩
      · have:=bnd i
        exact Nat.lt_of_le_of_lt (by omega:ys.length≤100000) (by decide)
      · exact same_at (s14.trans s5) hD
      · rw [e,List.length_append,List.length_append,len]
        rfl
      · intro j z d h1 h2
        rw [e] at h2
        have nF:¬ (H D=none∧D≠D):=fun q=>q.2 rfl
        by_cases hj:j<ys.length
        · rw [List.getElem?_append_left hj] at h1
          rw [List.getElem?_append_left (by omega)] at h2
          exact ((el j z d h1 h2).same (s3.trans (s4.trans s5))).off hl5 nF
        · have ej:j=ys.length:=by
            have:=(List.getElem?_eq_some_iff.mp h1).1
            rw [List.length_append] at this
            have:([y]:List V).length=1:=rfl
            omega
          subst ej
          rw [List.getElem?_append_right (Nat.le_refl _),Nat.sub_self] at h1
          rw [len,List.getElem?_append_right (Nat.le_refl _),Nat.sub_self] at h2
          cases h1
          cases h2
          refine (ry.imp (F':=fun a=>H a=none∧a≠D) fun a ha=>⟨s14.free ha,fun q=> ?_⟩).off hl5 nF
          subst q
          rw [show H4 a=none from ha] at hl4
          cases hl4
  · have e:i=n:=by omega
    subst e
    refine .inl ⟨S.stop H1 s1,hd H1 ys s1 hl (.lst hl hD ?_ len fun j y d h1 h2=>(el j y d h1 h2).imp fun a q=>q.1)⟩
    have:=bnd i
    omega
theorem comp_map {m:Nat} {G:Nat→Dt} (S:SrcOk J g σ0 H n st) (hD:H D=none) (hn:n≤100000)
    (he:∀ i H' (R:VK),i<n→Same H H'→(∀ H3 y,Same H' H3→Rp H3 (FN H') m y (G i)→R y H3)→te (st i) H' R)
    (hd:∀ H' ys,Same H H'→H' D=some (.lst ys)→Rp H' (FN H) (m+1) (.ref D) (.lst ((List.range n).map G))→Q (.ref D) H'):
    CompW J σ0 g tYes te Q H D:=by
  refine comp_data (p:=fun _=>true) (m:=m) (G:=G) S hD hn (fun i H' R _ _ k=>k H' (Same.refl _)) (fun i H' R hi _ s k=>he i H' R hi s k) fun H' ys s hl r=>hd H' ys s hl ?_
  have e:(List.range n).filter (fun _=>true)=List.range n:=by simp
  rw [e] at r
  exact r
variable {K:PySem.W.Frag} {a b:Addr} {xs zs:List V}
theorem src_list (h:SqL K H a xs) (h0:σ0[0]?=some none):SrcOk (Itl K a) (gName 0) σ0 H xs.length (fun i=>σ0.set 0 (some (xs.getD i .non))) where
  go:=fun i H' hi s=>⟨xs,xs[i],s.seq h,by simp [hi]⟩
  stop:=fun H' s=>⟨xs,s.seq h,Nat.le_refl _⟩
  yld:=fun i H' x H'' R hi s y k=>by
    obtain ⟨e,hv⟩:=y
    subst e
    have e:x=xs.getD i .non:=by
      have:=hv xs (s.seq h)
      rw [List.getD_eq_getElem?_getD,this]
      rfl
    subst e
    exact k _ (Same.refl _)
  kp:=fun i hi=>(Kp.refl _).set h0
theorem src_tup (h:SqT K H a xs) (h0:σ0[0]?=some none):SrcOk (Itt K a) (gName 0) σ0 H xs.length (fun i=>σ0.set 0 (some (xs.getD i .non))) where
  go:=fun i H' hi s=>⟨xs,xs[i],(SqS.same (tp:=true) h s),by simp [hi]⟩
  stop:=fun H' s=>⟨xs,(SqS.same (tp:=true) h s),Nat.le_refl _⟩
  yld:=fun i H' x H'' R hi s y k=>by
    obtain ⟨e,hv⟩:=y
    subst e
    have e:x=xs.getD i .non:=by
      have:=hv xs (SqS.same (tp:=true) h s)
      rw [List.getD_eq_getElem?_getD,this]
      rfl
    subst e
    exact k _ (Same.refl _)
  kp:=fun i hi=>(Kp.refl _).set h0
theorem src_range {lo:Int} {n:Nat} (h0:σ0[0]?=some none):SrcOk (Itr lo n) (gName 0) σ0 H n (fun i=>σ0.set 0 (some (.int (lo+i)))) where
  go:=fun i H' hi s=>hi
  stop:=fun H' s=>Nat.le_refl _
  yld:=fun i H' x H'' R hi s y k=>by
    obtain ⟨e,hv⟩:=y
    subst e hv
    exact k _ (Same.refl _)
  kp:=fun i hi=>(Kp.refl _).set h0
theorem src_enum (h:SqL K H a xs) (h0:σ0[0]?=some none) (h1:σ0[1]?=some none):SrcOk (Ite K a) (gTup K 2 (gCons (gName 0) (gCons (gName 1) gNil))) σ0 H xs.length (fun i=>(σ0.set 0 (some (.int i))).set 1 (some (xs.getD i .non))) where
  go:=fun i H' hi s=>⟨xs,xs[i],s.seq h,by simp [hi]⟩
  stop:=fun H' s=>⟨xs,s.seq h,Nat.le_refl _⟩
  yld:=fun i H' x H'' R hi s y k=>by
    obtain ⟨p,v,hp,rfl,rfl,hv⟩:=y
    have e:v=xs.getD i .non:=by
      have:=hv xs (s.seq h)
      rw [List.getD_eq_getElem?_getD,this]
      rfl
    subst e
    exact ⟨p,_,rfl,SqT.of upd_same,rfl,_,_,rfl,_,_,rfl,rfl,k _ (same_new hp)⟩
  kp:=fun i hi=>((Kp.refl _).set h0).set h1
theorem src_zs {t1 t2:Bool} (h:SqS t1 K H a xs) (h':SqS t2 K H b zs) (hl:xs.length=zs.length) (h0:σ0[0]?=some none) (h1:σ0[1]?=some none):
    SrcOk (Izs t1 t2 K a b) (gTup K 2 (gCons (gName 0) (gCons (gName 1) gNil))) σ0 H xs.length (fun i=>(σ0.set 0 (some (xs.getD i .non))).set 1 (some (zs.getD i .non))) where
  go:=fun i H' hi s=>⟨xs,zs,xs[i],zs[i]'(by omega),h.same s,h'.same s,by simp [hi],by simp⟩
  stop:=fun H' s=>⟨xs,zs,h.same s,h'.same s, .inl (Nat.le_refl _)⟩
  yld:=fun i H' x H'' R hi s y k=>by
    obtain ⟨p,v,z,hp,rfl,rfl,hv,hz⟩:=y
    have e:v=xs.getD i .non:=by
      have:=hv xs (h.same s)
      rw [List.getD_eq_getElem?_getD,this]
      rfl
    have e2:z=zs.getD i .non:=by
      have:=hz zs (h'.same s)
      rw [List.getD_eq_getElem?_getD,this]
      rfl
    subst e e2
    exact ⟨p,_,rfl,SqT.of upd_same,rfl,_,_,rfl,_,_,rfl,rfl,k _ (same_new hp)⟩
  kp:=fun i hi=>((Kp.refl _).set h0).set h1
end
theorem map_range_getD {α β:Type} (f:α→β) (xs:List α) (d:α):(List.range xs.length).map (fun i=>f (xs.getD i d))=xs.map f:=by
  refine List.ext_getElem (by simp) fun i h1 h2=> ?_
  have hi:i<xs.length:=by simpa using h2
  simp [List.getD_eq_getElem?_getD,hi]
end L2
namespace L2
open PySem PySem.Spec PyProof.Rows
theorem rs_le (a b c:Int) (hc:c≠0):0≤Builtin.Range.rangeSize a b c∧Builtin.Range.rangeSize a b c≤(b - a).natAbs:=by
  unfold Builtin.Range.rangeSize
  split
  · rename_i h
    split
    · rename_i h2
      have h3:0≤(b - a - 1) / c:=Int.ediv_nonneg (by omega) (by omega)
      have h4:(b - a - 1) / c≤b - a - 1:=Int.ediv_le_self _ (by omega)
      omega
    · omega
  · rename_i h
    split
    · rename_i h2
      have h3:0≤(a - b - 1) / (-c):=Int.ediv_nonneg (by omega) (by omega)
      have h4:(a - b - 1) / (-c)≤a - b - 1:=Int.ediv_le_self _ (by omega)
      omega
    · omega
theorem small_3 {a b c:Int} (ha: -(2 ^ 40)≤a∧a<2 ^ 40) (hb: -(2 ^ 40)≤b∧b<2 ^ 40) (hc: -(2 ^ 20)≤c∧c<2 ^ 20) (h0:c≠0):Builtin.Range.small a b c=true:=by
  have h:=rs_le a b c h0
  unfold Builtin.Range.small
  simp only [Builtin.Range.rangeFitsLong,Bool.and_eq_true,Bool.or_eq_true,decide_eq_true_eq,beq_iff_eq]
  generalize Builtin.Range.rangeSize a b c=n at h
  have hn:(b - a).natAbs<2 ^ 42:=by omega
  refine ⟨⟨⟨⟨by omega,by omega⟩,by omega⟩,by omega⟩, .inr ?_⟩
  split <;> rw [Bool.and_eq_true,decide_eq_true_eq,decide_eq_true_eq] <;> omega
def Itc (lo c:Int) (n:Nat):It:=⟨fun i _=>i<n,fun i H x H'=>H'=H∧x= .int (lo+i*c),fun i _=>n≤i⟩
theorem turn_rangeC {P:Program} {w:World} {K:PySem.W.Frag} {tg:Expr} (it:Addr) (lo c:Int) (n:Nat):Turn P w K tg (Itc lo c n) [it] it (fun i h=>IsRangeIter h it (lo+(i:Nat)*c) ((n:Int) - (i:Nat)) c) where
  mem:=by simp
  obj:=fun i h st b hb=>by
    have e:b=it:=by simpa using hb
    subst e
    exact ⟨_,st,fun v z=>by cases (show Data.fields _=Data.cell v from z)⟩
  keep:=fun i h h' st k=>k it (by simp) _ st
  item:=by
    intro X hP hw hK hc i pins s σ H E I hf st hg
    subst hP hw hK
    obtain ⟨f0,f1,f2,f3,f4,f5⟩:=hf it (by simp)
    have W:=Walks.range (prog:=X.prog) (w:=X.w) (I.ok.hd hc) it lo c n
    refine W.item i s _ _ hg st fun v h' tk hv st' kk=> ?_
    obtain ⟨t,rfl⟩:=hv
    have I1:Inv X pins σ H { s with heap:=h',toks:=tk }:=I.turned (fun b o hb e=>kk b o (by simpa using hb) e) f0 f1 f3 f4 f5
    exact ⟨_,rfl,go_of (s:={ s with heap:=h',toks:=tk }) (n:="range_iterator") st' rfl rfl (by decide) ⟨.int (lo+i*c),H,I1,⟨t,rfl⟩,⟨rfl,rfl⟩,st',fun b hb=>(hf b hb).1⟩⟩
  done:=by
    intro X hP hw hK hc i pins s σ H E I hf st hg
    subst hP hw hK
    obtain ⟨f0,f1,f2,f3,f4,f5⟩:=hf it (by simp)
    exact wpAny_pyNext_range_end (I.ok.hd hc) st (by have:n≤i:=hg;omega) fun h' eb=>⟨rfl,I.turned (t':=s.toks) (fun b o hb e=>eb b o hb e) f0 f1 f3 f4 f5⟩
  self:=fun _ _ _ _ _ st h=>wpAny_pyIter_rangeiter st h
section
variable {X:Cx} {tg:Expr}
def iRng3 (ta:TA):TI:=fun σ H R=>ta σ H fun vs H1=>∃ i j c:Int,vs=[.int i, .int j, .int c]∧(-(2 ^ 40)≤i∧i<2 ^ 40)∧(-(2 ^ 40)≤j∧j<2 ^ 40)∧(-(2 ^ 20)≤c∧c<2 ^ 20)∧c≠0∧R (Itc i c (Builtin.Range.rangeSize i j c).toNat) H1
theorem pi_range3 {a b c:Expr} {ta:TA} {p pos:Pos} (hg:Gl X "range") (hm:X.mg "range"=none) (ha:PA X [a,b,c] ta) (hs:starEach [a,b,c] X.env=[(false,eval a X.env),(false,eval b X.env),(false,eval c X.env)]:=by rfl)
    (hs2:starEach [b,c] X.env=[(false,eval b X.env),(false,eval c X.env)]:=by rfl):PI X tg (.Call (.Name "range" p) [a,b,c] [] pos) (iRng3 ta):=by
  intro pins s σ H R I h
  refine Call_ (ld_blt I hg hm boot_range (PyProof.Rows.callWith_type1 (thn (ha pos pins s σ H _ I h) fun us s1 ⟨vs,H1,I1,r1,q1⟩=> ?_) (by rw [hs,hs2]) (by rw [hs2];rfl)))
  obtain ⟨i,j,k,e,h1,h2,h3,h0,q⟩:=q1
  subst e
  cases r1 with
  | cons r rr=>
    cases rr with
    | cons r' rr=>
      cases rr with
      | cons r'' rr=>
        cases rr
        obtain ⟨t,rfl⟩:=r
        obtain ⟨t',rfl⟩:=r'
        obtain ⟨t'',rfl⟩:=r''
        refine call_range_3 h0 ?_ (.inl (PyProof.noPylong_small (by omega)))
        refine wpAny_pyIter_range (IsRange.new ..) (small_3 h1 h2 h3 h0) ?_
        have I2:Inv X pins σ H1 { s1 with heap:=s1.heap.push { cls:= .type "range",data:= .fields #[.int i t, .int j t', .int k t''] },toks:=s1.toks }:=I1.kept fun b o e=>Heap.get?_push_of_some _ e
        refine ⟨(s1.heap.push { cls:= .type "range",data:= .fields #[.int i t, .int j t', .int k t''] }).objs.size,[(s1.heap.push { cls:= .type "range",data:= .fields #[.int i t, .int j t', .int k t''] }).objs.size],_,_,H1,rfl,
          I2.kept (t':=s1.toks) fun b o e=>Heap.get?_push_of_some _ e,turn_rangeC _ i k (Builtin.Range.rangeSize i j k).toNat,?_,fun b hb=> ?_,q⟩
        · have e1:i+((0:Nat):Int)*k=i:=by simp
          have e2:(((Builtin.Range.rangeSize i j k).toNat:Nat):Int) - ((0:Nat):Int)=Builtin.Range.rangeSize i j k:=by have:=(rs_le i j k h0).1;omega
          show IsRangeIter _ _ (i+((0:Nat):Int)*k) ((((Builtin.Range.rangeSize i j k).toNat:Nat):Int) - ((0:Nat):Int)) k
          rw [e1,e2]
          exact Heap.get?_push_size _ rfl
        · have e:b=(s1.heap.push { cls:= .type "range",data:= .fields #[.int i t, .int j t', .int k t''] }).objs.size:=by simpa using hb
          subst e
          exact I2.fpOk (Nat.le_refl _) (I2.hok.fresh (Nat.le_refl _))
theorem src_rangeC {lo c:Int} {n:Nat} {σ0:St} {H:Hp} (h0:σ0[0]?=some none):SrcOk (Itc lo c n) (gName 0) σ0 H n (fun i=>σ0.set 0 (some (.int (lo+i*c)))) where
  go:=fun i H' hi s=>hi
  stop:=fun H' s=>Nat.le_refl _
  yld:=fun i H' x H'' R hi s y k=>by
    obtain ⟨e,hv⟩:=y
    subst e hv
    exact k _ (Same.refl _)
  kp:=fun i hi=>(Kp.refl _).set h0
def rIntB:List V→Hp→VK→Prop:=fun xs H Q=>∃ b:Bool,xs=[.bl b]∧Q (.int (if b=true then 1 else 0)) H
end
end L2
namespace L2
open PySem PySem.Spec PyProof.Rows
theorem k_intB {X:Cx}:CallR X (.type "int") rIntB:=by
  intro pins s σ H xs us Q I r h
  obtain ⟨b,rfl,q⟩:=h
  exact call_int1 pins s σ H _ us Q I r (.inr ⟨b,rfl,q⟩)
end L2
namespace L2
open PySem PySem.Spec PyProof.Rows
section
variable {X:Cx} {K:PySem.W.Frag} {e st:Expr} {te ts:TE} {pos p2:Pos}
end
end L2
namespace MM
theorem snoc_ind {α:Type} {p:List α→Prop} (h0:p []) (h1:∀ l a,p l→p (l++[a])):∀ l,p l:=fun l=>by
  have h:∀ r:List α,p r.reverse:=fun r=>by
    induction r with
    | nil=>exact h0
    | cons a r ih=>rw [List.reverse_cons];exact h1 _ _ ih
  have:=h l.reverse
  rwa [List.reverse_reverse] at this
theorem or_add_and (a:Nat):∀ b:Nat,(a ||| b)+(a &&& b)=a+b:=by
  induction a using Nat.strongRecOn with
  | ind a ih=>
    intro b
    by_cases h:a=0
    · subst h;simp
    · have ih':=ih (a / 2) (by omega) (b / 2)
      have e1:(a ||| b)=2*((a ||| b) / 2)+(a ||| b)%2:=by omega
      have e2:(a &&& b)=2*((a &&& b) / 2)+(a &&& b)%2:=by omega
      have d1:(a ||| b) / 2=a / 2 ||| b / 2:=by simpa using Nat.or_div_two (a:=a) (b:=b)
      have d2:(a &&& b) / 2=a / 2 &&& b / 2:=by simpa using Nat.and_div_two (a:=a) (b:=b)
      have m1:(a ||| b)%2+(a &&& b)%2=a%2+b%2:=by
        have z:∀ x:Nat,x%2=(x.testBit 0).toNat:=fun x=>by rw [Nat.toNat_testBit];simp
        rw [z (a ||| b),z (a &&& b),z a,z b,Nat.testBit_or,Nat.testBit_and]
        cases a.testBit 0 <;> cases b.testBit 0 <;> rfl
      rw [d1] at e1
      rw [d2] at e2
      omega
def ofB (f:Nat→Bool):Nat→Nat
  | 0=>0
  | w+1=>ofB f w+(f w).toNat*2 ^ w
theorem ofB_lt (f:Nat→Bool):∀ w,ofB f w<2 ^ w
  | 0=>by simp [ofB]
  | w+1=>by
    have:=ofB_lt f w
    unfold ofB
    rw [Nat.pow_succ]
    cases f w <;> simp <;> omega
theorem ofB_bit (f:Nat→Bool):∀ w i,(ofB f w).testBit i=(decide (i<w)&&f i)
  | 0,i=>by simp [ofB]
  | w+1,i=>by
    have hl:=ofB_lt f w
    unfold ofB
    have e:ofB f w+(f w).toNat*2 ^ w=2 ^ w*(f w).toNat+ofB f w:=by rw [Nat.mul_comm];omega
    rw [e,Nat.testBit_two_pow_mul_add _ hl]
    by_cases h:i<w
    · rw [if_pos h,ofB_bit f w i]
      simp [h,Nat.lt_succ_of_lt h]
    · rw [if_neg h]
      by_cases h2:i=w
      · subst h2
        cases f i <;> simp
      · have h3:¬ i<w+1:=by omega
        have h4:i - w≠0:=by omega
        have h5:(1:Nat).testBit (i - w)=false:=by
          obtain ⟨d,hd⟩:∃ d,i - w=d+1:=⟨i - w - 1,by omega⟩
          rw [hd,Nat.testBit_succ]
          simp
        cases f w
        · simp [h3]
        · simp only [Bool.toNat_true,h5,h3,decide_false,Bool.false_and]
theorem bit_div (m e:Nat):m / 2 ^ e%2=(m.testBit e).toNat:=by
  rw [Nat.testBit_eq_decide_div_mod_eq]
  have:m / 2 ^ e%2<2:=Nat.mod_lt _ (by decide)
  by_cases h:m / 2 ^ e%2=1
  · simp [h]
  · have:m / 2 ^ e%2=0:=by omega
    simp [this]
def mOf (ns:List Nat):Nat:=ns.foldl (fun m n=>m ||| 2 ^ (n - 1)) 0
theorem mOf_snoc (ns:List Nat) (n:Nat):mOf (ns++[n])=mOf ns ||| 2 ^ (n - 1):=by unfold mOf;rw [List.foldl_append];rfl
theorem mOf_bit (ns:List Nat) (i:Nat):(mOf ns).testBit i=ns.any fun n=>decide (n - 1=i):=by
  refine snoc_ind (p:=fun ns=>(mOf ns).testBit i=ns.any fun n=>decide (n - 1=i)) (by simp [mOf]) (fun l a ih=> ?_) ns
  · rw [mOf_snoc,Nat.testBit_or,ih,List.any_append,Nat.testBit_two_pow]
    simp
theorem mOf_lt {ns:List Nat} {w:Nat} (h:∀ n∈ns,n - 1<w):mOf ns<2 ^ w:=by
  refine Nat.lt_pow_two_of_testBit _ fun i hi=> ?_
  rw [mOf_bit,List.any_eq_false]
  intro n hn
  have:=h n hn
  simp
  omega
def uOf (ms:List Nat):Nat:=ms.foldl (fun m n=>m ||| n) 0
theorem uOf_snoc (ns:List Nat) (n:Nat):uOf (ns++[n])=uOf ns ||| n:=by unfold uOf;rw [List.foldl_append];rfl
theorem uOf_bit (ns:List Nat) (i:Nat):(uOf ns).testBit i=ns.any fun n=>n.testBit i:=by
  refine snoc_ind (p:=fun ns=>(uOf ns).testBit i=ns.any fun n=>n.testBit i) (by simp [uOf]) (fun l a ih=> ?_) ns
  rw [uOf_snoc,Nat.testBit_or,ih,List.any_append];simp
def bits (m:Nat):Nat:=if m=0 then 0 else m.log2+1
theorem bits_lt (m:Nat):m<2 ^ bits m:=by
  unfold bits
  split
  · subst_vars;decide
  · exact Nat.lt_log2_self
theorem bits_le {m w:Nat} (h:m<2 ^ w):bits m≤w:=by
  unfold bits
  split
  · exact Nat.zero_le _
  · rename_i h0
    exact (Nat.log2_lt h0).mpr h
def nOf (m:Nat):List Nat:=((List.range (bits m)).filter m.testBit).map (· + 1)
theorem nOf_mem (m n:Nat):n∈nOf m↔1≤n∧m.testBit (n - 1)=true:=by
  unfold nOf
  simp only [List.mem_map,List.mem_filter,List.mem_range]
  constructor
  · rintro ⟨k,⟨_,h⟩,rfl⟩
    exact ⟨by omega,by simpa using h⟩
  · rintro ⟨h1,h2⟩
    refine ⟨n - 1,⟨?_,h2⟩,by omega⟩
    rcases Nat.lt_or_ge (n - 1) (bits m) with q | q
    · exact q
    · rw [Nat.testBit_lt_two_pow (Nat.lt_of_lt_of_le (bits_lt m) (Nat.pow_le_pow_right (by decide) q))] at h2
      cases h2
theorem nOf_wide {m w:Nat} (h:m<2 ^ w):nOf m=((List.range w).filter m.testBit).map (· + 1):=by
  unfold nOf
  have hb:=bits_le h
  obtain ⟨d,rfl⟩:∃ d,w=bits m+d:=⟨w - bits m,by omega⟩
  congr 1
  rw [List.range_add,List.filter_append]
  have e:((List.range d).map (bits m+ ·)).filter m.testBit=[]:=by
    rw [List.filter_eq_nil_iff]
    intro x hx
    obtain ⟨k,_,rfl⟩:=List.mem_map.mp hx
    rw [Nat.testBit_lt_two_pow (Nat.lt_of_lt_of_le (bits_lt m) (Nat.pow_le_pow_right (by decide) (Nat.le_add_right _ _)))]
    simp
  rw [e,List.append_nil]
theorem nOf_len {m w:Nat} (h:m<2 ^ w):(nOf m).length≤w:=by
  rw [nOf_wide h,List.length_map]
  exact Nat.le_trans (List.length_filter_le _ _) (by simp)
end MM
namespace L2
open PySem PySem.Spec PyProof.Rows
section
variable {X:Cx}
theorem pe_gI {x:Str} {i:Int} {pos:Pos} (h:∃ t,X.mg x=some (.int i t)) (hg:Gl X x:=by rfl) (hd:(x == ("__debug__":Str))=false:=by decide):PE X (.Name x pos) (tC (.int i)):=by
  obtain ⟨t,e⟩:=h
  exact pe_glob hg e ⟨t,rfl⟩ hd
theorem pe_gS {x z:Str} {pos:Pos} (h:∃ t,X.mg x=some (.str z t)) (hg:Gl X x:=by rfl) (hd:(x == ("__debug__":Str))=false:=by decide):PE X (.Name x pos) (tC (.str z)):=by
  obtain ⟨t,e⟩:=h
  exact pe_glob hg e ⟨t,rfl⟩ hd
end
section
variable {H:Hp} {Q:VK} {σ:St} {td ty tv:TE} {D:Ends} {a:Addr} {kvs:List (Key × V)}
theorem rd_dget (h:td σ H fun x H1=>ty σ H1 fun y H2=>∃ a v,x= .ref a∧DGet H2 a y (some v)∧Q v H2):tDGet td ty σ H Q:=h
theorem rd_disp {trs:List (TE × TE)} (h:∀ p,H p=none→tPairs trs σ (upd H p (.dK [])) fun ps H2=>H2 p=some (.dK [])∧∃ kvs:List (Key × V),ps=kvs.map (fun kv=>(kV kv.1,kv.2))∧kvs.length≤15∧Q (.ref p) (upd H2 p (.dK (mergeK [] kvs)))):tDisp trs σ H Q:=h
theorem rd_pnil {R:List (V × V)→Hp→Prop} (h:R [] H):tPairs [] σ H R:=h
theorem rd_pcons {tk tw:TE} {r:List (TE × TE)} {R:List (V × V)→Hp→Prop} (h:tk σ H fun x H1=>tw σ H1 fun y H2=>tPairs r σ H2 fun ps H3=>R ((x,y)::ps) H3):tPairs ((tk,tw)::r) σ H R:=h
end
theorem Room.units1 {k:Nat} {A:Around} (r:Room k A):A.units+1<cLine:=by have:=r.un;omega
section
variable {H:Hp} {Q:VK} {σ:St} {K:PySem.W.Frag} {to:TE} {t:TA} {r:V→List V→Hp→VK→Prop} {T:String} {l p q:Addr} {xs ys:List V} {y:V}
theorem rd_bm0 (h:to σ H fun x H1=>tyV K T x H1∧r x [] H1 Q):tBM0 K T r to σ H Q:=h
theorem rd_bm (h:to σ H fun x H1=>tyV K T x H1∧t σ H1 fun xs H2=>r x xs H2 Q):tBM K T r to t σ H Q:=h
theorem tyI {B:Prop} {i:Int} (h:B):tyV K "int" (.int i) H∧B:=⟨rfl,h⟩
theorem rd_cat (c:SqL K H l xs) (d:SqL K H p ys) (b:xs.length+ys.length≤16777216) (h:∀ q,H q=none→Q (.ref q) (upd H q (.lst (xs++ys)))):rCatS K (.ref l) (.ref p) H Q:=⟨l,p,xs,ys,rfl,rfl,c,d,by rw [sizeLine_eq];exact b,h⟩
theorem rd_rep {k:Int} (c:H l=some (.lst xs)) (b1:0≤k) (b2:k≤100000) (b3:xs.length≤100) (h:∀ q,H q=none→Q (.ref q) (upd H q (.lst (List.replicate k.toNat xs).flatten))):rRep (.ref l) (.int k) H Q:=
  ⟨l,k,xs,rfl,rfl,c,by omega,by omega,by
    rw [sizeLine_eq]
    have h1:k.toNat≤100000:=by omega
    exact Nat.le_trans (Nat.mul_le_mul b3 h1) (by decide),h⟩
theorem rd_eqLI {as bs:List Int} (c:SqL K H l (as.map V.int)) (d:SqL K H p (bs.map V.int)) (h:Q (.bl (decide (as=bs))) H):rEqL K false (.ref l) (.ref p) H Q:=
  ⟨l,p,_,_,rfl,rfl,c,d,flat_int as,flat_int bs,by rw [eqVs_int];exact h⟩
theorem rd_listOf {z:Addr} (c:SqL K H z xs) (h:∀ q,H q=none→Q (.ref q) (upd H q (.lst xs))):rListOf K [.ref z] H Q:=⟨z,xs,rfl, .inl c,h⟩
theorem rd_listOfT {z:Addr} (c:SqT K H z xs) (h:∀ q,H q=none→Q (.ref q) (upd H q (.lst xs))):rListOf K [.ref z] H Q:=⟨z,xs,rfl, .inr c,h⟩
theorem rd_tupOf {z:Addr} (c:SqL K H z xs) (h:∀ q,H q=none→Q (.ref q) (upd H q (.tup xs))):rTupleOf K [.ref z] H Q:=⟨z,xs,rfl, .inl ⟨c,h⟩⟩
end
end L2
namespace L2
open PySem
open Sem (wp)
open AutoSeq1 (wpAny_loadPart')
section
variable {prog:Program} {w:World} {A:Around} {E:Value→Shared→Prop} {s:Shared}
theorem typeCall_kw {T newId:String} {Bn:Builtin} {v:Value} {x:Str} {u:Value} {Q:Value→Shared→Prop} (ft:TypeCalled T newId "object.__init__") (hne:(some newId != some "object.__new__")=true)
    (hct:checkTypeCall T ⟨[v],[(x,u)]⟩=pure ()) (hcn:checkBuiltinCall newId ⟨[.type T,v],[(x,u)]⟩=pure ()) (hok:∀ obj,argsOk "object.__init__" ⟨[obj,v],[(x,u)]⟩) (entryN:entryFor table newId=some Bn)
    (g:wpAny (model prog w) A.in1.in1 (Bn ⟨[.type T,v],[(x,u)]⟩) (fun fin s1=>∃ obj,fin= .done (.ret obj)∧s1.TypeIs obj T∧Q obj s1) E s):wpAny (model prog w) A (call (.type T) [v] [(x,u)]) Q E s:=by
  obtain ⟨c,tl,hmro⟩:=ft.mro
  have hmade:=ft.made
  have hsub:=ft.sub
  refine wpAny_call (codeAny_of_tree ?_)
  show wpAny _ _ (callAny (.type T) _) _ _ _
  refine wpAny_pure ⟨Code.quiet_builtin _ (by decide +kernel),codeAny_builtin F.entry_type_call ?_⟩
  rw [Around.under_plain (weight_type_call_type T [v] [(x,u)]) (units_type_call_type T [v] [(x,u)])]
  have h1:=ft.notType
  have h2:=ft.canCreate
  repeat (any_goals (first | assumption | wp_step))
  refine codeAny_call_builtin ft.plain entryN (wpAny_of_eq hcn (wpAny_mono g (fun fin s1 q=> ?_) fun _ _ q=>q))
  obtain ⟨obj,rfl,hT,q⟩:=q
  have hli:=ft.init.lookup
  have hbi:=ft.init.bind obj
  show wpAny _ _ _ _ _ _
  repeat (any_goals (first | assumption | wp_step))
  refine codeAny_call_builtin ft.init.plain F.entry_object_init (ft.init.check _ _ _ _ _ _ _ _ hT (hok obj) ?_)
  repeat (any_goals (first | assumption | wp_step))
  trace_state
theorem new_enum_kw {v:Value} {t:Tok} {Q:Value→Shared→Prop}
    (h:wpAny (model prog w) A (pyIter v) (fun itv s1=>Q (.ref s1.heap.objs.size) { s1 with heap:=s1.heap.push { cls:= .type "enumerate",data:= .fields #[.none, .bool false,itv,rawInt 1, .none, .none] } }) E s):
    wpAny (model prog w) A (Builtin.«enumerate.__new__» ⟨[.type "enumerate",v],[("start", .int 1 t)]⟩) (fun fin s1=>∃ obj,fin= .done (.ret obj)∧Q obj s1) E s:=by
  have hsub:=sub_enumerate
  have hit:∀ {R:Value→Shared→Prop},(∀ itv s1,Q (.ref s1.heap.objs.size) { s1 with heap:=s1.heap.push { cls:= .type "enumerate",data:= .fields #[.none, .bool false,itv,rawInt 1, .none, .none] } }→R itv s1)→wpAny (model prog w) A (pyIter v) R E s:=fun k=>wpAny_mono h k fun _ _ q=>q
  unfold Builtin.«enumerate.__new__»
  wp_walk
  refine wpAny_stack_any fun st=>wpAny_pure ?_
  split
  · rename_i c _ _ _ _ _
    cases (c == Value.type "enumerate")
    · wp_walk using hit
      intro itv s1 q
      wp_walk
      exact ⟨_,rfl,q⟩
    · wp_walk using hit
      intro itv s1 q
      wp_walk
      exact ⟨_,rfl,q⟩
  · wp_walk using hit
    intro itv s1 q
    wp_walk
    exact ⟨_,rfl,q⟩
theorem call_enumS {v:Value} {t:Tok} {Q:Value→Shared→Prop}
    (h:wpAny (model prog w) A.in1.in1 (pyIter v) (fun itv s1=>∃ it,itv= .ref it∧∀ h',IsEnum h' s1.heap.objs.size it 1 .none→(∀ b o,s1.heap.get? b=some o→h'.get? b=some o)→h'.objs.size=s1.heap.objs.size+1→Q (.ref s1.heap.objs.size) { s1 with heap:=h' }) E s):
    wpAny (model prog w) A (call (.type "enumerate") [v] [("start", .int 1 t)]) Q E s:=by
  refine typeCall_kw F.called_enumerate (by decide) (by kernel_rfl) (by kernel_rfl) (fun obj=>by unfold argsOk;kernel_rfl) F.entry_enumerate_new (new_enum_kw (wpAny_mono h (fun itv s1 q=> ?_) fun _ _ q=>q))
  obtain ⟨it,rfl,q⟩:=q
  refine ⟨⟨_,Heap.get?_push_size _ rfl,rfl⟩,q _ (Heap.get?_push_size _ rfl) (fun b o e=>Heap.get?_push_of_some _ e) (Heap.size_push ..)⟩
end
theorem shiftD {prog:Program} {w:World} {A:Around} {it:Addr} {fp:List Addr} {n:Nat} {Pv:Nat→Value→Prop} {St:Nat→Heap→Prop} (k:Nat) (D:Draws prog w A it fp n Pv St):
    Draws prog w A it fp (n+k) (fun i v=>∃ j,i=j+k∧Pv j v) (fun i h=>∃ j,i=j+k∧St j h) where
  live:=fun i h ⟨j,_,st⟩=>D.live j h st
  frame:=fun i h h' ⟨j,e,st⟩ q=>⟨j,e,D.frame j h h' st q⟩
  item:=fun i s Q E hi ⟨j,e,st⟩ hQ=>D.item j s Q E (by omega) st fun x h' tk p st' sb=>hQ x h' tk ⟨j,e,p⟩ ⟨j+1,by omega,st'⟩ sb
  done:=fun s Q E ⟨j,e,st⟩ hE=>D.done s Q E (by
    have q:j=n:=by omega
    rw [q] at st
    exact st) hE
theorem kwCall_type {M:Model} {A:Around} {E:Value→Shared→Prop} {s:Shared} {pos:Pos} {T:String} {args:List (Bool × Sem Value)} {kws:List (Option Str × Sem Value)} {Q:Value→Shared→Prop}
    (hp:args.any (·.1)=false) (hk:kws.any (·.1.isNone)=false) (h:wpAny M A (evalArgs (.type T) true args kws) (fun a s1=>wpAny M A (call (.type T) a.pos a.kw) Q E s1) E s):wpAny M A (callWith pos (.type T) [] args kws) Q E s:=by
  unfold callWith
  refine wpAny_bind (wpAny_holding (wpAny_mono h (fun a s1 h1=>wpAny_bind (wpAny_standAt ?_)) fun _ _ q=>q))
  simp only [hp,hk,Bool.or_false]
  refine wpAny_bind (wpAny_pure ?_)
  refine wpAny_bind (wpAny_mono h1 (fun r s2 hr=> ?_) fun _ _ q=>q)
  exact wpAny_bind (wpAny_holding (wpAny_point (wpAny_pure hr)))
end L2
namespace L2
open PySem PySem.Spec PyProof.Rows
theorem drawsS {prog:Program} {w:World} {A:Around} (hh:A.handled=none) (tp:Bool) (it l:Addr) (hne:l≠it) (items:Array Value):
    Draws prog w A it [it,l] items.size (fun i v=>items[i]?=some v) (fun i h=>SrcIt tp h it l i∧SrcSq tp h l items) where
  live:=fun _ _ st=>let ⟨o,e,_⟩:=srcIt_obj st.1;⟨o,e⟩
  frame:=fun _ _ _ st hk=>⟨srcIt_at st.1 fun o e=>hk it (by simp) o e,srcSq_at st.2 fun o e=>hk l (by simp) o e⟩
  item:=fun i s Q E hi st hQ=>src_item st.1 st.2 (x:=items[i]) (by simp [hi]) fun h' hit sb=>hQ _ h' s.toks (by simp [hi]) ⟨hit,srcSq_at st.2 fun o e=>(sb.2 l hne).trans e⟩ sb
  done:=fun s Q E st hE=>src_end hh st.1 st.2 (by simp) hE
def IteS (tp:Bool) (K:PySem.W.Frag) (a:Addr):It:=
  ⟨fun i H=>∃ xs x,SqS tp K H a xs∧xs[i]?=some x,fun i H v H'=>∃ p x,H p=none∧v= .ref p∧H'=upd H p (.tup [.int ((i+1:Nat):Int),x])∧∀ xs,SqS tp K H a xs→xs[i]?=some x,fun i H=>∃ xs,SqS tp K H a xs∧xs.length≤i⟩
theorem turn_enumS {P:Program} {w:World} {K:PySem.W.Frag} {elts:List Expr} {k:Nat} {pos:Pos} (tp:Bool) (a e it:Addr) (hne:e≠it):
    Turn P w K (.Tuple elts k pos) (IteS tp K a) [e,it] e (fun i h=>(∃ old,IsEnum h e it ((i+1:Nat):Int) old)∧SrcIt tp h it a i) where
  mem:=by simp
  obj:=fun i h st b hb=>by
    obtain ⟨⟨old,he⟩,hi⟩:=st
    obtain ⟨o,eo,d⟩:=srcIt_obj hi
    rcases List.mem_cons.mp hb with z | z
    · subst z
      exact ⟨_,he,fun v z=>by cases (show Data.fields _=Data.cell v from z)⟩
    · have z:b=it:=by simpa using z
      subst z
      exact ⟨o,eo,fun v z=>by rw [d] at z;cases z⟩
  keep:=fun i h h' st kp=>by
    obtain ⟨⟨old,he⟩,hi⟩:=st
    exact ⟨⟨old,kp e (by simp) _ he⟩,srcIt_at hi fun o z=>kp it (by simp) o z⟩
  item:=by
    intro X hP hw hK hc i pins s σ H E I hf st hg
    subst hP hw hK
    obtain ⟨xs,x,hq,hx⟩:=hg
    obtain ⟨its,rv,p⟩:=sqS_src I hq
    obtain ⟨u,hu,ru⟩:=rv.get hx
    obtain ⟨⟨old,he⟩,hi⟩:=st
    obtain ⟨oi,ei,di⟩:=srcIt_obj hi
    obtain ⟨oa,na,ea,da⟩:=srcSq_obj p
    have hel:e<s.heap.objs.size:=Heap.lt_size he
    have hil:it<s.heap.objs.size:=Heap.lt_size ei
    have nia:a≠it:=fun z=>by
      subst z
      rw [ei] at ea
      cases ea
      rw [di] at da
      cases da
    have nea:e≠a:=fun z=>by
      subst z
      rw [show s.heap.get? e=_ from he] at ea
      cases ea
      cases (show Data.fields _=Data.seq _ _ from da)
    have hlt:i<its.toArray.size:=by
      have:=(List.getElem?_eq_some_iff.mp hu).1
      simpa using this
    have D:=shiftD 1 (drawsS (prog:=X.prog) (w:=X.w) (A:=X.A.in1) (I.ok.hd hc) tp it a nia its.toArray)
    refine wpAny_pyNext_enum_itemD (i:=i+1) D he ⟨i,rfl,hi,p⟩ (by omega) hne (by simp [hne,nea]) fun v h' tk pv ho st' hT hsz hk=> ?_
    obtain ⟨j,ej,ev⟩:=pv
    obtain ⟨j2,ej2,hi',p'⟩:=st'
    have ej:j=i:=by omega
    have ej2:j2=i+1:=by omega
    subst ej ej2
    have ev:v=u:=by
      rw [show its.toArray[j]?=some u by simpa using hu] at ev
      exact (Option.some.inj ev).symm
    subst ev
    have I0:=I.laid (h':=s.heap.push { cls:= .type "tuple",data:= .seq #[.int ((j+1:Nat):Int) tk,v] }) (a:=s.heap.objs.size) (o:= .tup [.int ((j+1:Nat):Int),x]) (t':=tk+1) (fun _ _ q=>Heap.get?_push_of_some _ q) (Nat.le_refl _)
      ⟨(by show 2≤sizeLine;decide),[.int ((j+1:Nat):Int) tk,v], .cons ⟨_,rfl⟩ (.cons ru .nil),⟨_,Heap.get?_push_size _ rfl,rfl,_,rfl⟩⟩
    have f0:∀ b∈[e,it],FpOk X pins (upd H s.heap.objs.size (.tup [.int ((j+1:Nat):Int),x])) b:=fun b hb=>fp_upd (hf b hb) (by
      rcases List.mem_cons.mp hb with z | z
      · rw [z];exact Nat.ne_of_lt hel
      · rw [show b=it by simpa using z];exact Nat.ne_of_lt hil)
    have I1:=Inv.turnedL (t':=tk+1) (h':=h') [e,it] I0 f0 (fun b o hb z=>by
      have hb1:b≠e:=fun q=>hb (by simp [q])
      have hb2:b≠it:=fun q=>hb (by simp [q])
      rcases Heap.get?_push_cases (show (s.heap.push { cls:= .type "tuple",data:= .seq #[.int ((j+1:Nat):Int) tk,v] }).get? b=some o from z) with ⟨q1,q2⟩ | q
      · rw [q1,q2];exact hT
      · exact hk b o hb1 hb2 q)
    refine ⟨.ref s.heap.objs.size,rfl,wpAny_letOwnedTupleGo_enum (s:={ s with heap:=h',toks:=tk+1 }) ho fun h2 he2 sb=> ?_⟩
    exact ⟨.ref s.heap.objs.size,_,Inv.turnedL (t':=tk+1) (h':=h2) [e,it] I1 f0 (fun b o hb z=>(sb.2 b fun q=>hb (by simp [q])).trans z),rfl,⟨_,x,I.fresh,rfl,rfl,fun ys hy=>by rw [sqS_inj I hy hq];exact hx⟩,
      ⟨⟨v,by simpa using he2⟩,srcIt_at hi' fun o z=>(sb.2 it hne.symm).trans z⟩,fun b hb=>(f0 b hb).1⟩
  done:=by
    intro X hP hw hK hc i pins s σ H E I hf st hg
    subst hP hw hK
    obtain ⟨xs,hq,hx⟩:=hg
    obtain ⟨its,rv,p⟩:=sqS_src I hq
    obtain ⟨⟨old,he⟩,hi⟩:=st
    obtain ⟨oi,ei,di⟩:=srcIt_obj hi
    obtain ⟨oa,na,ea,da⟩:=srcSq_obj p
    have hT:s.TypeIs (.ref e) "enumerate":=⟨_,he,rfl⟩
    have hl:=rv.length
    unfold pyNext
    refine wpAny_bind (wpAny_attempt (wpAny_callSpecial?_slot (name:=Str.ofString "__next__") hT F.slot_enumerate_next (wpAny_call_entry F.slot_enumerate_next hT F.entry_enumerate_next ?_ (F.args_enumerate_next_1 _))))
    show wpAny _ _ (field (.ref e) 2 >>= _) _ _ _
    refine wpAny_bind (wpAny_field he rfl (x:= .ref it) rfl ?_)
    refine wpAny_bind (src_end (A:=X.A.in1) (I.ok.hd hc) hi p (by simp;omega) fun h' x eb hx'=> ?_)
    obtain ⟨o,ho,hc2⟩:=hx'
    exact wpAny_bind (wpAny_isInstance (T:="StopIteration") (b:=true) ⟨o,ho,hc2⟩ isSubtype_stop (wpAny_pure ⟨rfl,I.turnedL (t':=s.toks) [e,it] hf fun b o hb z=>eb b o (fun q=>hb (by simp [q])) z⟩))
  self:=fun _ _ _ _ _ st h=>by
    obtain ⟨⟨old,he⟩,_⟩:=st
    exact wpAny_pyIter_enum he h
section
variable {X:Cx} {elts:List Expr} {k:Nat} {tpos:Pos} {K:PySem.W.Frag}
def iEnumS (K:PySem.W.Frag) (ta:TA):TI:=fun σ H R=>ta σ H fun vs H1=>∃ tp a,vs=[.ref a]∧(∃ xs,SqS tp K H1 a xs)∧R (IteS tp K a) H1
theorem pi_enumS {l:Expr} {ta:TA} {p pos kp cp:Pos} {cj:Nat} (hg:Gl X "enumerate") (hm:X.mg "enumerate"=none) (ha:PA X [l] ta) (hK:X.K=K:=by rfl) (hs:starEach [l] X.env=[(false,eval l X.env)]:=by rfl):
    PI X (.Tuple elts k tpos) (.Call (.Name "enumerate" p) [l] [⟨some "start", .Constant (.int 1) cj cp,kp⟩] pos) (iEnumS K ta):=by
  subst hK
  intro pins s σ H R I h
  refine wpAny_Call_Name_kw (ld_blt I hg hm boot_enum (kwCall_type (by rw [hs];rfl) rfl (PyProof.Rows.evalArgs_kw2 rfl ?_ (by rw [hs];rfl))))
  refine thn (ha pos pins s σ H _ I h) fun us s1 ⟨vs,H1,I1,r1,q1⟩=>PyProof.Rows.kwAll_cons ?_
  refine pe_int pins s1 σ H1 (fun v H2=>v= .int 1∧H2=H1) I1 ⟨rfl,rfl⟩ |> fun z=>thn z fun u s2 ⟨v,H2,I2,r2,ev,eh⟩=> ?_
  subst ev eh
  obtain ⟨t,rfl⟩:=r2
  refine PyProof.Rows.kwAll_nil ?_
  obtain ⟨tp,a,e,⟨xs,hq⟩,q⟩:=q1
  subst e
  cases r1 with
  | cons r rr=>
    cases rr
    cases r
    obtain ⟨its,rv,pl⟩:=sqS_src I2 hq
    refine call_enumS ?_
    refine src_iter pl ⟨_,rfl,fun h' he hk hsz=> ?_⟩
    refine wpAny_pyIter_enum he ?_
    have hz:(s2.heap.push { cls:= .type (srcTy tp),data:= .fields #[.ref a, .int 0 0] }).objs.size=s2.heap.objs.size+1:=Heap.size_push ..
    have hk2:∀ b o,s2.heap.get? b=some o→h'.get? b=some o:=fun b o z=>hk b o (Heap.get?_push_of_some _ z)
    have I3:=I2.kept (t':=s2.toks) hk2
    have st:SrcIt tp h' s2.heap.objs.size a 0:=srcIt_at srcIt_new fun o z=>hk _ o z
    refine ⟨_,[_,s2.heap.objs.size],_,_,H2,rfl,I3,turn_enumS tp a _ _ (by rw [hz];exact Nat.succ_ne_self _),⟨⟨_,he⟩,st⟩,fun b hb=> ?_,q⟩
    have hb':s2.heap.objs.size≤b:=by
      rcases List.mem_cons.mp hb with z | z
      · rw [z,hz];exact Nat.le_succ _
      · have z:b=s2.heap.objs.size:=by simpa using z
        rw [z];exact Nat.le_refl _
    exact I2.fpOk hb' (I2.hok.fresh hb')
end
def Isq (tp:Bool) (K:PySem.W.Frag) (a:Addr):It:=if tp=true then Itt K a else Itl K a
section
variable {X:Cx} {tg:Expr} {K:PySem.W.Frag}
def iSq (K:PySem.W.Frag) (tl:TE):TI:=fun σ H R=>tl σ H fun x H1=>∃ tp a,x= .ref a∧(∃ xs,SqS tp K H1 a xs)∧R (Isq tp K a) H1
theorem pi_sq {l:Expr} {tl:TE} (hl:PE X l tl) (hK:X.K=K:=by rfl):PI X tg l (iSq K tl):=by
  subst hK
  intro pins s σ H R I h
  refine thn (hl pins s σ H _ I h) fun v s1 ⟨x,H1,I1,r1,q1⟩=> ?_
  obtain ⟨tp,a,e,⟨xs,hq⟩,q⟩:=q1
  subst e
  cases r1
  cases tp with
  | false=>
    obtain ⟨its,rv,p,hz⟩:=I1.list (show SqL X.K H1 a xs from hq)
    refine wpAny_pyIter_list p.isList ?_
    refine ⟨s1.heap.objs.size,[s1.heap.objs.size],_,_,H1,rfl,I1.kept (t':=s1.toks) fun b o e=>Heap.get?_push_of_some _ e,turn_list a _,⟨_,Heap.get?_push_size _ rfl,rfl,rfl⟩,fun b hb=> ?_,q⟩
    have e:b=s1.heap.objs.size:=by simpa using hb
    subst e
    exact I1.fpOk (Nat.le_refl _) (I1.hok.fresh (Nat.le_refl _))
  | true=>
    obtain ⟨its,rv,p,hz⟩:=I1.tuple (show SqT X.K H1 a xs from hq)
    refine wpAny_pyIter_tuple (show s1.heap.IsTuple a its.toArray from p) ?_
    refine ⟨s1.heap.objs.size,[s1.heap.objs.size],_,_,H1,rfl,I1.kept (t':=s1.toks) fun b o e=>Heap.get?_push_of_some _ e,turn_tuple a _,⟨_,Heap.get?_push_size _ rfl,rfl,rfl⟩,fun b hb=> ?_,q⟩
    have e:b=s1.heap.objs.size:=by simpa using hb
    subst e
    exact I1.fpOk (Nat.le_refl _) (I1.hok.fresh (Nat.le_refl _))
end
structure FSrc (J:It) (g:TG) (H:Hp) (n:Nat) (set:Nat→St→St):Prop where
  go:∀ i H',i<n→Same H H'→J.go i H'
  stop:∀ H',Same H H'→J.stop n H'
  yld:∀ i σ H' x H'' (R:St→Hp→Prop),i<n→Same H H'→J.yld i H' x H''→(∀ H3,Same H' H3→R (set i σ) H3)→g x σ H'' R
theorem for_src {J:It} {g:TG} {H:Hp} {n:Nat} {set:Nat→St→St} {tb:TS} {D:Ends} {σ:St} (S:FSrc J g H n set) (Pv:Nat→St→Hp→Prop) (h0:Pv 0 σ H) (hk:∀ i σ H',Pv i σ H'→Same H H')
    (hs:∀ i σ H' H3,i<n→Pv i σ H'→Same H' H3→tb { D with nx:=Pv (i+1),ct:=Pv (i+1),bk:=D.nx } (set i σ) H3) (hd:∀ σ H',Pv n σ H'→D.nx σ H'):
    ∃ W:Nat→Nat→St→Hp→Prop,(∃ m,W 0 m σ H)∧∀ i m σ H,W i m σ H→
      (J.stop i H∧D.nx σ H)∨(J.go i H∧∃ N:St→Hp→Prop,(∀ σ' H',N σ' H'→∃ m',m'<m∧W (i+1) m' σ' H')∧∀ x H',J.yld i H x H'→g x σ H' fun σ2 H2=>tb { D with nx:=N,ct:=N,bk:=D.nx } σ2 H2):=by
  refine ⟨fun i m σ H'=>m=n - i∧i≤n∧Pv i σ H',⟨n,by simp,Nat.zero_le _,h0⟩,?_⟩
  rintro i m σ H1 ⟨rfl,hi,p⟩
  by_cases hlt:i<n
  · exact .inr ⟨S.go i H1 hlt (hk _ _ _ p),Pv (i+1),fun σ' H' p'=>⟨n - (i+1),by omega,rfl,hlt,p'⟩,fun x H' y=>S.yld i σ H1 x H' _ hlt (hk _ _ _ p) y fun H3 s3=>hs i σ H1 H3 hlt p s3⟩
  · have e:i=n:=by omega
    subst e
    exact .inl ⟨S.stop H1 (hk _ _ _ p),hd σ H1 p⟩
section
variable {K:PySem.W.Frag} {H:Hp} {a b:Addr} {xs zs:List V} {tp t1 t2:Bool} {i1 i2:Nat}
theorem fs_sq (h:SqS tp K H a xs):FSrc (Isq tp K a) (gName i1) H xs.length (fun i σ=>σ.set i1 (some (xs.getD i .non))):=by
  cases tp with
  | false=>exact {
      go:=fun i H' hi s=>⟨xs,xs[i],SqS.same (tp:=false) h s,by simp [hi]⟩
      stop:=fun H' s=>⟨xs,SqS.same (tp:=false) h s,Nat.le_refl _⟩
      yld:=fun i σ H' x H'' R hi s y k=>by
        obtain ⟨e,hv⟩:=y
        subst e
        have e:x=xs.getD i .non:=by
          rw [List.getD_eq_getElem?_getD,hv xs (SqS.same (tp:=false) h s)]
          rfl
        subst e
        exact k _ (Same.refl _) }
  | true=>exact {
      go:=fun i H' hi s=>⟨xs,xs[i],SqS.same (tp:=true) h s,by simp [hi]⟩
      stop:=fun H' s=>⟨xs,SqS.same (tp:=true) h s,Nat.le_refl _⟩
      yld:=fun i σ H' x H'' R hi s y k=>by
        obtain ⟨e,hv⟩:=y
        subst e
        have e:x=xs.getD i .non:=by
          rw [List.getD_eq_getElem?_getD,hv xs (SqS.same (tp:=true) h s)]
          rfl
        subst e
        exact k _ (Same.refl _) }
theorem fs_list (h:SqL K H a xs):FSrc (Itl K a) (gName i1) H xs.length (fun i σ=>σ.set i1 (some (xs.getD i .non))):=fs_sq (tp:=false) h
theorem fs_range {lo:Int} {n:Nat}:FSrc (Itr lo n) (gName i1) H n (fun i σ=>σ.set i1 (some (.int (lo+i)))) where
  go:=fun i H' hi s=>hi
  stop:=fun H' s=>Nat.le_refl _
  yld:=fun i σ H' x H'' R hi s y k=>by
    obtain ⟨e,hv⟩:=y
    subst e hv
    exact k _ (Same.refl _)
theorem fs_enumS (h:SqS tp K H a xs):FSrc (IteS tp K a) (gTup K 2 (gCons (gName i1) (gCons (gName i2) gNil))) H xs.length (fun i σ=>(σ.set i1 (some (.int ((i+1:Nat):Int)))).set i2 (some (xs.getD i .non))) where
  go:=fun i H' hi s=>⟨xs,xs[i],h.same s,by simp [hi]⟩
  stop:=fun H' s=>⟨xs,h.same s,Nat.le_refl _⟩
  yld:=fun i σ H' x H'' R hi s y k=>by
    obtain ⟨p,v,hp,rfl,rfl,hv⟩:=y
    have e:v=xs.getD i .non:=by
      rw [List.getD_eq_getElem?_getD,hv xs (h.same s)]
      rfl
    subst e
    exact ⟨p,_,rfl,SqT.of upd_same,rfl,_,_,rfl,_,_,rfl,rfl,k _ (same_new hp)⟩
theorem FSrc.src {J:It} {g:TG} {n:Nat} {set:Nat→St→St} {σ0:St} (S:FSrc J g H n set) (kp:∀ i,i<n→Kp σ0 (set i σ0)):SrcOk J g σ0 H n (fun i=>set i σ0) where
  go:=S.go
  stop:=S.stop
  yld:=fun i H' x H'' R hi s y k=>S.yld i σ0 H' x H'' R hi s y k
  kp:=kp
theorem src_sq {σ0:St} (h:SqS tp K H a xs) (h0:σ0[0]?=some none):SrcOk (Isq tp K a) (gName 0) σ0 H xs.length (fun i=>σ0.set 0 (some (xs.getD i .non))):=(fs_sq h).src fun i _=>(Kp.refl _).set h0
theorem src_enumS {σ0:St} (h:SqS tp K H a xs) (h0:σ0[0]?=some none) (h1:σ0[1]?=some none):SrcOk (IteS tp K a) (gTup K 2 (gCons (gName 0) (gCons (gName 1) gNil))) σ0 H xs.length (fun i=>(σ0.set 0 (some (.int ((i+1:Nat):Int)))).set 1 (some (xs.getD i .non))):=
  (fs_enumS h).src fun i _=>((Kp.refl _).set h0).set h1
end
end L2
namespace L2
open PySem PySem.Spec PyProof.Rows
theorem bA (a b:Nat):Builtin.bitAnd (a:Int) (b:Int)=((a &&& b:Nat):Int):=by
  rw [PyProof.Rows.bitAnd_pp (by omega) (by omega)]
  rfl
theorem bO (a b:Nat):Builtin.bitOr (a:Int) (b:Int)=((a ||| b:Nat):Int):=by
  have h:=MM.or_add_and a b
  rw [PyProof.Rows.bitOr_and,bA]
  omega
theorem bits_eq (m:Nat):((Builtin.Int.intBits (m:Int):Nat):Int)=((MM.bits m:Nat):Int):=by
  unfold Builtin.Int.intBits MM.bits
  by_cases h:m=0
  · subst h;rfl
  · have e:((m:Int) == 0)=false:=by simp [h]
    rw [e,if_neg h]
    simp
theorem pow_cast (n:Nat):(1:Int)*2 ^ n=((2 ^ n:Nat):Int):=by
  rw [Int.one_mul]
  push_cast
  rfl
section
variable {X:Cx}
def rBits:V→List V→Hp→VK→Prop:=fun x vs H Q=>∃ i:Int,x= .int i∧vs=[]∧Q (.int (Builtin.Int.intBits i:Nat)) H
theorem mt_bit_length:MtM X "int.bit_length" rBits:=by
  intro pins s σ H x vs v us Q I rx rv h
  obtain ⟨i,rfl,rfl,q⟩:=h
  obtain ⟨t,rfl⟩:=rx
  have hus:=rv.zero
  subst hus
  exact PyProof.Rows.call_int_bit_length ⟨.int _,H,I.tok _,⟨_,rfl⟩,q⟩
end
section
variable {H:Hp} {Q:VK} {σ:St} {D:Ends} {te:TE} {ti:TIp} {i:Nat} {x:V}
theorem rd_bits {m:Nat} (h:Q (.int (MM.bits m:Nat)) H):rBits (.int (m:Nat)) [] H Q:=⟨m,rfl,rfl,by rw [bits_eq];exact h⟩
theorem rd_aug (e:σ[i]?=some (some x)) (h:te σ H fun y H1=>ti x y H1 fun z H2=>D.nx (σ.set i (some z)) H2):tAug i te ti D σ H:=⟨x,e,h⟩
end
abbrev nV (n:Nat):V:= .int (n:Nat)
theorem getD_nat {ns:List Nat} {i:Nat} (h:i<(ns.map nV).length):(ns.map nV).getD i .non= .int (ns.getD i 0:Nat):=by
  have h':i<ns.length:=by simpa using h
  simp [List.getD_eq_getElem?_getD,h']
theorem getD_int {ns:List Int} {i:Nat} (h:i<(ns.map V.int).length):(ns.map V.int).getD i .non= .int (ns.getD i 0):=by
  have h':i<ns.length:=by simpa using h
  simp [List.getD_eq_getElem?_getD,h']
theorem atI_int {ns:List Int} {k:Int} (h0:0≤k) (h1:k<ns.length):atI (ns.map V.int) k=some (.int (ns.getD k.toNat 0)):=by
  obtain ⟨j,rfl⟩:∃ j:Nat,k=j:=⟨k.toNat,by omega⟩
  have h':j<ns.length:=by omega
  refine atI_nat ?_
  rw [show ((j:Int)).toNat=j by omega]
  simp [List.getD_eq_getElem?_getD,h']
theorem atI_natV {ns:List Nat} {k:Int} (h0:0≤k) (h1:k<ns.length):atI (ns.map nV) k=some (.int (ns.getD k.toNat 0:Nat)):=by
  obtain ⟨j,rfl⟩:∃ j:Nat,k=j:=⟨k.toNat,by omega⟩
  have h':j<ns.length:=by omega
  refine atI_nat ?_
  rw [show ((j:Int)).toNat=j by omega]
  simp [List.getD_eq_getElem?_getD,h']
theorem take_getD {ns:List Nat} {i:Nat} (h:i<ns.length):ns.take (i+1)=ns.take i++[ns.getD i 0]:=by
  rw [List.take_succ_eq_append_getElem h]
  simp [List.getD_eq_getElem?_getD,h]
theorem ints_comp {J:It} {g:TG} {σ0:St} {H:Hp} {n:Nat} {st:Nat→St} {te:TE} {Q:VK} {D:Addr} {G:Nat→Int} (S:SrcOk J g σ0 H n st) (hD:H D=none) (hn:n≤100000)
    (he:∀ i H' (R:VK),i<n→Same H H'→(∀ H3,Same H' H3→R (.int (G i)) H3)→te (st i) H' R)
    (hd:∀ H',Same H H'→H' D=some (.lst (((List.range n).map G).map V.int))→Q (.ref D) H'):CompW J σ0 g tYes te Q H D:=by
  refine comp_map (m:=0) (G:=fun i=> .int (G i)) S hD hn (fun i H' R hi s k=>he i H' R hi s fun H3 s3=>k H3 _ s3 (.int _)) fun H' ys s hl r=> ?_
  have e:(List.range n).map (fun i=>Dt.int (G i))=((List.range n).map G).map Dt.int:=by rw [List.map_map];rfl
  rw [e] at r
  obtain ⟨b,eb,hb,fb⟩:=ints_of r
  cases eb
  exact hd H' s hb
theorem ints_compF {J:It} {g:TG} {σ0:St} {H:Hp} {n:Nat} {st:Nat→St} {tc:TT} {te:TE} {Q:VK} {D:Addr} {p:Nat→Bool} {G:Nat→Int} (S:SrcOk J g σ0 H n st) (hD:H D=none) (hn:n≤100000)
    (ht:∀ i H' (R:Bool→Hp→Prop),i<n→Same H H'→(∀ H3,Same H' H3→R (p i) H3)→tc (st i) H' R)
    (he:∀ i H' (R:VK),i<n→p i=true→Same H H'→(∀ H3,Same H' H3→R (.int (G i)) H3)→te (st i) H' R)
    (hd:∀ H',Same H H'→H' D=some (.lst ((((List.range n).filter p).map G).map V.int))→Q (.ref D) H'):CompW J σ0 g tc te Q H D:=by
  refine comp_data (m:=0) (p:=p) (G:=fun i=> .int (G i)) S hD hn ht (fun i H' R hi hp s k=>he i H' R hi hp s fun H3 s3=>k H3 _ s3 (.int _)) fun H' ys s hl r=> ?_
  have e:((List.range n).filter p).map (fun i=>Dt.int (G i))=(((List.range n).filter p).map G).map Dt.int:=by rw [List.map_map];rfl
  rw [e] at r
  obtain ⟨b,eb,hb,fb⟩:=ints_of r
  cases eb
  exact hd H' s hb
theorem bls_comp {J:It} {g:TG} {σ0:St} {H:Hp} {n:Nat} {st:Nat→St} {te:TE} {Q:VK} {D:Addr} {G:Nat→Bool} (S:SrcOk J g σ0 H n st) (hD:H D=none) (hn:n≤100000)
    (he:∀ i H' (R:VK),i<n→Same H H'→(∀ H3,Same H' H3→R (.bl (G i)) H3)→te (st i) H' R)
    (hd:∀ H',Same H H'→H' D=some (.lst (((List.range n).map G).map V.bl))→Q (.ref D) H'):CompW J σ0 g tYes te Q H D:=by
  refine comp_map (m:=0) (G:=fun i=> .bl (G i)) S hD hn (fun i H' R hi s k=>he i H' R hi s fun H3 s3=>k H3 _ s3 (.bl _)) fun H' ys s hl r=> ?_
  have e:ys=((List.range n).map G).map V.bl:=by
    cases r with
    | @lst _ _ vs _ q f b l ee=>
      rw [hl] at q
      cases q
      refine List.ext_getElem (by simpa using l) fun i h1 h2=> ?_
      have hi:i<n:=by simpa using h2
      have:=ee i ys[i] (.bl (G i)) (by simp [h1]) (by simp [hi])
      cases hv:ys[i] <;> rw [hv] at this <;> cases this
      simp
  rw [e] at hl
  exact hd H' s hl
end L2
namespace L2
open PySem PySem.Spec PyProof.Rows
def MakeF (P:Program) (w:World) (K:PySem.W.Frag) (mg:Str→Option Value) (base:Heap) (x:Str) (C:Addr) (k:Nat) (ps:List Str) (sp:Sp):Prop:=
  ∃ f fd,mg x=some (.ref C)∧Mk K C f∧FnOk P w K mg base CX0 k f fd ps sp∧Binds K fd ps []
def MethF (P:Program) (w:World) (K:PySem.W.Frag) (mg:Str→Option Value) (base:Heap) (C:Addr) (m:Str) (k:Nat) (ps:List Str) (sp:Sp):Prop:=
  ∃ f fd,Cls K C∧Meth K C m f∧FnOk P w K mg base CX0 k f fd ps sp∧Binds K fd ps []
section
variable {X:Cx} {x m:Str} {C:Addr} {k:Nat} {ps:List Str} {sp:Sp} {o e:Expr} {es:List Expr} {t:TA} {ta:TE} {p pos apos:Pos}
theorem pe_makeF (h:MakeF X.prog X.w X.K X.mg X.base x C k ps sp) (hr:Room (k+1) X.A) (ha:PA X (e::es) t) (hg:Gl X x:=by rfl) (hdb:(x == ("__debug__":Str))=false:=by decide)
    (he:starEach (e::es) X.env=(false,eval e X.env)::starEach es X.env:=by rfl) (hpl:(backTo pos (starEach es X.env)).any (·.1)=false:=by rfl):
    PE X (.Call (.Name x p) (e::es) [] pos) (tMake C sp [] E0 t):=by
  obtain ⟨f,fd,hm,M,F,hb⟩:=h
  exact pe_make M F hr hg hm hb .nil pass0 ha hdb he hpl
theorem pe_methF {pl:Sem Bool} (he:PE X o ta) (h:MethF X.prog X.w X.K X.mg X.base C m k ps sp) (hr:Room k X.A) (ha:PA X (e::es) t)
    (hst:starEach (e::es) X.env=(false,eval e X.env)::starEach es X.env:=by rfl) (hpl:(backTo pos (starEach es X.env)).any (·.1)=false:=by rfl)
    (ht:eval (.Call (.Attribute o m apos) (e::es) [] pos) X.env=(do
      let ov ← eval o X.env
      standAt apos.atName
      let (f,first) ← holding [ov] (getMethod ov m pl)
      callWith pos f first (backTo pos (starEach (e::es) X.env)) (backToKw pos (keywordEach [] X.env))):=by rfl):
    PE X (.Call (.Attribute o m apos) (e::es) [] pos) (tMeth C m sp [] E0 ta t):=by
  obtain ⟨f,fd,c,hm,F,hb⟩:=h
  exact pe_meth (pl:=pl) he c hm F hr hb .nil pass0 ha hst hpl ht
theorem pe_methF0 {pl:Sem Bool} (he:PE X o ta) (h:MethF X.prog X.w X.K X.mg X.base C m k ps sp) (hr:Room k X.A)
    (ht:eval (.Call (.Attribute o m apos) [] [] pos) X.env=(do
      let ov ← eval o X.env
      standAt apos.atName
      let (f,first) ← holding [ov] (getMethod ov m pl)
      callWith pos f first (backTo pos (starEach [] X.env)) (backToKw pos (keywordEach [] X.env))):=by rfl):
    PE X (.Call (.Attribute o m apos) [] [] pos) (tMeth C m sp [] E0 ta tNil):=by
  obtain ⟨f,fd,c,hm,F,hb⟩:=h
  exact pe_meth0 (pl:=pl) he c hm F hr hb .nil pass0 ht
theorem pe_gC {x:Str} {C:Addr} {pos:Pos} (h:X.mg x=some (.ref C)) (hg:Gl X x:=by rfl) (hd:(x == ("__debug__":Str))=false:=by decide):PE X (.Name x pos) (tC (.ref C)):=pe_glob hg h rfl hd
end
structure Kind (K:PySem.W.Frag) (C:Addr):Prop where
  cl:Cls K C
  ha:PySem.W.findIn K (.ref C) "__class__"=some (some (.builtin "object.__class__"))
  hn:PySem.W.specialIn K (.builtin "object.__class__") "__get__"=some (some (.builtin "getset_descriptor.__get__"))
  htk:PySem.W.takesIn K (.builtin "object.__class__")=some true
  hm:PySem.W.mroIn K C (.type "object")=some true
section
variable {K:PySem.W.Frag} {H:Hp} {Q:VK} {σ:St} {D:Ends} {te tv:TE} {t:TA} {a C dx:Addr} {fs:List (Str × V)} {f:Str} {v:V} {sp:Sp}
theorem rd_fld (h:te σ H fun x H1=>∃ a C dx fs v,x= .ref a∧H1 a=some (.ins C dx fs)∧Cls K C∧NoAttr K C f∧fs.lookup f=some v∧Q v H1):tFld K te f σ H Q:=h
theorem rd_put (h:tv σ H fun y H1=>te σ H1 fun x H2=>∃ a C dx fs,x= .ref a∧H2 a=some (.ins C dx fs)∧Cls K C∧NoAttr K C f∧fs.length<1000∧D.nx σ (upd H2 a (.ins C dx (putF f y fs)))):sFld K te tv f D σ H:=h
theorem rd_set {y:V} (e:H a=some (.ins C dx fs)) (c:Cls K C) (n:NoAttr K C f) (l:fs.length<1000) (h:D.nx σ (upd H a (.ins C dx (putF f y fs)))):∃ a' C' dx' fs',V.ref a= .ref a'∧H a'=some (.ins C' dx' fs')∧Cls K C'∧NoAttr K C' f∧fs'.length<1000∧D.nx σ (upd H a' (.ins C' dx' (putF f y fs'))):=⟨a,C,dx,fs,rfl,e,c,n,l,h⟩
theorem rd_make (h:t σ H fun vs H1=>∀ x dx,H1 x=none→H1 dx=none→dx≠x→sp (.ref x::vs) (upd (upd H1 dx (.own x)) x (.ins C dx [])) (fun v H2=>v= .non∧Q (.ref x) H2) E0):tMake C sp [] E0 t σ H Q:=by
  unfold tMake
  simpa using h
theorem rd_meth {m:Str} (h:te σ H fun x H1=>∃ a dx fs,x= .ref a∧H1 a=some (.ins C dx fs)∧fs.lookup m=none∧t σ H1 fun vs H2=>sp (x::vs) H2 Q E0):tMeth C m sp [] E0 te t σ H Q:=by
  unfold tMeth
  simpa using h
end
theorem rd_chain {r r':R2} {ta tb tc:TE} {σ:St} {H:Hp} {Q:VK} (h:ta σ H fun x H1=>tb σ H1 fun y H2=>r x y H2 fun z H3=>∃ k,z= .bl k∧(if k=true then tc σ H3 fun w' H4=>r' y w' H4 Q else Q (.bl false) H3)):tChain r r' ta tb tc σ H Q:=h
def amongV (x:V) (a b:Int):Bool:=match x with | .int i=>decide (a≤i)&&decide (i≤b) | _=>false
theorem fin_b {b b':Bool} {Q:VK} {H:Hp} (e:b=b') (h:Q (.bl b') H):Q (.bl b) H:=e▸h
theorem iteC {b:Bool} {A B:Prop} (h1:b=true→A) (h2:b=false→B):if b=true then A else B:=by
  cases b with
  | true=>exact h1 rfl
  | false=>exact h2 rfl
theorem same_obj {H:Hp} {x dx:Addr} {o:HO} {u:HO} (h1:H x=none) (h2:H dx=none):Same H (upd (upd H dx u) x o):=fun b q e=>by
  rw [upd_ne (ne_of_none e h1),upd_ne (ne_of_none e h2)]
  exact e
end L2
namespace L2
open PySem PySem.Spec PyProof.Rows
mutual
def eqD:Dt→Dt→Bool
  | .non, .non=>true
  | .bl a, .bl b=>a == b
  | .int a, .int b=>a == b
  | .str a, .str b=>a == b
  | .bl a, .int b=>(if a then 1 else 0) == b
  | .int a, .bl b=>a == (if b then 1 else 0)
  | .lst xs, .lst ys=>eqDs xs ys
  | .tup xs, .tup ys=>eqDs xs ys
  | _,_=>false
def eqDs:List Dt→List Dt→Bool
  | [],[]=>true
  | x::xs,y::ys=>eqD x y&&eqDs xs ys
  | _,_=>false
end
theorem eqDs_len:∀ {xs ys:List Dt},xs.length≠ys.length→eqDs xs ys=false
  | [],[],h=>absurd rfl h
  | [],_::_,_=>by unfold eqDs;rfl
  | _::_,[],_=>by unfold eqDs;rfl
  | x::xs,y::ys,h=>by
    unfold eqDs
    rw [eqDs_len (xs:=xs) (ys:=ys) (fun e=>h (by simp [e])),Bool.and_false]
theorem eqDs_all:∀ {xs ys:List Dt},xs.length=ys.length→eqDs xs ys=(List.range xs.length).all fun i=>eqD (xs.getD i .non) (ys.getD i .non)
  | [],[],_=>by unfold eqDs;rfl
  | [],_::_,h=>by simp at h
  | _::_,[],h=>by simp at h
  | x::xs,y::ys,h=>by
    unfold eqDs
    rw [eqDs_all (xs:=xs) (ys:=ys) (by simpa using h),List.length_cons,List.range_succ_eq_map,List.all_cons,List.all_map]
    rfl
mutual
theorem eqD_refl:∀ d:Dt,eqD d d=true
  | .non=>by unfold eqD;rfl
  | .bl a=>by unfold eqD;simp
  | .int a=>by unfold eqD;simp
  | .str a=>by unfold eqD;simp
  | .lst xs=>by unfold eqD;exact eqDs_refl xs
  | .tup xs=>by unfold eqD;exact eqDs_refl xs
theorem eqDs_refl:∀ d:List Dt,eqDs d d=true
  | []=>by unfold eqDs;rfl
  | x::xs=>by unfold eqDs;rw [eqD_refl x,eqDs_refl xs];rfl
end
theorem Rp.inj {H:Hp} {F G:Addr→Prop} {n m:Nat} {v:V} {d e:Dt} (r:Rp H F n v d) (r2:Rp H G m v e):d=e:=by
  induction r generalizing m e with
  | non=>cases r2;rfl
  | bl b=>cases r2;rfl
  | int i=>cases r2;rfl
  | str z=>cases r2;rfl
  | @lst n a vs ds h f b l el ih=>
    cases r2 with
    | @lst m _ vs2 ds2 h2 f2 b2 l2 el2=>
      rw [h] at h2
      cases h2
      congr 1
      refine List.ext_getElem (by omega) fun i h1 h3=> ?_
      have hv:i<vs.length:=by omega
      exact ih i vs[i] ds[i] (by simp [hv]) (by simp [h1]) (el2 i vs[i] ds2[i] (by simp [hv]) (by simp [h3]))
    | tup h2 _ _ _=>rw [h] at h2;cases h2
  | @tup n a vs ds h b l el ih=>
    cases r2 with
    | @tup m _ vs2 ds2 h2 b2 l2 el2=>
      rw [h] at h2
      cases h2
      congr 1
      refine List.ext_getElem (by omega) fun i h1 h3=> ?_
      have hv:i<vs.length:=by omega
      exact ih i vs[i] ds[i] (by simp [hv]) (by simp [h1]) (el2 i vs[i] ds2[i] (by simp [hv]) (by simp [h3]))
    | lst h2 _ _ _ _=>rw [h] at h2;cases h2
section
variable {X:Cx} {pins:List (Addr × Obj)} {σ:St} {H:Hp} {s:Shared}
theorem at_item {F G:Addr→Prop} {n:Nat} {xs ys:List V} {ds es:List Dt} {its its2:List Value} {A:Around} (r:Vals xs its) (r2:Vals ys its2) (l1:xs.length=ds.length) (l2:ys.length=es.length)
    (el:∀ (i:Nat) (v:V) (d:Dt),xs[i]?=some v→ds[i]?=some d→Rp H F n v d) (el2:∀ (i:Nat) (v:V) (d:Dt),ys[i]?=some v→es[i]?=some d→Rp H G n v d)
    (ih:∀ {v u:V} {d e:Dt} {rv ru:Value},Rp H F n v d→Rp H G n u e→RelV v rv→RelV u ru→SeqAt.EqAt A s rv ru (eqD d e)):
    ∀ j (h1:j<its.toArray.size) (h2:j<its2.toArray.size),SeqAt.EqAt A s its.toArray[j] its2.toArray[j] (eqD (ds.getD j .non) (es.getD j .non)):=fun j h1 h2=>by
  have k1:=r.length
  have k2:=r2.length
  have h1':j<its.length:=by simpa using h1
  have h2':j<its2.length:=by simpa using h2
  have g1:xs[j]?=some (xs.getD j .non):=by rw [List.getD_eq_getElem?_getD,List.getElem?_eq_getElem (by omega)];rfl
  have g2:ys[j]?=some (ys.getD j .non):=by rw [List.getD_eq_getElem?_getD,List.getElem?_eq_getElem (by omega)];rfl
  have d1:ds[j]?=some (ds.getD j .non):=by rw [List.getD_eq_getElem?_getD,List.getElem?_eq_getElem (by omega)];rfl
  have d2:es[j]?=some (es.getD j .non):=by rw [List.getD_eq_getElem?_getD,List.getElem?_eq_getElem (by omega)];rfl
  obtain ⟨u,e1,ru⟩:=r.get g1
  obtain ⟨u2,e2,ru2⟩:=r2.get g2
  have q1:its.toArray[j]=u:=by rw [List.getElem?_eq_getElem h1'] at e1;simpa using Option.some.inj e1
  have q2:its2.toArray[j]=u2:=by rw [List.getElem?_eq_getElem h2'] at e2;simpa using Option.some.inj e2
  rw [q1,q2]
  exact ih (el j _ _ g1 d1) (el2 j _ _ g2 d2) ru ru2
theorem in1_units (A:Around):A.in1.units=A.units+1:=rfl
theorem eqAt_D (I:Inv X pins σ H s) {F G:Addr→Prop}:∀ {n:Nat} {A:Around} {v u:V} {d e:Dt} {rv ru:Value},Rp H F n v d→Rp H G n u e→RelV v rv→RelV u ru→A.units+n<cLine→SeqAt.EqAt A s rv ru (eqD d e):=by
  intro n
  have sc:∀ {n m:Nat} {A:Around} {v u:V} {d e:Dt} {rv ru:Value},Rp H F n v d→Rp H G m u e→(isLst d||isTup d)=false→(isLst e||isTup e)=false→RelV v rv→RelV u ru→SeqAt.EqAt A s rv ru (eqD d e):=by
    intro n m A v u d e rv ru r r2 n1 n2 rr rr2
    cases r with
    | non=>
      cases rr
      cases r2 with
      | non=>
        cases rr2
        simp only [eqD]
        exact (show SeqAt.EqAt A s Value.none Value.none true from SeqAt.EqAt.same _)
      | bl x2=>
        cases rr2
        simp only [eqD]
        exact SeqAt.EqAt.none_bool _
      | int x2=>
        obtain ⟨t2,rfl⟩:=rr2
        simp only [eqD]
        exact SeqAt.EqAt.none_int _ _
      | str x2=>
        obtain ⟨t2,rfl⟩:=rr2
        simp only [eqD]
        exact SeqAt.EqAt.none_str _ _
      | lst _ _ _ _ _=>cases n2
      | tup _ _ _ _=>cases n2
    | bl x1=>
      cases rr
      cases r2 with
      | non=>
        cases rr2
        simp only [eqD]
        exact SeqAt.EqAt.bool_none _
      | bl x2=>
        cases rr2
        simp only [eqD]
        exact SeqAt.EqAt.bool_bool _ _
      | int x2=>
        obtain ⟨t2,rfl⟩:=rr2
        simp only [eqD]
        exact SeqAt.EqAt.bool_int _ _ _
      | str x2=>
        obtain ⟨t2,rfl⟩:=rr2
        simp only [eqD]
        exact SeqAt.EqAt.bool_str _ _ _
      | lst _ _ _ _ _=>cases n2
      | tup _ _ _ _=>cases n2
    | int x1=>
      obtain ⟨t1,rfl⟩:=rr
      cases r2 with
      | non=>
        cases rr2
        simp only [eqD]
        exact SeqAt.EqAt.int_none _ _
      | bl x2=>
        cases rr2
        simp only [eqD]
        exact SeqAt.EqAt.int_bool _ _ _
      | int x2=>
        obtain ⟨t2,rfl⟩:=rr2
        simp only [eqD]
        exact SeqAt.EqAt.int_int _ _ _ _
      | str x2=>
        obtain ⟨t2,rfl⟩:=rr2
        simp only [eqD]
        exact SeqAt.EqAt.int_str _ _ _ _
      | lst _ _ _ _ _=>cases n2
      | tup _ _ _ _=>cases n2
    | str x1=>
      obtain ⟨t1,rfl⟩:=rr
      cases r2 with
      | non=>
        cases rr2
        simp only [eqD]
        exact SeqAt.EqAt.str_none _ _
      | bl x2=>
        cases rr2
        simp only [eqD]
        exact SeqAt.EqAt.str_bool _ _ _
      | int x2=>
        obtain ⟨t2,rfl⟩:=rr2
        simp only [eqD]
        exact SeqAt.EqAt.str_int _ _ _ _
      | str x2=>
        obtain ⟨t2,rfl⟩:=rr2
        simp only [eqD]
        exact SeqAt.EqAt.str_str _ _ _ _
      | lst _ _ _ _ _=>cases n2
      | tup _ _ _ _=>cases n2
    | lst _ _ _ _ _=>cases n1
    | tup _ _ _ _=>cases n1
  induction n with
  | zero=>
    intro A v u d e rv ru r r2 rr rr2 hu
    exact sc r r2 (by cases r <;> rfl) (by cases r2 <;> rfl) rr rr2
  | succ n ih=>
    intro A v u d e rv ru r r2 rr rr2 hu
    have hu':A.units<cLine:=by omega
    cases h1:(isLst d||isTup d) with
    | false=>
      cases h2:(isLst e||isTup e) with
      | false=>exact sc r r2 h1 h2 rr rr2
      | true=>
        cases r2 with
        | @lst _ b ys es q2 f2 b2 l2 el2=>
          obtain rfl:ru=Value.ref b:=rr2
          obtain ⟨its2,rv2,pl2,_⟩:=I.list (SqL.of q2)
          cases r with
          | non=>cases rr;simp only [eqD];exact SeqAt.EqAt.none_list pl2.isList hu'
          | bl x1=>cases rr;simp only [eqD];exact SeqAt.EqAt.bool_list _ pl2.isList hu'
          | int x1=>obtain ⟨t,rfl⟩:=rr;simp only [eqD];exact SeqAt.EqAt.int_list _ _ pl2.isList hu'
          | str x1=>obtain ⟨t,rfl⟩:=rr;simp only [eqD];exact SeqAt.EqAt.str_list _ _ pl2.isList hu'
          | lst _ _ _ _ _=>cases h1
          | tup _ _ _ _=>cases h1
        | @tup _ b ys es q2 b2 l2 el2=>
          obtain rfl:ru=Value.ref b:=rr2
          obtain ⟨its2,rv2,pl2,_⟩:=I.tuple (SqT.of q2)
          have pl2:s.heap.IsTuple b its2.toArray:=pl2
          cases r with
          | non=>cases rr;simp only [eqD];exact SeqAt.EqAt.none_tuple pl2 hu'
          | bl x1=>cases rr;simp only [eqD];exact SeqAt.EqAt.bool_tuple _ pl2 hu'
          | int x1=>obtain ⟨t,rfl⟩:=rr;simp only [eqD];exact SeqAt.EqAt.int_tuple _ _ pl2 hu'
          | str x1=>obtain ⟨t,rfl⟩:=rr;simp only [eqD];exact SeqAt.EqAt.str_tuple _ _ pl2 hu'
          | lst _ _ _ _ _=>cases h1
          | tup _ _ _ _=>cases h1
        | _=>cases h2
    | true=>
      cases r with
      | @lst _ a xs ds q1 f1 b1 l1 el1=>
        obtain rfl:rv=Value.ref a:=rr
        obtain ⟨its,rv1,pl,_⟩:=I.list (SqL.of q1)
        have k1:=rv1.length
        cases r2 with
        | @lst _ b ys es q2 f2 b2 l2 el2=>
          obtain rfl:ru=Value.ref b:=rr2
          obtain ⟨its2,rv2,pl2,_⟩:=I.list (SqL.of q2)
          have k2:=rv2.length
          by_cases hab:a=b
          · subst hab
            have e:=(Rp.lst (n:=n) q1 f1 b1 l1 el1).inj (Rp.lst (n:=n) q2 f2 b2 l2 el2)
            rw [e,eqD_refl]
            exact SeqAt.EqAt.same _
          · refine SeqAt.EqAt.of_refs hab ?_
            simp only [eqD]
            by_cases hl:ds.length=es.length
            · rw [eqDs_all hl]
              have q:=SeqAt.RcAt.lists (A:=A) (e:=fun i=>eqD (ds.getD i .non) (es.getD i .non)) pl.isList pl2.isList (by simp;omega) hu' (at_item rv1 rv2 l1 l2 el1 el2 fun r r2 rr rr2=>ih r r2 rr rr2 (by rw [in1_units];omega))
              rw [show its.toArray.size=ds.length by simp;omega] at q
              exact q
            · rw [eqDs_len hl]
              exact SeqAt.RcAt.lists_lengths pl.isList pl2.isList (by simp;omega) hu'
        | @tup _ b ys es q2 b2 l2 el2=>
          obtain rfl:ru=Value.ref b:=rr2
          obtain ⟨its2,rv2,pl2,_⟩:=I.tuple (SqT.of q2)
          simp only [eqD]
          exact SeqAt.EqAt.list_tuple pl.isList (show s.heap.IsTuple b its2.toArray from pl2) hu'
        | non=>cases rr2;simp only [eqD];exact SeqAt.EqAt.list_none pl.isList hu'
        | bl x1=>cases rr2;simp only [eqD];exact SeqAt.EqAt.list_bool _ pl.isList hu'
        | int x1=>obtain ⟨t,rfl⟩:=rr2;simp only [eqD];exact SeqAt.EqAt.list_int _ _ pl.isList hu'
        | str x1=>obtain ⟨t,rfl⟩:=rr2;simp only [eqD];exact SeqAt.EqAt.list_str _ _ pl.isList hu'
      | @tup _ a xs ds q1 b1 l1 el1=>
        obtain rfl:rv=Value.ref a:=rr
        obtain ⟨its,rv1,pl,_⟩:=I.tuple (SqT.of q1)
        have pl:s.heap.IsTuple a its.toArray:=pl
        have k1:=rv1.length
        cases r2 with
        | @tup _ b ys es q2 b2 l2 el2=>
          obtain rfl:ru=Value.ref b:=rr2
          obtain ⟨its2,rv2,pl2,_⟩:=I.tuple (SqT.of q2)
          have pl2:s.heap.IsTuple b its2.toArray:=pl2
          have k2:=rv2.length
          by_cases hab:a=b
          · subst hab
            have e:=(Rp.tup (n:=n) (F:=F) q1 b1 l1 el1).inj (Rp.tup (n:=n) (F:=G) q2 b2 l2 el2)
            rw [e,eqD_refl]
            exact SeqAt.EqAt.same _
          · refine SeqAt.EqAt.of_refs hab ?_
            simp only [eqD]
            have q:=SeqAt.RcAt.tuples (A:=A) (e:=fun i=>eqD (ds.getD i .non) (es.getD i .non)) pl pl2 hu' (at_item rv1 rv2 l1 l2 el1 el2 fun r r2 rr rr2=>ih r r2 rr rr2 (by rw [in1_units];omega))
            have e1:its.toArray.size=ds.length:=by simp;omega
            have e2:its2.toArray.size=es.length:=by simp;omega
            rw [e1,e2] at q
            by_cases hl:ds.length=es.length
            · rw [eqDs_all hl]
              rw [← hl,Nat.min_self,beq_self_eq_true,Bool.and_true] at q
              exact q
            · rw [eqDs_len hl]
              rw [beq_eq_false_iff_ne.mpr hl,Bool.and_false] at q
              exact q
        | @lst _ b ys es q2 f2 b2 l2 el2=>
          obtain rfl:ru=Value.ref b:=rr2
          obtain ⟨its2,rv2,pl2,_⟩:=I.list (SqL.of q2)
          simp only [eqD]
          exact SeqAt.EqAt.tuple_list pl pl2.isList hu'
        | non=>cases rr2;simp only [eqD];exact SeqAt.EqAt.tuple_none pl hu'
        | bl x1=>cases rr2;simp only [eqD];exact SeqAt.EqAt.tuple_bool _ pl hu'
        | int x1=>obtain ⟨t,rfl⟩:=rr2;simp only [eqD];exact SeqAt.EqAt.tuple_int _ _ pl hu'
        | str x1=>obtain ⟨t,rfl⟩:=rr2;simp only [eqD];exact SeqAt.EqAt.tuple_str _ _ pl hu'
      | _=>cases h1
def rEqD (neg:Bool):R2:=fun x y H Q=>∃ (n:Nat) (d e:Dt),n≤30∧Rp H FT n x d∧Rp H FT n y e∧(isLst d&&isLst e||isTup d&&isTup e)=true∧Q (.bl (if neg then !eqD d e else eqD d e)) H
theorem op_eqD (hu:X.A.units+64<cLine):OpR X (compareOp .Eq) (rEqD false):=by
  intro pins s σ H x y v u Q I rx ry h
  obtain ⟨n,d,e,hn,r,r2,hs,q⟩:=h
  cases r with
  | @lst m a xs ds q1 f1 b1 l1 el1=>
    cases r2 with
    | @lst _ b ys es q2 f2 b2 l2 el2=>
      obtain rfl:v=Value.ref a:=rx
      obtain rfl:u=Value.ref b:=ry
      obtain ⟨its,rv1,pl,_⟩:=I.list (SqL.of q1)
      obtain ⟨its2,rv2,pl2,_⟩:=I.list (SqL.of q2)
      have k1:=rv1.length
      have k2:=rv2.length
      have q:Q (.bl (eqDs ds es)) H:=by
        have q:=q
        unfold eqD at q
        exact q
      by_cases hl:ds.length=es.length
      · refine SeqAt.eq_listAt (e:=fun i=>eqD (ds.getD i .non) (es.getD i .non)) pl.isList pl2.isList (by simp;omega) (by omega) (at_item rv1 rv2 l1 l2 el1 el2 fun r r2 rr rr2=>eqAt_D I r r2 rr rr2 (by rw [in1_units];omega)) ⟨.bl _,H,I,rfl,?_⟩
        rw [show its.toArray.size=ds.length by simp;omega, ← eqDs_all hl]
        exact q
      · refine SeqAt.eq_list_lengthsAt pl.isList pl2.isList (by simp;omega) (by omega) ⟨.bl _,H,I,rfl,?_⟩
        rw [← eqDs_len hl]
        exact q
    | _=>cases hs
  | @tup m a xs ds q1 b1 l1 el1=>
    cases r2 with
    | @tup _ b ys es q2 b2 l2 el2=>
      obtain rfl:v=Value.ref a:=rx
      obtain rfl:u=Value.ref b:=ry
      obtain ⟨its,rv1,pl,_⟩:=I.tuple (SqT.of q1)
      obtain ⟨its2,rv2,pl2,_⟩:=I.tuple (SqT.of q2)
      have k1:=rv1.length
      have k2:=rv2.length
      have q:Q (.bl (eqDs ds es)) H:=by
        have q:=q
        unfold eqD at q
        exact q
      refine SeqAt.eq_tupleAt (e:=fun i=>eqD (ds.getD i .non) (es.getD i .non)) (show s.heap.IsTuple a its.toArray from pl) (show s.heap.IsTuple b its2.toArray from pl2) (by omega) (at_item rv1 rv2 l1 l2 el1 el2 fun r r2 rr rr2=>eqAt_D I r r2 rr rr2 (by rw [in1_units];omega)) ⟨.bl _,H,I,rfl,?_⟩
      have e1:its.toArray.size=ds.length:=by simp;omega
      have e2:its2.toArray.size=es.length:=by simp;omega
      rw [e1,e2]
      by_cases hl:ds.length=es.length
      · rw [← hl,Nat.min_self,beq_self_eq_true,Bool.and_true, ← eqDs_all hl]
        exact q
      · rw [beq_eq_false_iff_ne.mpr hl,Bool.and_false, ← eqDs_len hl]
        exact q
    | _=>cases hs
  | _=>cases hs
end
end L2
namespace L2
open PySem PySem.Spec PyProof.Rows
abbrev dN (n:Nat):Dt:= .int (n:Nat)
def dL (ns:List Nat):Dt:= .lst (ns.map dN)
def dT (ns:List Nat):Dt:= .tup (ns.map dN)
def dS (zs:List Str):Dt:= .lst (zs.map .str)
def dST (zs:List Str):Dt:= .tup (zs.map .str)
def dLL (ls:List (List Nat)):Dt:= .lst (ls.map dL)
def dTT (ls:List (List Nat)):Dt:= .tup (ls.map dT)
section
variable {H:Hp} {F:Addr→Prop} {n:Nat} {v:V}
theorem vals_map {α:Type} {f:α→V} {g:α→Dt} (uniq:∀ (a:α) (v:V),Rp H F n v (g a)→v=f a) {vs:List V} {as:List α} (l:vs.length=(as.map g).length)
    (e:∀ (i:Nat) (v:V) (d:Dt),vs[i]?=some v→(as.map g)[i]?=some d→Rp H F n v d):vs=as.map f:=by
  refine List.ext_getElem (by simpa using l) fun i h1 h2=> ?_
  have h3:i<as.length:=by simpa using h2
  rw [List.getElem_map]
  exact uniq _ _ (e i vs[i] (g as[i]) (by simp [h1]) (by simp [h3]))
theorem uniq_n (a:Nat) (v:V) (r:Rp H F n v (dN a)):v=nV a:=by cases r;rfl
theorem uniq_s (a:Str) (v:V) (r:Rp H F n v (.str a)):v= .str a:=by cases r;rfl
theorem dL_of {ns:List Nat} (r:Rp H F n v (dL ns)):∃ a,v= .ref a∧H a=some (.lst (ns.map nV))∧F a∧ns.length≤100000:=by
  unfold dL at r
  cases r with
  | @lst m a vs _ h f b l e=>
    have q:=vals_map (f:=nV) (fun a v r=>uniq_n a v r) l e
    subst q
    exact ⟨a,rfl,h,f,by simpa using b⟩
theorem dT_of {ns:List Nat} (r:Rp H F n v (dT ns)):∃ a,v= .ref a∧H a=some (.tup (ns.map nV))∧ns.length≤100000:=by
  unfold dT at r
  cases r with
  | @tup m a vs _ h b l e=>
    have q:=vals_map (f:=nV) (fun a v r=>uniq_n a v r) l e
    subst q
    exact ⟨a,rfl,h,by simpa using b⟩
theorem dS_of {zs:List Str} (r:Rp H F n v (dS zs)):∃ a,v= .ref a∧H a=some (.lst (zs.map V.str))∧F a∧zs.length≤100000:=by
  unfold dS at r
  cases r with
  | @lst m a vs _ h f b l e=>
    have q:=vals_map (f:=V.str) (fun a v r=>uniq_s a v r) l e
    subst q
    exact ⟨a,rfl,h,f,by simpa using b⟩
theorem dST_of {zs:List Str} (r:Rp H F n v (dST zs)):∃ a,v= .ref a∧H a=some (.tup (zs.map V.str))∧zs.length≤100000:=by
  unfold dST at r
  cases r with
  | @tup m a vs _ h b l e=>
    have q:=vals_map (f:=V.str) (fun a v r=>uniq_s a v r) l e
    subst q
    exact ⟨a,rfl,h,by simpa using b⟩
theorem rp_map {α:Type} {f:α→V} {g:α→Dt} {as:List α} (k:∀ a∈as,Rp H F n (f a) (g a)):∀ (i:Nat) (v:V) (d:Dt),(as.map f)[i]?=some v→(as.map g)[i]?=some d→Rp H F n v d:=by
  intro i v d h1 h2
  rw [List.getElem?_map] at h1 h2
  cases e:as[i]? with
  | none=>rw [e] at h1;cases h1
  | some a=>
    rw [e] at h1 h2
    cases h1
    cases h2
    exact k a (List.mem_of_getElem? e)
theorem rp_L {a:Addr} {ns:List Nat} (h:H a=some (.lst (ns.map nV))) (f:F a) (b:ns.length≤100000):Rp H F (n+1) (.ref a) (dL ns):= .lst h f (by simpa using b) (by simp) (rp_map fun k _=> .int _)
theorem rp_T {a:Addr} {ns:List Nat} (h:H a=some (.tup (ns.map nV))) (b:ns.length≤100000):Rp H F (n+1) (.ref a) (dT ns):= .tup h (by simpa using b) (by simp) (rp_map fun k _=> .int _)
theorem rp_S {a:Addr} {zs:List Str} (h:H a=some (.lst (zs.map V.str))) (f:F a) (b:zs.length≤100000):Rp H F (n+1) (.ref a) (dS zs):= .lst h f (by simpa using b) (by simp) (rp_map fun k _=> .str _)
theorem rp_ST {a:Addr} {zs:List Str} (h:H a=some (.tup (zs.map V.str))) (b:zs.length≤100000):Rp H F (n+1) (.ref a) (dST zs):= .tup h (by simpa using b) (by simp) (rp_map fun k _=> .str _)
theorem lst_of {ds:List Dt} (r:Rp H F n v (.lst ds)):∃ m a vs,n=m+1∧v= .ref a∧H a=some (.lst vs)∧F a∧vs.length=ds.length∧vs.length≤100000∧∀ i,i<ds.length→Rp H F m (vs.getD i .non) (ds.getD i .non):=by
  cases r with
  | @lst m a vs _ h f b l e=>
    refine ⟨m,a,vs,rfl,rfl,h,f,l,b,fun i hi=>e i _ _ ?_ ?_⟩
    · rw [List.getD_eq_getElem?_getD,List.getElem?_eq_getElem (by omega)];rfl
    · rw [List.getD_eq_getElem?_getD,List.getElem?_eq_getElem hi];rfl
theorem tup_of {ds:List Dt} (r:Rp H F n v (.tup ds)):∃ m a vs,n=m+1∧v= .ref a∧H a=some (.tup vs)∧vs.length=ds.length∧vs.length≤100000∧∀ i,i<ds.length→Rp H F m (vs.getD i .non) (ds.getD i .non):=by
  cases r with
  | @tup m a vs _ h b l e=>
    refine ⟨m,a,vs,rfl,rfl,h,l,b,fun i hi=>e i _ _ ?_ ?_⟩
    · rw [List.getD_eq_getElem?_getD,List.getElem?_eq_getElem (by omega)];rfl
    · rw [List.getD_eq_getElem?_getD,List.getElem?_eq_getElem hi];rfl
theorem getD_map {α β:Type} (f:α→β) (as:List α) (i:Nat) (x:β) (y:α) (h:i<as.length):(as.map f).getD i x=f (as.getD i y):=by simp [List.getD_eq_getElem?_getD,h]
theorem getD_str {zs:List Str} {i:Nat} (h:i<(zs.map V.str).length):(zs.map V.str).getD i .non= .str (zs.getD i Str.empty):=getD_map V.str zs i .non Str.empty (by simpa using h)
theorem getD_mem {α:Type} {as:List α} {i:Nat} {y:α} (h:i<as.length):as.getD i y∈as:=by
  rw [List.getD_eq_getElem?_getD,List.getElem?_eq_getElem h]
  exact List.getElem_mem h
theorem range_map {α β:Type} (f:α→β) (as:List α) (y:α):(List.range as.length).map (fun i=>f (as.getD i y))=as.map f:=map_range_getD f as y
end
end L2
namespace L2
open PySem PySem.Spec PyProof.Rows
theorem Rp.ins {H:Hp} {F:Addr→Prop} {n:Nat} {v:V} {d:Dt} {x C dx:Addr} {fs:List (Str × V)} {o:HO} (r:Rp H F n v d) (h:H x=some (.ins C dx fs)):Rp (L2.upd H x o) F n v d:=by
  induction r with
  | non=>exact .non
  | bl b=>exact .bl b
  | int i=>exact .int i
  | str z=>exact .str z
  | @lst n a vs ds q f b l e ih=>
    refine .lst ?_ f b l ih
    rw [upd_ne (ne_of q h (by intro z;cases z))]
    exact q
  | @tup n a vs ds q b l e ih=>
    refine .tup ?_ b l ih
    rw [upd_ne (ne_of q h (by intro z;cases z))]
    exact q
def But (x:Addr) (H H':Hp):Prop:=∀ b o,H b=some o→b≠x→H' b=some o
theorem But.same {x:Addr} {H H1 H2:Hp} (b:But x H H1) (s:Same H1 H2):But x H H2:=fun a o e n=>s _ _ (b a o e n)
theorem But.of {x:Addr} {H H1:Hp} (s:Same H H1):But x H H1:=fun a o e _=>s _ _ e
theorem But.put {x:Addr} {H H1:Hp} {o:HO} (b:But x H H1):But x H (upd H1 x o):=fun a u e n=>by rw [upd_ne n];exact b a u e n
theorem But.rp {x:Addr} {H H':Hp} {F:Addr→Prop} {n:Nat} {v:V} {d:Dt} {C dx:Addr} {fs:List (Str × V)} (k:But x H H') (h:H x=some (.ins C dx fs)) (r:Rp H F n v d):Rp H' F n v d:=by
  induction r with
  | non=>exact .non
  | bl b=>exact .bl b
  | int i=>exact .int i
  | str z=>exact .str z
  | @lst n a vs ds q f b l e ih=>exact .lst (k _ _ q (ne_of q h (by intro z;cases z))) f b l ih
  | @tup n a vs ds q b l e ih=>exact .tup (k _ _ q (ne_of q h (by intro z;cases z))) b l ih
end L2
namespace L2
open PySem PySem.Spec PyProof.Rows
theorem Rp.tupd {H:Hp} {F:Addr→Prop} {n:Nat} {D t:Addr} {ds:List Dt} {ys:List V} (r:Rp H F (n+1) (.ref D) (.lst ds)) (hl:H D=some (.lst ys)) (ht:H t=none):Rp (L2.upd H t (.tup ys)) F (n+1) (.ref t) (.tup ds):=by
  cases r with
  | @lst _ _ vs _ q f b l ee=>
    rw [hl] at q
    cases q
    exact .tup upd_same b l fun i v e h1 h2=>(ee i v e h1 h2).new ht
theorem map_T (ls:List (List Nat)):(List.range ls.length).map (fun i=>dT (ls.getD i []))=ls.map dT:=map_range_getD dT ls []
theorem map_L (ls:List (List Nat)):(List.range ls.length).map (fun i=>dL (ls.getD i []))=ls.map dL:=map_range_getD dL ls []
end L2
namespace L2
open PySem PySem.Spec PyProof.Rows
section
variable {H:Hp} {a:Addr} {kvs:List (Key × V)}
end
theorem cut_from {xs:List V} {k:Int} (h:0≤k):cutV xs (some k) none=xs.drop k.toNat:=by
  unfold cutV
  have e2:HT.sIx xs.length xs.length none=xs.length:=rfl
  rw [e2]
  have e1:HT.sIx xs.length 0 (some k)=min k.toNat xs.length:=by
    unfold HT.sIx
    simp only
    split <;> omega
  rw [e1]
  by_cases q:k.toNat≤xs.length
  · rw [Nat.min_eq_left q,List.take_of_length_le (by simp)]
  · rw [Nat.min_eq_right (by omega),List.drop_of_length_le (Nat.le_refl _),List.drop_of_length_le (by omega)]
    simp
theorem cut_to {xs:List V} {k:Int} (h:0≤k):cutV xs none (some k)=xs.take k.toNat:=by
  unfold cutV
  have e2:HT.sIx xs.length 0 none=0:=rfl
  rw [e2,List.drop_zero]
  have e1:HT.sIx xs.length xs.length (some k)=min k.toNat xs.length:=by
    unfold HT.sIx
    simp only
    split <;> omega
  rw [e1,Nat.sub_zero]
  by_cases q:k.toNat≤xs.length
  · rw [Nat.min_eq_left q]
  · rw [Nat.min_eq_right (by omega),List.take_of_length_le (Nat.le_refl _),List.take_of_length_le (by omega)]
section
variable {K:PySem.W.Frag} {wi:TI} {own:List Str} {fr:List (Str × Nat)} {g:TG} {tc:TT} {te tl:TE} {tb:TS} {D:Ends} {σ:St} {H:Hp} {Q:VK} {R:It→Hp→Prop} {ta:TA}
theorem rd_comp (h:wi σ H fun J H1=>∀ D,H1 D=none→CompW J (blkSt own fr σ) g tc te Q H1 D):tComp wi own fr g tc te σ H Q:=h
theorem rd_for (h:wi σ H fun J H1=>∃ W:Nat→Nat→St→Hp→Prop,(∃ m,W 0 m σ H1)∧∀ i m σ H,W i m σ H→
  (J.stop i H∧D.nx σ H)∨(J.go i H∧∃ N:St→Hp→Prop,(∀ σ' H',N σ' H'→∃ m',m'<m∧W (i+1) m' σ' H')∧∀ x H',J.yld i H x H'→g x σ H' fun σ2 H2=>tb { D with nx:=N,ct:=N,bk:=D.nx } σ2 H2)):tFor wi g tb D σ H:=h
theorem rd_iL (h:tl σ H fun x H1=>∃ a,x= .ref a∧(∃ xs,SqL K H1 a xs)∧R (Itl K a) H1):iList K tl σ H R:=h
theorem rd_iT (h:tl σ H fun x H1=>∃ a,x= .ref a∧(∃ xs,SqT K H1 a xs)∧R (Itt K a) H1):iTup K tl σ H R:=h
theorem rd_iQ (h:tl σ H fun x H1=>∃ tp a,x= .ref a∧(∃ xs,SqS tp K H1 a xs)∧R (Isq tp K a) H1):iSq K tl σ H R:=h
theorem rd_iE (h:ta σ H fun vs H1=>∃ a,vs=[.ref a]∧(∃ xs,SqL K H1 a xs)∧R (Ite K a) H1):iEnum K ta σ H R:=h
theorem rd_iF (h:ta σ H fun vs H1=>∃ tp a,vs=[.ref a]∧(∃ xs,SqS tp K H1 a xs)∧R (IteS tp K a) H1):iEnumS K ta σ H R:=h
theorem rd_iZ (h:ta σ H fun vs H1=>∃ t1 t2 a b,vs=[.ref a, .ref b]∧(∃ xs,SqS t1 K H1 a xs)∧(∃ ys,SqS t2 K H1 b ys)∧R (Izs t1 t2 K a b) H1):iZs K ta σ H R:=h
theorem rd_i1 (h:ta σ H fun vs H1=>∃ j:Int,vs=[.int j]∧ -(2 ^ 62)≤j∧j<2 ^ 62∧R (Itr 0 j.toNat) H1):iRng1 ta σ H R:=h
theorem rd_i2 (h:ta σ H fun vs H1=>∃ i j:Int,vs=[.int i, .int j]∧(-(2 ^ 62)≤i∧i<2 ^ 62∧ -(2 ^ 62)≤j∧j<2 ^ 62)∧R (Itr i (j - i).toNat) H1):iRng2 ta σ H R:=h
theorem rd_i3 (h:ta σ H fun vs H1=>∃ i j c:Int,vs=[.int i, .int j, .int c]∧(-(2 ^ 40)≤i∧i<2 ^ 40)∧(-(2 ^ 40)≤j∧j<2 ^ 40)∧(-(2 ^ 20)≤c∧c<2 ^ 20)∧c≠0∧R (Itc i c (Builtin.Range.rangeSize i j c).toNat) H1):iRng3 ta σ H R:=h
end
theorem rd_gtup {K:PySem.W.Frag} {n:Nat} {t:TGs} {a:Addr} {xs:List V} {σ:St} {H:Hp} {QS:St→Hp→Prop} (h:SqT K H a xs) (l:xs.length=n) (k:t xs σ H QS):gTup K n t (.ref a) σ H QS:=⟨a,xs,rfl,h,l,k⟩
theorem rd_gcons {t:TG} {u:TGs} {v:V} {vs:List V} {σ:St} {H:Hp} {QS:St→Hp→Prop} (k:t v σ H fun σ' H'=>u vs σ' H' QS):gCons t u (v::vs) σ H QS:=⟨v,vs,rfl,k⟩
theorem rd_gnil {σ:St} {H:Hp} {QS:St→Hp→Prop} (k:QS σ H):gNil [] σ H QS:=⟨rfl,k⟩
theorem fs_range0 {H:Hp} {i1 n:Nat}:FSrc (Itr 0 n) (gName i1) H n (fun i σ=>σ.set i1 (some (.int (i:Nat)))):=by
  have:=fs_range (H:=H) (i1:=i1) (lo:=0) (n:=n)
  simpa using this
theorem src_range0 {n:Nat} {σ0:St} {H:Hp} (h0:σ0[0]?=some none):SrcOk (Itr 0 n) (gName 0) σ0 H n (fun i=>σ0.set 0 (some (.int (i:Nat)))):=by
  have:=src_range (H:=H) (lo:=0) (n:=n) h0
  simpa using this
theorem rp_two {H:Hp} {F:Addr→Prop} {n:Nat} {a:Addr} {x y:V} {d e:Dt} (h:H a=some (.lst [x,y])) (f:F a) (r1:Rp H F n x d) (r2:Rp H F n y e):Rp H F (n+1) (.ref a) (.lst [d,e]):=by
  refine .lst h f (by simp) rfl fun i v u h1 h2=> ?_
  match i with
  | 0=>cases h1;cases h2;exact r1
  | 1=>cases h1;cases h2;exact r2
  | i+2=>cases h1
theorem rp_twoT {H:Hp} {F:Addr→Prop} {n:Nat} {a:Addr} {x y:V} {d e:Dt} (h:H a=some (.tup [x,y])) (r1:Rp H F n x d) (r2:Rp H F n y e):Rp H F (n+1) (.ref a) (.tup [d,e]):=by
  refine .tup h (by simp) rfl fun i v u h1 h2=> ?_
  match i with
  | 0=>cases h1;cases h2;exact r1
  | 1=>cases h1;cases h2;exact r2
  | i+2=>cases h1
theorem iteNF {A B:Prop} (h:B):if (!true)=true then A else B:=by simpa using h
theorem iteNT {A B:Prop} (h:A):if (!false)=true then A else B:=by simpa using h
end L2
namespace L2
open PySem PySem.Spec PyProof.Rows
theorem rp_tup7 {H:Hp} {F:Addr→Prop} {n:Nat} {a:Addr} {v0 v1 v2 v3 v4 v5 v6:V} {d0 d1 d2 d3 d4 d5 d6:Dt} (h:H a=some (.tup [v0,v1,v2,v3,v4,v5,v6])) (r0:Rp H F n v0 d0) (r1:Rp H F n v1 d1) (r2:Rp H F n v2 d2) (r3:Rp H F n v3 d3) (r4:Rp H F n v4 d4) (r5:Rp H F n v5 d5) (r6:Rp H F n v6 d6):
    Rp H F (n+1) (.ref a) (.tup [d0,d1,d2,d3,d4,d5,d6]):=by
  refine .tup h (by simp) rfl fun i v u h1 h2=> ?_
  match i with
  | 0=>cases h1;cases h2;exact r0
  | 1=>cases h1;cases h2;exact r1
  | 2=>cases h1;cases h2;exact r2
  | 3=>cases h1;cases h2;exact r3
  | 4=>cases h1;cases h2;exact r4
  | 5=>cases h1;cases h2;exact r5
  | 6=>cases h1;cases h2;exact r6
  | i+7=>cases h1
theorem len_cons {α:Type} {xs:List α} {n:Nat} (h:xs.length=n+1):∃ x ys,xs=x::ys∧ys.length=n:=by
  cases xs with
  | nil=>cases h
  | cons x ys=>exact ⟨x,ys,rfl,Nat.succ.inj h⟩
theorem tup7_of {H:Hp} {F:Addr→Prop} {n:Nat} {v:V} {d0 d1 d2 d3 d4 d5 d6:Dt} (r:Rp H F n v (.tup [d0,d1,d2,d3,d4,d5,d6])):∃ m a v0 v1 v2 v3 v4 v5 v6,n=m+1∧v= .ref a∧H a=some (.tup [v0,v1,v2,v3,v4,v5,v6])∧
    Rp H F m v0 d0∧Rp H F m v1 d1∧Rp H F m v2 d2∧Rp H F m v3 d3∧Rp H F m v4 d4∧Rp H F m v5 d5∧Rp H F m v6 d6:=by
  cases r with
  | @tup m a vs _ h b l e=>
    replace l:vs.length=7:=l
    obtain ⟨v0,w0,rfl,l0⟩:=len_cons l
    obtain ⟨v1,w1,rfl,l1⟩:=len_cons l0
    obtain ⟨v2,w2,rfl,l2⟩:=len_cons l1
    obtain ⟨v3,w3,rfl,l3⟩:=len_cons l2
    obtain ⟨v4,w4,rfl,l4⟩:=len_cons l3
    obtain ⟨v5,w5,rfl,l5⟩:=len_cons l4
    obtain ⟨v6,w6,rfl,l6⟩:=len_cons l5
    cases List.eq_nil_of_length_eq_zero l6
    exact ⟨m,a,v0,v1,v2,v3,v4,v5,v6,rfl,rfl,h,e 0 _ _ rfl rfl,e 1 _ _ rfl rfl,e 2 _ _ rfl rfl,e 3 _ _ rfl rfl,e 4 _ _ rfl rfl,e 5 _ _ rfl rfl,e 6 _ _ rfl rfl⟩
end L2
namespace L2
open PySem PySem.Spec PyProof.Rows
theorem ifJ {c:TT} {t u:TS} {D:Ends} {σ:St} {H:Hp} (J:St→Hp→Prop) (h1:∀ σ' H',J σ' H'→D.nx σ' H') (h2:(∀ σ' H',J σ' H'→D.nx σ' H')→tIfS c t u D σ H):tIfS c t u D σ H:=h2 h1
theorem dLL_map {α:Type} (f:α→List Nat) (xs:List α):Dt.lst (xs.map fun x=>dL (f x))=dLL (xs.map f):=by unfold dLL;rw [List.map_map];rfl
theorem dL_map {α:Type} (f:α→Nat) (xs:List α):Dt.lst (xs.map fun x=>dN (f x))=dL (xs.map f):=by unfold dL;rw [List.map_map];rfl
theorem dS_map {α:Type} (f:α→Str) (xs:List α):Dt.lst (xs.map fun x=>Dt.str (f x))=dS (xs.map f):=by unfold dS;rw [List.map_map];rfl
end L2
namespace L2
open PySem PySem.Spec PyProof.Rows
end L2
namespace L2
theorem getD_el {α:Type} {as:List α} {i:Nat} {y:α} (h:i<as.length):as.getD i y=as[i]:=by
  rw [List.getD_eq_getElem?_getD,List.getElem?_eq_getElem h]
  rfl
end L2
namespace L2
open PySem PySem.Spec PyProof.Rows
end L2
namespace L2
open PySem PySem.Spec PyProof.Rows
theorem range_getD {n j y:Nat} (h:j<n):(List.range n).getD j y=j:=by
  rw [getD_el (by simpa using h),List.getElem_range]
theorem getD_rmap {α:Type} (f:Nat→α) {n j:Nat} {y:α} (h:j<n):((List.range n).map f).getD j y=f j:=by
  rw [getD_map f (List.range n) j y 0 (by simpa using h),range_getD h]
def CDivL (i j:Int):Prop:=0<j∧j<2 ^ 200
theorem log_small {j:Int} (h0:0<j) (h:j<2 ^ 200):j.natAbs.log2<9000:=by
  have h1:j.natAbs<2 ^ 200:=by omega
  have:=(Nat.log2_lt (show j.natAbs≠0 by omega)).mpr h1
  omega
theorem op_fdivL {X:Cx}:OpR X (binaryOp .FloorDiv) (rI CDivL fun i j=> .int (i / j)):=opI fun i j _ _ _ _ _ hc q=>by
  rw [← Int.fdiv_eq_ediv_of_nonneg i (by have:=hc.1;omega)] at q
  exact floordiv_int (by have:=hc.1;omega) q (.inl (PyProof.noPylong_of_log2 (log_small hc.1 hc.2)))
end L2
namespace L2
open PySem PySem.Spec PyProof.Rows
section
variable {prog:Program} {w:World} {A:Around} {E:Value→Shared→Prop} {s:Shared} {T:String} {r d:Addr} {n:Nat} {P:Nat→Value→Prop} {St:Nat→Heap→Prop}
end
section
variable {prog:Program} {w:World} {A:Around} {E:Value→Shared→Prop} {s:Shared}
end
section
variable {X:Cx} {K:PySem.W.Frag} {e o:Expr} {ta:TA} {to:TE} {p p2 pos pos2 apos cpos:Pos}
end
end L2
namespace L2
open PySem PySem.Spec PyProof.Rows
section
variable {X:Cx} {K:PySem.W.Frag} {e o:Expr} {es:List Expr} {ta to:TE} {t:TA} {f name:Str} {pos apos cpos:Pos} {T id:String} {r:V→List V→Hp→VK→Prop}
theorem k_fld (he:PE X e ta) (hb:attributeBase e f X.env (eval e X.env)=eval e X.env) (hK:X.K=K:=by rfl):PE X (.Attribute e f pos) (tFld K ta f):=by
  subst hK
  exact pe_fld he hb
theorem kx_bm0 (pa:PlainAttrs T) (slot:Slot T name id) (hty:typeOf (.builtin id)=pure (.type "method_descriptor")) (hm:MtR X id r) (ho:PE X o to) (hK:X.K=K:=by rfl)
    (hbase:attributeBase o name X.env (eval o X.env)=eval o X.env:=by rfl) (hline:(apos.endLine == cpos.line)=true:=by rfl):PE X (.Call (.Attribute o name apos) [] [] cpos) (tBM0 K T r to):=by
  subst hK
  exact pe_bm0 pa slot hty hm ho hbase hline
theorem kx_bm (pa:PlainAttrs T) (slot:Slot T name id) (hty:typeOf (.builtin id)=pure (.type "method_descriptor")) (hm:MtR X id r) (ho:PE X o to) (ha:PA X (e::es) t) (hK:X.K=K:=by rfl)
    (hbase:attributeBase o name X.env (eval o X.env)=eval o X.env:=by rfl)
    (hfew:((backTo cpos (starEach (e::es) X.env)).all (fun x=> !x.1)&&(backToKw cpos (keywordEach [] X.env)).all (fun x=>x.1.isSome)
      && decide ((e::es).length+([]:List Keyword).length+(if ([]:List Keyword).isEmpty then 0 else 1)<30))=true:=by rfl)
    (hline:(apos.endLine == cpos.line)=true:=by rfl) (hs:starEach (e::es) X.env=(false,eval e X.env)::starEach es X.env:=by rfl) (hplain:(backTo cpos (starEach es X.env)).any (·.1)=false:=by rfl):
    PE X (.Call (.Attribute o name apos) (e::es) [] cpos) (tBM K T r to t):=by
  subst hK
  exact pe_bm pa slot hty hm ho ha hbase hfew hline hs hplain
end
end L2
namespace L2
open PySem PySem.Spec PyProof.Rows
section
variable {prog:Program} {w:World} {A:Around} {E:Value→Shared→Prop} {s:Shared}
end
section
variable {X:Cx} {K:PySem.W.Frag} {e o:Expr} {ta:TA} {to:TE} {p p2 pos pos2 apos cpos:Pos}
end
section
variable {X:Cx} {k:Nat} {e o:Expr} {es:List Expr} {t:TA} {to:TE} {pos:Pos} {S:Addr→Sp→Prop}
end
theorem arg1 {α:Type} {P:List α→Prop} (h:∀ a0,P [a0]):∀ us:List α,us.length=1→P us:=fun us hl=>match us,hl with | [a0],_=>h a0
theorem arg2 {α:Type} {P:List α→Prop} (h:∀ a0 a1,P [a0,a1]):∀ us:List α,us.length=2→P us:=fun us hl=>match us,hl with | [a0,a1],_=>h a0 a1
theorem arg3 {α:Type} {P:List α→Prop} (h:∀ a0 a1 a2,P [a0,a1,a2]):∀ us:List α,us.length=3→P us:=fun us hl=>match us,hl with | [a0,a1,a2],_=>h a0 a1 a2
theorem arg4 {α:Type} {P:List α→Prop} (h:∀ a0 a1 a2 a3,P [a0,a1,a2,a3]):∀ us:List α,us.length=4→P us:=fun us hl=>match us,hl with | [a0,a1,a2,a3],_=>h a0 a1 a2 a3
theorem arg5 {α:Type} {P:List α→Prop} (h:∀ a0 a1 a2 a3 a4,P [a0,a1,a2,a3,a4]):∀ us:List α,us.length=5→P us:=fun us hl=>match us,hl with | [a0,a1,a2,a3,a4],_=>h a0 a1 a2 a3 a4
theorem arg7 {α:Type} {P:List α→Prop} (h:∀ a0 a1 a2 a3 a4 a5 a6,P [a0,a1,a2,a3,a4,a5,a6]):∀ us:List α,us.length=7→P us:=fun us hl=>match us,hl with | [a0,a1,a2,a3,a4,a5,a6],_=>h a0 a1 a2 a3 a4 a5 a6
theorem arg8 {α:Type} {P:List α→Prop} (h:∀ a0 a1 a2 a3 a4 a5 a6 a7,P [a0,a1,a2,a3,a4,a5,a6,a7]):∀ us:List α,us.length=8→P us:=fun us hl=>match us,hl with | [a0,a1,a2,a3,a4,a5,a6,a7],_=>h a0 a1 a2 a3 a4 a5 a6 a7
end L2
namespace L2
open PySem PySem.Spec PyProof.Rows
theorem newEnv_blkC {M:Model} {A:Around} {E:Value→Shared→Prop} {s:Shared} {scope:Scope} {globals:Addr} {closure:List (Str × Addr)} {qual:Str} {outer:Env} {cx:Str} {Q:Env→Shared→Prop}
    (hc1:∀ n cl,cellsFrom n scope.names cl=(cx,n)::cl) (hc2:∀ h:Heap,pushCells h scope.names=h.push { cls:= .type "cell",data:= .cell none })
    (hQ:Q (newEnv scope s.heap.objs.size globals ((cx,s.heap.objs.size+1)::closure) qual none .none (some outer) builtinsNs) { s with heap:=(s.heap.push { cls:= .type "dict",data:= .dict #[] }).push { cls:= .type "cell",data:= .cell none } }):
    wpAny M A (newFunctionEnv scope globals closure [] qual none .none (some outer)) Q E s:=by
  simp only [newFunctionEnv,Option.isSome_some,if_true]
  refine wpAny_bind (wpAny_alloc ?_)
  refine wpAny_bind (wpAny_layCells _ (fun name kind cells=>by cases hkc:kind == NameKind.cell <;> simp [hkc]) _ _ _ _ ?_)
  rw [hc1,hc2]
  have e:(s.heap.push { cls:= .type "dict",data:= .dict #[] }).objs.size=s.heap.objs.size+1:=Heap.size_push ..
  simp only [e]
  refine wpAny_bind ?_
  rw [List.forIn_nil]
  exact wpAny_pure (wpAny_pure hQ)
structure BlkScopeC (X:Cx) (scope:Scope) (cx:Str) (own:List Str) (fr:List (Str × Nat)):Prop where
  kind:scope.kind= .function
  onec:∀ y∈scope.names,y.2= .cell→y.1=cx
  isc:scope.names.lookup cx=some .cell
  lay:∀ n cl,cellsFrom n scope.names cl=(cx,n)::cl
  push:∀ h:Heap,pushCells h scope.names=h.push { cls:= .type "cell",data:= .cell none }
  loc:∀ y∈scope.names,y.2= .local→scope.names.lookup y.1=some .local
  free:∀ y∈scope.names,y.2= .free→(X.env.scope.names.lookup y.1=some .cell∨X.env.scope.names.lookup y.1=some .free)
  fr:∀ p∈fr,X.N[p.2]?=some p.1∧(p.1,NameKind.free)∈scope.names
  only:∀ x,(x,NameKind.free)∈scope.names→scope.names.lookup x=some .free
def blkCxC (X:Cx) (scope:Scope) (cx:Str) (own:List Str) (fr:List (Str × Nat)) (C:Addr) (ex:List Addr) (s:Shared) (H:Hp):Cx where
  prog:=X.prog
  w:=X.w
  K:=X.K
  mg:=X.mg
  base:=X.base
  A:=X.A
  N:=own++fr.map (·.1)
  s₀:=s
  H₀:=H
  env:=compEnvC scope ((cx,C+1)::closOf X.env.cells scope.names []) C X.env
  outer:=X.stack
  stack:=X.stack
  ex:=ex
  fn:=fun y=>y == cx
  calm:=X.calm
  pn:=[]
  xe:=fun _ _=>False
section
variable {X:Cx} {pins:List (Addr × Obj)} {σ:St} {H:Hp} {s:Shared} {scope:Scope} {cx:Str} {own:List Str} {fr:List (Str × Nat)} {fp:List Addr}
theorem BlkScopeC.cells (S:BlkScopeC X scope cx own fr) (ok:X.Ok):∀ y∈scope.names,y.2= .free→∃ c,X.env.cells.lookup y.1=some c:=fun y hy e=>ok.has y.1 (S.free y hy e)
theorem look_cons {α:Type} {x y:Str} {a:α} {l:List (Str × α)} (h:y≠x):((x,a)::l).lookup y=l.lookup y:=by
  have:(y == x)=false:=by simpa using h
  rw [List.lookup_cons,this]
theorem look_same {α:Type} {x:Str} {a:α} {l:List (Str × α)}:((x,a)::l).lookup x=some a:=by rw [List.lookup_cons,beq_self_eq_true]
theorem Inv.blockC {h':Heap} {t':Nat} {m:Str→Option Value} (I:Inv X pins σ H s) (S:BlkScopeC X scope cx own fr) (hf:∀ b∈fp,FpOk X pins H b) (hlt:∀ b∈fp,b<s.heap.objs.size)
    (hns:h'.Ns s.heap.objs.size m) (hce:h'.IsCell (s.heap.objs.size+1) none) (k:∀ b o,s.heap.get? b=some o→h'.get? b=some o):
    Inv (blkCxC X scope cx own fr s.heap.objs.size fp s H) [] (blkSt own fr σ) H { s with heap:=h',toks:=t' }:=by
  have cs:∀ x c,(closOf X.env.cells scope.names []).lookup x=some c→X.env.cells.lookup x=some c:=closOf_sub _ _ (fun _ _ e=>by simp at e)
  have ck:∀ c v,s.heap.IsCell c v→h'.IsCell c v:=fun c v ⟨o,ho,hd⟩=>⟨o,k _ _ ho,hd⟩
  have kf:∀ x,(x,NameKind.free)∈scope.names→∃ c,X.env.cells.lookup x=some c∧(closOf X.env.cells scope.names []).lookup x=some c:=fun x hx=>by
    obtain ⟨c0,e0⟩:=S.cells I.ok (x, .free) hx rfl
    obtain ⟨c,e⟩:=closOf_has (cells:=X.env.cells) scope.names [] x (.inl ⟨hx,c0,e0⟩)
    exact ⟨c,cs _ _ e,e⟩
  have rel:∀ x,(compEnvC scope ((cx,s.heap.objs.size+1)::closOf X.env.cells scope.names []) s.heap.objs.size X.env).kindOf x=(scope.names.lookup x).map fun k=>if (k == NameKind.free&&X.env.scope.kind == .function&&X.env.kindOf x == some .cell)=true then NameKind.cell else k:=fun x=>lookup_rel X.env x scope.names
  have nx:∀ y,(y,NameKind.free)∈scope.names→y≠cx:=fun y hy z=>by
    subst z
    have:=S.only y hy
    rw [S.isc] at this
    cases this
  have old:∀ y c,X.env.cells.lookup y=some c→c<s.heap.objs.size:=fun y c e=>by
    obtain ⟨v,o,ho,_⟩:=I.cell y c e
    exact Heap.lt_size ho
  have ct:∀ y c,(((cx,s.heap.objs.size+1)::closOf X.env.cells scope.names [])).lookup y=some c→(y=cx∧c=s.heap.objs.size+1)∨(y≠cx∧X.env.cells.lookup y=some c):=fun y c e=>by
    by_cases hy:y=cx
    · subst hy
      rw [look_same] at e
      exact .inl ⟨rfl,(Option.some.inj e).symm⟩
    · rw [look_cons hy] at e
      exact .inr ⟨hy,cs _ _ e⟩
  have nc:∀ y,scope.names.lookup y=some .cell→y=cx:=fun y e=>S.onec _ (PySem.mem_of_lookup e) rfl
  refine ⟨⟨I.ok.mod,S.kind,I.ok.glob,I.ok.blt,Nat.le_refl _,fun x y c e1 e2=> ?inj,fun x hx=> ?_,fun x c e q=> ?cab,I.ok.hd,I.ok.frames, .inl rfl,
    fun b hb=>⟨Nat.ne_of_lt (hlt b hb),fun x c e=> ?exf⟩,I.bs,Nat.le_trans I.ok.bsz I.sz,fun b o e hb=> ?_,fun b hb z=>(List.mem_cons.mp (I.stkSub b z)).elim (hf b hb).2.1 (hf b hb).2.2.1,I.stack,I.stkFree⟩,
    rfl,I.bare,Un.kept k,⟨m,hns,fun i x v e1 e2 e3=> ?_⟩,fun x c e=> ?_,I.hok.fresh (Nat.le_refl _),fun x c e=> ?freeC,fun p hp=>absurd (show p∈([]:List (Addr × Obj)) from hp) (by simp),I.hok.kept k,?_⟩
  case inj=>
    rcases ct x c e1 with ⟨h1,h2⟩ | ⟨h1,h2⟩
    · rcases ct y c e2 with ⟨h3,h4⟩ | ⟨h3,h4⟩
      · rw [h1,h3]
      · have:=old y c h4
        rw [h2] at this
        exact absurd this (Nat.not_lt.mpr (Nat.le_succ _))
    · rcases ct y c e2 with ⟨h3,h4⟩ | ⟨h3,h4⟩
      · have:=old x c h2
        rw [h4] at this
        exact absurd this (Nat.not_lt.mpr (Nat.le_succ _))
      · exact I.ok.inj x y c h2 h4
  case cab=>
    have e:(x == cx)=true:=e
    have ex:x=cx:=eq_of_beq e
    rcases ct x c q with ⟨_,h2⟩ | ⟨h1,_⟩
    · rw [h2]
      exact Nat.le_succ _
    · exact absurd ex h1
  case exf=>
    rcases ct x c e with ⟨_,h2⟩ | ⟨_,h2⟩
    · have:=hlt b hb
      intro z
      rw [← z,h2] at this
      exact absurd this (Nat.not_lt.mpr (Nat.le_succ _))
    · exact (hf b hb).2.2.2.2.1 x c h2
  case freeC=>
    rcases ct x c e with ⟨_,h2⟩ | ⟨_,h2⟩
    · rw [h2]
      exact I.hok.fresh (Nat.le_succ _)
    · exact I.freeC x c h2
  · have hx:(compEnvC scope ((cx,s.heap.objs.size+1)::closOf X.env.cells scope.names []) s.heap.objs.size X.env).kindOf x=some .cell∨(compEnvC scope ((cx,s.heap.objs.size+1)::closOf X.env.cells scope.names []) s.heap.objs.size X.env).kindOf x=some .free:=hx
    rw [rel x] at hx
    by_cases hxc:x=cx
    · subst hxc
      exact ⟨_,look_same⟩
    have q:scope.names.lookup x=some .free:=by
      cases e:scope.names.lookup x with
      | none=>rw [e] at hx;simp at hx
      | some kk=>
        rw [e] at hx
        simp only [Option.map_some,Option.some.injEq] at hx
        by_cases hk:kk= .free
        · rw [hk]
        · have hb:(kk == NameKind.free)=false:=by simpa using hk
          simp only [hb,Bool.false_and,Bool.false_eq_true,if_false] at hx
          rcases hx with hx | hx
          · rw [hx] at e;exact absurd (nc x e) hxc
          · exact absurd hx hk
    obtain ⟨c,_,e⟩:=kf x (PySem.mem_of_lookup q)
    exact ⟨c,(look_cons hxc).trans e⟩
  · rcases (hf b hb).2.2.2.1 with z | z
    · exact I.ok.noex b o e z
    · exact absurd (Nat.lt_of_lt_of_le (Heap.lt_size (I.ok.bs b o e).1) z) (Nat.lt_irrefl _)
  · have e1:(own++fr.map (·.1))[i]?=some x:=e1
    have e2:(blkSt own fr σ)[i]?=some (some v):=e2
    unfold blkSt at e2
    by_cases hi:i<own.length
    · rw [List.getElem?_append_left (by simpa using hi),List.getElem?_map] at e2
      rw [List.getElem?_eq_getElem hi] at e2
      simp at e2
    · rw [List.getElem?_append_right (by simpa using hi),List.getElem?_map,List.length_map] at e2
      rw [List.getElem?_append_right (by omega),List.getElem?_map] at e1
      cases ep:fr[i - own.length]? with
      | none=>rw [ep] at e1;simp at e1
      | some p=>
        rw [ep] at e1 e2
        simp only [Option.map_some,Option.some.injEq] at e1 e2
        subst e1
        obtain ⟨h1,h2⟩:=S.fr p (List.mem_of_getElem? ep)
        have e4:σ[p.2]?=some (some v):=by
          cases q:σ[p.2]? with
          | none=>rw [q] at e2;simp at e2
          | some z=>rw [q] at e2;simp at e2;rw [e2]
        have kx:=S.free _ h2 rfl
        obtain ⟨m0,hn0,hl0⟩:=I.loc
        obtain ⟨u,r,l⟩:=hl0 p.2 p.1 v h1 e4 (kx.elim (fun z=> .inr (.inl z)) fun z=> .inr (.inr z))
        refine ⟨u,r,?_⟩
        rcases l with ⟨z,_⟩ | ⟨_,c,hc,hcell⟩
        · have z:X.env.scope.names.lookup p.1=some .local:=z
          rcases kx with y | y <;> (rw [y] at z;cases z)
        · obtain ⟨c',q1,q2⟩:=kf p.1 h2
          rw [hc] at q1
          cases q1
          refine .inr ⟨?_,c,(look_cons (nx _ h2)).trans q2,ck _ _ hcell⟩
          show (compEnvC scope ((cx,s.heap.objs.size+1)::closOf X.env.cells scope.names []) s.heap.objs.size X.env).kindOf p.1=some .cell∨(compEnvC scope ((cx,s.heap.objs.size+1)::closOf X.env.cells scope.names []) s.heap.objs.size X.env).kindOf p.1=some .free
          have e3:(compEnvC scope ((cx,s.heap.objs.size+1)::closOf X.env.cells scope.names []) s.heap.objs.size X.env).kindOf p.1=some .local∨(compEnvC scope ((cx,s.heap.objs.size+1)::closOf X.env.cells scope.names []) s.heap.objs.size X.env).kindOf p.1=some .cell∨(compEnvC scope ((cx,s.heap.objs.size+1)::closOf X.env.cells scope.names []) s.heap.objs.size X.env).kindOf p.1=some .free:=e3
          rcases e3 with e3 | e3
          · exfalso
            rw [rel] at e3
            cases e:scope.names.lookup p.1 with
            | none=>rw [e] at e3;cases e3
            | some kk=>
              rw [e] at e3
              simp only [Option.map_some,Option.some.injEq] at e3
              by_cases hk:kk= .free
              · subst hk;split at e3 <;> cases e3
              · have hb:(kk == NameKind.free)=false:=by simpa using hk
                simp only [hb,Bool.false_and,Bool.false_eq_true,if_false] at e3
                subst e3
                have:=S.only p.1 h2
                rw [this] at e
                cases e
          · exact e3
  · rcases ct x c e with ⟨_,h2⟩ | ⟨_,h2⟩
    · rw [h2]
      exact ⟨none,hce⟩
    · obtain ⟨v,z⟩:=I.cell x c h2
      exact ⟨v,ck _ _ z⟩
  · unfold blkSt
    show _=(own++fr.map (·.1)).length
    simp
end
section
variable {X:Cx}
theorem comp_runC {cx:Str} {elt tg iter:Expr} {ifs:List Expr} {scope:Scope} {pos:Pos} {own:List Str} {fr:List (Str × Nat)} {g:TG} {tc:TT} {te:TE} (hc:X.calm=true) (S:BlkScopeC X scope cx own fr)
    (hg:∀ C ex s H,PG (blkCxC X scope cx own fr C ex s H) tg g) (ht:∀ C ex s H,PTs (blkCxC X scope cx own fr C ex s H) ifs tc) (he:∀ C ex s H,PE (blkCxC X scope cx own fr C ex s H) elt te)
    {pins:List (Addr × Obj)} {σ:St} {H:Hp} {s:Shared} {it:Addr} {fp:List Addr} {tn:Nat→Heap→Prop} {J:It} {E:Value→Shared→Prop}
    (I:Inv X pins σ H s) (T:Turn X.prog X.w X.K tg J fp it tn) (st:tn 0 s.heap) (hf:∀ b∈fp,FpOk X pins H b) {Q:VK}
    (h:∀ D,H D=none→CompW J (blkSt own fr σ) g tc te Q H D)
    {RR:Value→Addr→Result→Shared→Prop}
    (hR:∀ D C H' s',Inv X pins σ H' s'→(∃ m,s'.heap.Ns C m)→FpOk X pins H' C→Q (.ref D) H'→RR (.ref D) C (.ok .next) s'):
    wpAny (model X.prog X.w) X.A (newList []) (fun acc s₃=>wpAny (model X.prog X.w) X.A (newFunctionEnv scope X.env.globals (closOf X.env.cells scope.names []) [] X.env.qual none .none (some X.env)) (fun cenv s₄=>
      codeAny (model X.prog X.w) X.A (.compStart (.ListComp elt [⟨tg,iter,ifs,0⟩] scope pos) 0 (.ref it) acc { cenv with scope:=relabel scope X.env }) (RR acc cenv.locals) s₄) E s₃) E s:=by
  have hDn:H s.heap.objs.size=none:=I.fresh
  obtain ⟨W,⟨m0,w0⟩,turn⟩:=h s.heap.objs.size hDn
  have I3:Inv X pins σ (upd H s.heap.objs.size (.lst [])) { s with heap:=s.heap.push { cls:= .type "list",data:= .seq ([]:List Value).toArray },toks:=s.toks }:=I.lnew .nil (Nat.zero_le _)
  refine wpAny_newObj_type ?_
  generalize hs3:({ s with heap:=s.heap.push { cls:= .type "list",data:= .seq ([]:List Value).toArray } }:Shared)=s3 at I3 ⊢
  have I3:Inv X pins σ (upd H s.heap.objs.size (.lst [])) s3:=I3
  have old3:∀ b o,s.heap.get? b=some o→s3.heap.get? b=some o:=fun b o e=>by rw [← hs3];exact Heap.get?_push_of_some _ e
  have hobj:∀ b∈fp,∃ o,s.heap.get? b=some o∧∀ v,o.data≠ .cell v:=T.obj 0 _ st
  have hne:∀ b∈fp,b≠s.heap.objs.size:=fun b hb=>by obtain ⟨o,e,_⟩:=hobj b hb;exact Nat.ne_of_lt (Heap.lt_size e)
  have hf3:∀ b∈fp,FpOk X pins (upd H s.heap.objs.size (.lst [])) b:=fun b hb=>⟨by rw [upd_ne (hne b hb)];exact (hf b hb).1,(hf b hb).2⟩
  have hlt3:∀ b∈fp,b<s3.heap.objs.size:=fun b hb=>by obtain ⟨o,e,_⟩:=hobj b hb;exact Heap.lt_size (old3 b o e)
  refine newEnv_blkC S.lay S.push ?_
  generalize hh1:((s3.heap.push { cls:= .type "dict",data:= .dict #[] }).push { cls:= .type "cell",data:= .cell none }:Heap)=h₁
  have keep:∀ b o,s3.heap.get? b=some o→h₁.get? b=some o:=fun b o e=>by rw [← hh1];exact Heap.get?_push_of_some _ (Heap.get?_push_of_some _ e)
  have hns:h₁.Ns s3.heap.objs.size (fun _=>none):=by rw [← hh1];exact (Heap.Ns.new ..).push _
  have hce:h₁.IsCell (s3.heap.objs.size+1) none:=by
    rw [← hh1]
    refine ⟨{ cls:= .type "cell",data:= .cell none },?_,rfl⟩
    have:=Heap.get?_push_size (s3.heap.push { cls:= .type "dict",data:= .dict #[] }) (o:={ cls:= .type "cell",data:= .cell none }) rfl
    rw [Heap.size_push] at this
    exact this
  have J0:=I3.blockC (t':=s3.toks) S hf3 hlt3 hns hce keep
  have st3:tn 0 h₁:=T.keep 0 _ _ st fun b hb o e=>keep b o (old3 b o e)
  have loop:codeAny (model X.prog X.w) X.A (.compLoop (.ListComp elt [⟨tg,iter,ifs,0⟩] scope pos) 0 (.ref it) (.ref s.heap.objs.size) (compEnvC scope ((cx,s3.heap.objs.size+1)::closOf X.env.cells scope.names []) s3.heap.objs.size X.env))
      (RR (.ref s.heap.objs.size) s3.heap.objs.size) { s3 with heap:=h₁ }:=by
    have stat:∀ {H':Hp},(∀ b∈fp,H' b=none)→∀ b∈fp,FpOk (blkCxC X scope cx own fr s3.heap.objs.size fp s3 (upd H s.heap.objs.size (.lst []))) [] H' b:=fun {H'} hn b hb=>
      ⟨hn b hb,Nat.ne_of_lt (hlt3 b hb),J0.ok.exfs b hb, .inl hb,(J0.ok.exf b hb).2,fun p hp=>absurd (show p∈([]:List (Addr × Obj)) from hp) (by simp)⟩
    refine compLoop_go (fun n s'=>∃ i ys H',Inv (blkCxC X scope cx own fr s3.heap.objs.size fp s3 (upd H s.heap.objs.size (.lst []))) [] (blkSt own fr σ) H' s'∧tn i s'.heap∧(∀ b∈fp,H' b=none)∧W i n ys H') ?_ m0
      ⟨0,[],_,J0,st3,fun b hb=>(hf3 b hb).1,w0⟩
    rintro n s4 ⟨i,ys,H4,I4,st4,fr4,w4⟩
    rcases turn i n ys H4 w4 with ⟨stop,q⟩ | ⟨go,N,hN,step⟩
    · refine thn (T.done (blkCxC X scope cx own fr s3.heap.objs.size fp s3 (upd H s.heap.objs.size (.lst []))) rfl rfl rfl hc i [] s4 _ H4 (fun _ _=>False) I4 (stat fr4) st4 stop) fun r s5 ⟨hr,I5⟩=> ?_
      subst hr
      obtain ⟨m,hn,_⟩:=id I5.loc
      exact hR _ _ H4 s5 (I3.call' I5.os I5.base I5.hok I5.bare fun b hb=>⟨(hf3 b hb).2.2.2.1,(hf3 b hb).2.1,(hf3 b hb).2.2.2.2.1,(hf3 b hb).2.2.2.2.2⟩) ⟨m,hn⟩ (I3.fpOk (Nat.le_refl _) I5.free) q
    · refine thn (T.item (blkCxC X scope cx own fr s3.heap.objs.size fp s3 (upd H s.heap.objs.size (.lst []))) rfl rfl rfl hc i [] s4 _ H4 (fun _ _=>False) I4 (stat fr4) st4 go) fun r s5 ⟨u,hr,h5⟩=> ?_
      subst hr
      refine thn h5 fun _ s6 ⟨x,H6,I6,r6,y6,st6,fr6⟩=> ?_
      have I6':=I6.pinned (stat fr6) (T.obj _ _ st6)
      refine thn (hg _ _ _ _ _ s6 _ H6 x u _ I6' r6 (step x H6 y6)) fun _ s7 ⟨σ7,H7,I7,kp,q7⟩=> ?_
      refine thn (ht _ _ _ _ _ s7 σ7 H7 _ I7 q7) fun b s8 ⟨H8,I8,q8⟩=> ?_
      have again:∀ {s9:Shared} {H9:Hp} {ys':List V},Inv (blkCxC X scope cx own fr s3.heap.objs.size fp s3 (upd H s.heap.objs.size (.lst []))) ([]++pinsAt fp s6.heap) σ7 H9 s9→N ys' H9→
          ∃ m,m<n∧∃ i ys H',Inv (blkCxC X scope cx own fr s3.heap.objs.size fp s3 (upd H s.heap.objs.size (.lst []))) [] (blkSt own fr σ) H' s9∧tn i s9.heap∧(∀ b∈fp,H' b=none)∧W i m ys H':=fun {s9 H9 ys'} I9 n9=>by
        obtain ⟨m',hm,w9⟩:=hN ys' H9 n9
        refine ⟨m',hm,i+1,ys',H9,I9.unpinned.weak kp.1.symm kp.2,T.keep _ _ _ st6 fun b hb o e=>(I9.pin (b,o) (List.mem_append_right _ (List.mem_append_right _ (mem_pinsAt hb e)))).1,fun b hb=> ?_,w9⟩
        obtain ⟨o,e,d⟩:=T.obj _ _ st6 b hb
        exact (I9.pin (b,o) (List.mem_append_right _ (List.mem_append_right _ (mem_pinsAt hb e)))).2.1
      cases b with
      | false=>
        rw [if_neg Bool.false_ne_true] at q8 ⊢
        exact again I8 q8
      | true=>
        rw [if_pos rfl] at q8 ⊢
        refine thn (he _ _ _ _ _ s8 σ7 H8 _ I8 q8) fun xv s9 ⟨y,H9,I9,r9,hD,hl,n9⟩=> ?_
        refine thn (mt_append _ s9 σ7 H9 (.ref s.heap.objs.size) [y] (.ref s.heap.objs.size) [xv] (fun _ H'=>H'=upd H9 s.heap.objs.size (.lst (ys++[y]))) I9 rfl (.cons r9 .nil) ⟨_,ys,y,rfl,rfl,hD,hl,rfl⟩) fun _ s10 ⟨_,H10,I10,_,q10⟩=> ?_
        subst q10
        exact again I10 n9
  exact codeAny_compStart_list loop (T.self _ 0 _ _ _ st3 loop)
theorem pe_compC {cx:Str} {elt tg iter:Expr} {ifs:List Expr} {scope:Scope} {pos:Pos} {own:List Str} {fr:List (Str × Nat)} {wi:TI} {g:TG} {tc:TT} {te:TE} (hc:X.calm=true) (S:BlkScopeC X scope cx own fr) (hi:PI X tg iter wi)
    (hg:∀ C ex s H,PG (blkCxC X scope cx own fr C ex s H) tg g) (ht:∀ C ex s H,PTs (blkCxC X scope cx own fr C ex s H) ifs tc) (he:∀ C ex s H,PE (blkCxC X scope cx own fr C ex s H) elt te)
    (hs:∀ x,foldedSetIterable iter X.env x=pure x:=by intro _;rfl):PE X (.ListComp elt [⟨tg,iter,ifs,0⟩] scope pos) (tComp wi own fr g tc te):=by
  intro pins s σ H Q I h
  rw [eval_ListComp]
  refine wpAny_comprehension_free (use:=none) rfl hs (closureFor_eq (S.cells I.ok)) S.kind S.loc (thn (hi pins s σ H _ I h) fun xv s₁ h₁=>thn h₁ fun itv s₂ h₂=> ?_)
  obtain ⟨it,fp,tn,J,H2,rfl,I2,T,st2,f2,h2⟩:=h₂
  refine comp_runC (RR:=fun acc C=>compPost (model X.prog X.w) X.A X.xe none (EP X pins σ Q) acc C) hc S hg ht he I2 T st2 f2 h2 ?_
  rintro D C H' s' I' ⟨m,hn⟩ f q
  exact ⟨m,hn,fun h' sb=>⟨.ref D,H',I'.turned (t':=s'.toks) (it:=C) (fun b o hb e=>(sb.2 b hb).trans e) f.1 f.2.1 f.2.2.2.1 f.2.2.2.2.1 f.2.2.2.2.2,rfl,q⟩⟩
end
def blkOkC (sc:Scope) (N:List Str) (scope:Scope) (cx:Str) (own:List Str) (fr:List (Str × Nat)):Bool:=
  decide (scope.kind= .function)&&
  (scope.names.all fun y=>(decide (y.2≠ .cell)||decide (y.1=cx))&&(decide (y.2≠ .local)||decide (scope.names.lookup y.1=some .local))&&
    (decide (y.2≠ .free)||((decide (sc.names.lookup y.1=some .cell)||decide (sc.names.lookup y.1=some .free))&&decide (scope.names.lookup y.1=some .free))))&&
  (fr.all fun p=>decide (N[p.2]?=some p.1)&&decide ((p.1,NameKind.free)∈scope.names))&&
  decide (scope.names.lookup cx=some .cell)&&decide ((own++fr.map (·.1)).Nodup)
section
variable {X:Cx} {scope:Scope} {cx:Str} {own:List Str} {fr:List (Str × Nat)}
theorem BlkScopeC.of (h:blkOkC X.env.scope X.N scope cx own fr=true) (lay:∀ n cl,cellsFrom n scope.names cl=(cx,n)::cl) (push:∀ h:Heap,pushCells h scope.names=h.push { cls:= .type "cell",data:= .cell none }):BlkScopeC X scope cx own fr:=by
  unfold blkOkC at h
  simp only [Bool.and_eq_true,List.all_eq_true,decide_eq_true_iff,Bool.or_eq_true] at h
  obtain ⟨⟨⟨⟨h1,h2⟩,h3⟩,h4⟩,h5⟩:=h
  exact ⟨h1,fun y hy e=>(h2 y hy).1.1.resolve_left (fun z=>z e),h4,lay,push,fun y hy e=>(h2 y hy).1.2.resolve_left (fun z=>z e),fun y hy e=>((h2 y hy).2.resolve_left (fun z=>z e)).1,fun p hp=>h3 p hp,fun x hx=>((h2 _ hx).2.resolve_left (fun z=>z rfl)).2⟩
theorem pg_ownC {px:Pos} (h:blkOkC X.env.scope X.N scope cx [cx] fr=true) (C:Addr) (ex:List Addr) (s:Shared) (H:Hp):PG (blkCxC X scope cx [cx] fr C ex s H) (.Name cx px) (gName 0):=by
  unfold blkOkC at h
  simp only [Bool.and_eq_true,List.all_eq_true,decide_eq_true_iff,Bool.or_eq_true] at h
  have hl:(relabel scope X.env).names.lookup cx=some .cell:=by
    have:=lookup_rel X.env cx scope.names
    rw [h.1.2] at this
    exact this
  exact pg_name h.2 rfl (.inr hl) (.inl (beq_self_eq_true cx))
theorem pe_compC1 {elt iter:Expr} {px:Pos} {ifs:List Expr} {pos:Pos} {wi:TI} {tc:TT} {te:TE} (hi:PI X (.Name cx px) iter wi)
    (ht:∀ C ex s H,PTs (blkCxC X scope cx [cx] (frOf X.N scope) C ex s H) ifs tc) (he:∀ C ex s H,PE (blkCxC X scope cx [cx] (frOf X.N scope) C ex s H) elt te)
    (hb:blkOkC X.env.scope X.N scope cx [cx] (frOf X.N scope)=true:=by with_unfolding_all rfl) (hc:X.calm=true:=by rfl)
    (lay:∀ n cl,cellsFrom n scope.names cl=(cx,n)::cl:=by intro _ _;rfl) (push:∀ h:Heap,pushCells h scope.names=h.push { cls:= .type "cell",data:= .cell none }:=by intro _;rfl)
    (hs:∀ x,foldedSetIterable iter X.env x=pure x:=by intro _;rfl):PE X (.ListComp elt [⟨.Name cx px,iter,ifs,0⟩] scope pos) (tComp wi [cx] (frOf X.N scope) (gName 0) tc te):=
  pe_compC hc (.of hb lay push) hi (fun C ex s H=>pg_ownC hb C ex s H) ht he hs
end
end L2
namespace L2
open PySem PySem.Spec PyProof.Rows
section
variable {X:Cx} {K:PySem.W.Frag} {scope:Scope} {fr:List (Str × Nat)}
theorem pe_comp1N {elt iter:Expr} {x:Str} {px:Pos} {ifs:List Expr} {pos:Pos} {wi:TI} {tc:TT} {te:TE} (hi:PI X (.Name x px) iter wi)
    (ht:∀ C ex s H,PTs (blkCx X scope [x] fr C ex s H) ifs tc) (he:∀ C ex s H,PE (blkCx X scope [x] fr C ex s H) elt te)
    (hb:blkOk X.env.scope X.N scope [x] fr=true:=by with_unfolding_all rfl) (hc:X.calm=true:=by rfl)
    (hs:∀ x,foldedSetIterable iter X.env x=pure x:=by intro _;rfl):PE X (.ListComp elt [⟨.Name x px,iter,ifs,0⟩] scope pos) (tComp wi [x] fr (gName 0) tc te):=
  pe_comp hc (.of hb) hi (fun C ex s H=>pg_own hb rfl C ex s H) ht he hs
end
end L2
namespace L2
open PySem PySem.Spec PyProof.Rows
section
variable {X:Cx} {e o:Expr} {es:List Expr} {t:TA} {to:TE} {pos:Pos} {S:Addr→Sp→Prop}
end
end L2
namespace L2
open PySem PySem.Spec PyProof.Rows
def CMulN (i j:Int):Prop:=∃ m n:Nat,i=m∧j=n∧m<2 ^ 900∧n<2 ^ 900
theorem CMulN.ok {i j:Int} (h:CMulN i j):IntMulOk i j:=by
  obtain ⟨m,n,rfl,rfl,h1,h2⟩:=h
  have b1:=bits_eq m
  have b2:=bits_eq n
  have c1:=MM.bits_le h1
  have c2:=MM.bits_le h2
  unfold IntMulOk
  have e:Builtin.Int.intTooBig (((Builtin.Int.intBits (m:Int):Nat):Int)+((Builtin.Int.intBits (n:Int):Nat):Int))=false:=by
    unfold Builtin.Int.intTooBig
    rw [b1,b2]
    refine decide_eq_false (fun z=> ?_)
    have:(1800:Int)≤(bitsLine:Nat):=by decide
    omega
  rw [e]
  simp
theorem op_mulN {X:Cx}:OpR X (binaryOp .Mult) (rI CMulN fun i j=> .int (i*j)):=opI fun _ _ _ _ _ _ _ hc q=>mul_int q hc.ok
def rMax2:List V→Hp→VK→Prop:=fun xs H Q=>∃ i j,xs=[.int i, .int j]∧Q (.int (if j>i then j else i)) H
def rMin2:List V→Hp→VK→Prop:=fun xs H Q=>∃ i j,xs=[.int i, .int j]∧Q (.int (if j<i then j else i)) H
section
variable {X:Cx} {K:PySem.W.Frag}
theorem k_max2 (hc:X.calm=true:=by rfl):CallR X (.builtin "max") rMax2:=call_max2 hc
theorem k_min2 (hc:X.calm=true:=by rfl):CallR X (.builtin "min") rMin2:=call_min2 hc
end
theorem rd_max2 {H:Hp} {Q:VK} {i j:Int} (h:Q (.int (if j>i then j else i)) H):rMax2 [.int i, .int j] H Q:=⟨i,j,rfl,h⟩
theorem rd_min2 {H:Hp} {Q:VK} {i j:Int} (h:Q (.int (if j<i then j else i)) H):rMin2 [.int i, .int j] H Q:=⟨i,j,rfl,h⟩
theorem rd_par {i j:Nat} {ta:TA} {D:Ends} {σ:St} {H:Hp} (h:ta σ H fun vs H1=>∃ v w,vs=[v,w]∧D.nx ((σ.set i (some v)).set j (some w)) H1):tPar i j ta D σ H:=h
theorem rd_two {x y:V} {R:V→V→Prop} (h:R x y):∃ v w,[x,y]=[v,w]∧R v w:=⟨x,y,rfl,h⟩
end L2
namespace HT
open PySem PySem.Spec PyProof.Rows
variable {prog:Program} {w:World} {A:Around} {E:Value→Shared→Prop} {s:Shared}
theorem getItem_tuple_whole {t sl:Addr} {items:Array Value} {vl vu:Value} {lo hi:Option Int} {Q:Value→Shared→Prop} (ht:IsTup s.heap t items) (hs:s.heap.IsSliceOf sl vl vu .none) (pl:IsPart vl lo) (pu:IsPart vu hi)
    (w1:sIx items.size 0 lo=0) (w2:sIx items.size items.size hi=items.size) (h:Q (.ref t) s):wpAny (model prog w) A (getItem (.ref t) (.ref sl)) Q E s:=by
  obtain ⟨os,hos,hcs,hds⟩:=id hs
  have hTs:s.TypeIs (.ref sl) "slice":=⟨os,hos,hcs⟩
  unfold getItem
  try with_reducible refine wpAny_holding ?_
  first | refine wpAny_bind (wpAny_pure ?_) | skip
  refine wpAny_bind (wpAny_sequenceKey ht.typeIs (by decide) ?_)
  refine wpAny_bind (wpAny_callSpecial?_slot (name:=Str.ofString "__getitem__") ht.typeIs PyProof.Rows.slot_tuple_getitem
    (wpAny_call_entry PyProof.Rows.slot_tuple_getitem ht.typeIs entry_tuple_getitem ?_ (args_tuple_getitem _ _)))
  show wpAny _ _ (Builtin.Tuple.tupleItemsOf (.ref t) >>= _) _ _ s
  refine wpAny_bind (tupleItemsOf_ ht ?_)
  refine wpAny_bind (wpAny_typeOf hTs ?_)
  rw [if_pos (by decide)]
  refine wpAny_bind (sliceApplied_gen hs pl pu ?_)
  have hyes:(((sIx items.size 0 lo:Nat):Int) == 0&&(1:Int) == 1&&(sIx items.size items.size hi - sIx items.size 0 lo) == items.size)=true:=by
    rw [w1,w2]
    simp
  show wpAny _ _ (if (((sIx items.size 0 lo:Nat):Int) == 0&&(1:Int) == 1&&(sIx items.size items.size hi - sIx items.size 0 lo) == items.size)=true then _ else _) _ _ s
  rw [if_pos hyes]
  unfold Builtin.Tuple.tupleIsExact
  refine wpAny_bind (wpAny_bind (wpAny_typeOf ht.typeIs (wpAny_pure ?_)))
  rw [if_pos (by decide)]
  exact wpAny_bind (wpAny_rule (wpAny_pure ⟨_,rfl,wpAny_pure h⟩))
end HT
namespace L2
open PySem PySem.Spec PyProof.Rows
def rSlN (K:PySem.W.Frag):V→Option Int→Option Int→Hp→VK→Prop:=fun x lo hi H Q=>∃ a xs,x= .ref a∧SqT K H a xs∧∀ H' p,Same H H'→SqT K H' p (cutV xs lo hi)→Q (.ref p) H'
theorem k_slt {X:Cx} {K:PySem.W.Frag} (hK:X.K=K:=by rfl):SlR X (rSlN K):=by
  subst hK
  intro pins s σ H x v vl vu lo hi sl Q I rx hs pl pu h
  obtain ⟨a,xs,rfl,hx,q⟩:=h
  by_cases hw:HT.sIx xs.length 0 lo=0∧HT.sIx xs.length xs.length hi=xs.length
  · cases rx
    obtain ⟨its,r,ht,hz⟩:=I.tuple hx
    have hlen:its.toArray.size=xs.length:=by rw [List.size_toArray];exact r.length.symm
    refine ⟨"tuple",_,PyProof.Rows.slot_tuple_getitem.lookup,ht.typeIs,?_⟩
    refine HT.getItem_tuple_whole ht hs pl pu (by rw [hlen];exact hw.1) (by rw [hlen];exact hw.2) ?_
    have e:cutV xs lo hi=xs:=by
      unfold cutV
      rw [hw.1,hw.2,List.drop_zero,Nat.sub_zero,List.take_of_length_le (Nat.le_refl _)]
    exact ⟨.ref a,H,I,rfl,q H a (Same.refl _) (by rw [e];exact hx)⟩
  · exact sl_tup pins s σ H _ v vl vu lo hi sl Q I rx hs pl pu ⟨a,xs,rfl,hx,hw,fun p hp=>q _ p (same_new hp) (SqT.of upd_same)⟩
def rCatN (K:PySem.W.Frag):R2:=fun x y H Q=>∃ a b xs ys,x= .ref a∧y= .ref b∧SqT K H a xs∧SqT K H b ys∧xs≠[]∧xs.length+ys.length≤100000∧∀ H' p,Same H H'→SqT K H' p (xs++ys)→Q (.ref p) H'
theorem k_catT {X:Cx} {K:PySem.W.Frag} (hK:X.K=K:=by rfl):OpR X (binaryOp .Add) (rCatN K):=by
  subst hK
  intro pins s σ H x y v u Q I rx ry h
  obtain ⟨a,b,xs,ys,rfl,rfl,ha,hb,hne,hz,q⟩:=h
  exact op_catT pins s σ H _ _ v u Q I rx ry ⟨a,b,xs,ys,rfl,rfl,ha,hb,hne,Nat.le_trans hz (by decide),fun e=>q H a (Same.refl _) (by rw [e,List.append_nil];exact ha),fun _ p hp=>q _ p (same_new hp) (SqT.of upd_same)⟩
theorem rd_slN {K:PySem.W.Frag} {H:Hp} {Q:VK} {a:Addr} {xs:List V} {lo hi:Option Int} (c:SqT K H a xs) (h:∀ H' p,Same H H'→SqT K H' p (cutV xs lo hi)→Q (.ref p) H'):rSlN K (.ref a) lo hi H Q:=⟨a,xs,rfl,c,h⟩
theorem rd_catN {K:PySem.W.Frag} {H:Hp} {Q:VK} {a b:Addr} {xs ys:List V} (c:SqT K H a xs) (d:SqT K H b ys) (n:xs≠[]) (l:xs.length+ys.length≤100000) (h:∀ H' p,Same H H'→SqT K H' p (xs++ys)→Q (.ref p) H'):rCatN K (.ref a) (.ref b) H Q:=⟨a,b,xs,ys,rfl,rfl,c,d,n,l,h⟩
theorem eqVs_strs (as bs:List Str):eqVs (as.map V.str) (bs.map V.str)=decide (as=bs):=by
  rw [Bool.eq_iff_iff,decide_eq_true_iff]
  unfold eqVs
  simp only [Bool.and_eq_true,beq_iff_eq,List.length_map,List.all_eq_true,List.mem_range]
  constructor
  · rintro ⟨h1,h2⟩
    refine List.ext_getElem h1 fun i ha hb=> ?_
    have h3:=h2 i ha
    rw [getD_str (by simpa using ha),getD_str (by simpa using hb)] at h3
    have h4:(as.getD i Str.empty == bs.getD i Str.empty)=true:=h3
    rw [beq_iff_eq,getD_el ha,getD_el hb] at h4
    exact h4
  · rintro rfl
    refine ⟨rfl,fun i hi=> ?_⟩
    rw [getD_str (by simpa using hi)]
    show (as.getD i Str.empty == as.getD i Str.empty)=true
    rw [beq_iff_eq]
theorem rd_eqLS {K:PySem.W.Frag} {H:Hp} {Q:VK} {l p:Addr} {as bs:List Str} (c:SqL K H l (as.map V.str)) (d:SqL K H p (bs.map V.str)) (h:Q (.bl (decide (as=bs))) H):rEqL K false (.ref l) (.ref p) H Q:=
  ⟨l,p,_,_,rfl,rfl,c,d,by simp [flatV],by simp [flatV],by rw [eqVs_strs];exact h⟩
end L2
namespace L2
open PySem PySem.Spec PyProof.Rows
end L2
namespace L2
open PySem PySem.Spec PyProof.Rows
def DK {α:Type}:Sem α→Prop
  | .rule _ k=>DK (k ())
  | .at _ k=>DK (k ())
  | .load _ _ k=>∀ o,DK (k o)
  | .update _ _ f k=>(∀ o,(f o).dict=o.dict)∧DK (k ())
  | .loadIfAlive _ k=>∀ o,DK (k o)
  | .point _ k=>DK (k ())
  | .alloc _ k=>∀ a,DK (k a)
  | .fresh k=>∀ t,DK (k t)
  | .ask k=>∀ t,DK (k t)
  | .choose _ _ k=>∀ t,DK (k t)
  | .os _ _ k=>∀ t,DK (k t)
  | .call .. => False
  | .handled _ k=>∀ t,DK (k t)
  | .genState _ k=>∀ t,DK (k t)
  | .newGen _ k=>∀ t,DK (k t)
  | .resume .. => False
  | .stack k=>∀ t,DK (k t)
  | .thread k=>∀ t,DK (k t)
  | _=>True
def KD (h h':Heap):Prop:=∀ (b:Nat) (o:Obj),h.objs[b]?=some o→∃ o',h'.objs[b]?=some o'∧o'.dict=o.dict
theorem KD.refl (h:Heap):KD h h:=fun b o e=>⟨o,e,rfl⟩
theorem KD.trans {h h1 h2:Heap} (a:KD h h1) (b:KD h1 h2):KD h h2:=fun c o e=>by
  obtain ⟨o1,e1,d1⟩:=a c o e
  obtain ⟨o2,e2,d2⟩:=b c o1 e1
  exact ⟨o2,e2,d2.trans d1⟩
theorem raw_of {h:Heap} {b:Addr} {o:Obj} (e:h.get? b=some o):h.objs[b]?=some o:=by
  unfold Heap.get? at e
  split at e
  · cases e
  · exact e
theorem KD.at' {h h':Heap} (k:KD h h') {b:Addr} {o o':Obj} (e:h.get? b=some o) (e':h'.get? b=some o'):o'.dict=o.dict:=by
  obtain ⟨o1,e1,d1⟩:=k b o (raw_of e)
  rw [raw_of e'] at e1
  cases e1
  exact d1
theorem KD.push (h:Heap) (o:Obj):KD h (h.push o):=fun b u e=>by
  refine ⟨u,?_,rfl⟩
  show (h.objs.push o)[b]?=some u
  have hb:b<h.objs.size:=(Array.getElem?_eq_some_iff.mp e).1
  rw [Array.getElem?_push_lt hb]
  rw [Array.getElem?_eq_getElem hb] at e
  exact e
theorem KD.upd (h:Heap) (a:Addr) {f:Obj→Obj} (hf:∀ o,(f o).dict=o.dict):KD h (h.update a f):=fun b u e=>by
  have hb:b<h.objs.size:=(Array.getElem?_eq_some_iff.mp e).1
  show ∃ o',(h.objs.modify a f)[b]?=some o'∧_
  rw [Array.getElem?_modify,e]
  by_cases q:a=b
  · rw [if_pos q]
    exact ⟨f u,rfl,hf u⟩
  · rw [if_neg q]
    exact ⟨u,rfl,rfl⟩
theorem wp_dk {α:Type} {M:Model} {Γ:PySem.Ctx}:∀ (t:Sem α) (Q:α→Pos→Shared→Prop) (E:Value→Pos→Shared→Prop) (p:Pos) (s s0:Shared),DK t→KD s0.heap s.heap→Sem.wp M Γ t Q E p s→
    Sem.wp M Γ t (fun a p s'=>Q a p s'∧KD s0.heap s'.heap) (fun a p s'=>E a p s'∧KD s0.heap s'.heap) p s:=by
  intro t
  induction t with
  | pure a=>intro Q E p s s0 _ k h;rw [Sem.wp] at h ⊢;exact ⟨h,k⟩
  | raise e=>intro Q E p s s0 _ k h;rw [Sem.wp] at h ⊢;exact ⟨h,k⟩
  | unsupported w=>intro Q E p s s0 _ k h;rw [Sem.wp] at h;exact h.elim
  | finish e=>intro Q E p s s0 _ k h;rw [Sem.wp] at h;exact h.elim
  | rule t k ih=>intro Q E p s s0 d k h;rw [Sem.wp] at h ⊢;exact ih () Q E p s s0 d k h
  | «at» t k ih=>intro Q E p s s0 d k h;rw [Sem.wp] at h ⊢;exact ih () Q E _ s s0 d k h
  | load a part k ih=>
    intro Q E p s s0 d k h
    rw [Sem.wp] at h ⊢
    obtain ⟨o,e,h⟩:=h
    exact ⟨o,e,ih o Q E p s s0 (d o) k h⟩
  | update a part f k ih=>
    intro Q E p s s0 d k h
    rw [Sem.wp] at h ⊢
    exact ⟨h.1,ih () Q E p _ s0 d.2 (k.trans (KD.upd s.heap a d.1)) h.2⟩
  | alloc o k ih=>intro Q E p s s0 d k h;rw [Sem.wp] at h ⊢;exact ih _ Q E p _ s0 (d _) (k.trans (KD.push _ _)) h
  | loadIfAlive a k ih=>intro Q E p s s0 d k h;rw [Sem.wp] at h ⊢;exact ih _ Q E p _ s0 (d _) k h
  | point l k ih=>intro Q E p s s0 d k h;rw [Sem.wp] at h ⊢;exact ih _ Q E p _ s0 d k h
  | register a k ih=>intro Q E p s s0 d k h;rw [Sem.wp] at h;exact h.elim
  | fresh k ih=>intro Q E p s s0 d k h;rw [Sem.wp] at h ⊢;exact ih _ Q E p _ s0 (d _) k h
  | ask k ih=>intro Q E p s s0 d k h;rw [Sem.wp] at h ⊢;exact ih _ Q E p _ s0 (d _) k h
  | choose a n k ih=>intro Q E p s s0 d k h;rw [Sem.wp] at h ⊢;exact ⟨h.1,ih _ Q E p _ s0 (d _) k h.2⟩
  | os a n k ih=>intro Q E p s s0 d k h;rw [Sem.wp] at h ⊢;exact ih _ Q E p _ s0 (d _) k h
  | call c a b l k ih=>intro Q E p s s0 d k h;exact d.elim
  | handled a k ih=>intro Q E p s s0 d k h;rw [Sem.wp] at h ⊢;exact ih _ Q E p _ s0 (d _) k h
  | newGen c k ih=>intro Q E p s s0 d k h;rw [Sem.wp] at h ⊢;exact ih _ Q E p _ s0 (d _) k h
  | genState g k ih=>
    intro Q E p s s0 d k h
    rw [Sem.wp] at h ⊢
    obtain ⟨st,e,h⟩:=h
    exact ⟨st,e,ih _ Q E p s s0 (d _) k h⟩
  | resume g r l k ih=>intro Q E p s s0 d k h;exact d.elim
  | yield v g l k ih=>intro Q E p s s0 d k h;rw [Sem.wp] at h;exact h.elim
  | stack k ih=>intro Q E p s s0 d k h;rw [Sem.wp] at h ⊢;exact ih _ Q E p _ s0 (d _) k h
  | fork c k ih=>intro Q E p s s0 d k h;rw [Sem.wp] at h;exact h.elim
  | thread k ih=>intro Q E p s s0 d k h;rw [Sem.wp] at h ⊢;exact ih _ Q E p _ s0 (d _) k h
  | await a t b l k ih=>intro Q E p s s0 d k h;rw [Sem.wp] at h;exact h.elim
theorem wpAny_dk {α:Type} {M:Model} {A:Around} {t:Sem α} {Q:α→Shared→Prop} {E:Value→Shared→Prop} {s:Shared} (d:DK t) (h:wpAny M A t Q E s):wpAny M A t (fun a s'=>Q a s'∧KD s.heap s'.heap) (fun e s'=>E e s'∧KD s.heap s'.heap) s:=
  fun Γ p hΓ=>wp_dk t _ _ p s s d (KD.refl _) (h Γ p hΓ)
theorem DK.bind {α β:Type} {f:α→Sem β}:∀ {t:Sem α},DK t→(∀ a,DK (f a))→DK (t >>= f):=by
  intro t
  show _→_→DK (Sem.bind t f)
  induction t with
  | pure a=>intro _ h;exact h a
  | raise e=>intro _ _;trivial
  | unsupported w=>intro _ _;trivial
  | finish e=>intro _ _;trivial
  | rule t k ih=>intro d h;exact ih () d h
  | «at» t k ih=>intro d h;exact ih () d h
  | load a part k ih=>intro d h o;exact ih o (d o) h
  | update a part f k ih=>intro d h;exact ⟨d.1,ih () d.2 h⟩
  | alloc o k ih=>intro d h a;exact ih a (d a) h
  | loadIfAlive a k ih=>intro d h o;exact ih o (d o) h
  | point l k ih=>intro d h;exact ih () d h
  | register a k ih=>intro _ _;trivial
  | fresh k ih=>intro d h o;exact ih o (d o) h
  | ask k ih=>intro d h o;exact ih o (d o) h
  | choose a n k ih=>intro d h o;exact ih o (d o) h
  | os a n k ih=>intro d h o;exact ih o (d o) h
  | call c a b l k ih=>intro d h;exact d.elim
  | handled a k ih=>intro d h o;exact ih o (d o) h
  | newGen c k ih=>intro d h o;exact ih o (d o) h
  | genState g k ih=>intro d h o;exact ih o (d o) h
  | resume g r l k ih=>intro d h;exact d.elim
  | yield v g l k ih=>intro _ _;trivial
  | stack k ih=>intro d h o;exact ih o (d o) h
  | fork c k ih=>intro _ _;trivial
  | thread k ih=>intro d h o;exact ih o (d o) h
  | await a t b l k ih=>intro _ _;trivial
end L2
namespace L2
open PySem PySem.Spec PyProof.Rows
theorem dk_pure {α:Type} (a:α):DK (pure a:Sem α):=trivial
theorem dk_uns {α:Type} (w:String):DK (unsupported w:Sem α):=trivial
theorem dk_load (a:Addr):DK (load a):=fun _=>trivial
theorem dk_fieldsOf (v:Value):DK (fieldsOf v):=by
  unfold fieldsOf
  split
  · refine DK.bind (dk_load _) fun o=> ?_
    split
    · exact dk_pure _
    · exact dk_uns _
  · exact dk_uns _
theorem dk_field (v:Value) (i:Nat):DK (field v i):=by
  unfold field
  refine DK.bind (dk_fieldsOf v) fun vs=> ?_
  split
  · exact dk_pure _
  · exact dk_uns _
theorem dict_mapFields (f:Array Value→Array Value) (o:Obj):(Obj.mapFields f o).dict=o.dict:=by
  unfold Obj.mapFields
  split <;> rfl
theorem dk_update (a:Addr) {f:Obj→Obj} (h:∀ o,(f o).dict=o.dict):DK (update a f):=⟨h,trivial⟩
theorem dk_setField (v:Value) (i:Nat) (x:Value):DK (setField v i x):=by
  unfold setField
  split
  · unfold updateField
    refine DK.bind (dk_load _) fun o=> ?_
    split
    · split
      · exact dk_update _ (dict_mapFields _)
      · exact dk_uns _
    · exact dk_uns _
  · exact dk_uns _
theorem dk_stack:DK (stack):=fun _=>trivial
theorem dk_ite {α:Type} {c:Prop} [Decidable c] {x y:Sem α} (hx:DK x) (hy:DK y):DK (if c then x else y):=by
  split
  · exact hx
  · exact hy
theorem dk_setFlight (e:Value) (f:Option Addr):DK (setFlight e f):=by
  unfold setFlight
  refine DK.bind (dk_field _ _) fun tb=> ?_
  exact dk_ite (dk_setField _ _ _) (dk_pure _)
theorem dk_behind (env:Env) (outer:List Env):DK (behindIsImport env outer):=by
  unfold behindIsImport
  refine dk_ite (dk_pure _) (dk_ite (dk_pure _) ?_)
  exact DK.bind (dk_field _ _) fun _=>dk_pure _
theorem dk_kept (env:Env) (i:Bool) (l:List Env):DK (keptBack env i l):=by
  unfold keptBack
  split
  · refine dk_ite (dk_pure _) ?_
    unfold underTheClaimsCaller
    exact DK.bind (DK.bind dk_stack fun _=>dk_pure _) fun _=>dk_pure _
  · exact dk_pure _
theorem dk_ready:∀ l:List Env,DK (readyFrames l)
  | []=>trivial
  | env::outer=>by
    unfold readyFrames
    split
    · refine DK.bind (dk_load _) fun o=> ?_
      refine dk_ite (dk_pure _) ?_
      refine DK.bind (dk_behind _ _) fun _=>DK.bind (dk_kept _ _ _) fun _=>DK.bind (dk_update _ fun _=>rfl) fun _=>dk_ready outer
    · exact dk_uns _
theorem dk_frameOf (env:Env):DK (PySem.frameOf env):=by
  unfold PySem.frameOf
  refine DK.bind ?_ fun _=>DK.bind ?_ fun o=> ?_
  · unfold frameEnvs
    exact DK.bind dk_stack fun _=>dk_pure _
  · unfold frameObject
    split
    · exact dk_pure _
    · exact DK.bind (dk_ready _) fun _=>dk_pure _
  · split
    · exact dk_pure _
    · exact dk_uns _
theorem dk_newFields (ty:String) (vs:List Value):DK (newFields ty vs):=by
  unfold newFields newObj
  have hj:DK (newObjAsIs (.type ty) (.fields vs.toArray)):=by
    unfold newObjAsIs
    exact fun _=>trivial
  exact dk_ite (DK.bind (dk_uns _) fun _=>hj) hj
theorem dk_place (f:Addr) (b:Bool):DK (entryPlaceOf f b):=by
  unfold entryPlaceOf
  refine DK.bind dk_stack fun _=> ?_
  split
  · exact dk_pure _
  · exact dk_pure _
theorem dk_note (e:Value) (env:Env):DK (noteFrame e env):=by
  unfold noteFrame
  split
  · rename_i f _
    refine DK.bind (dk_field _ _) fun head=> ?_
    have hj:DK (do
        let fr ← PySem.frameOf env
        let pl ← entryPlaceOf f (head != Value.none)
        let b ← EntryCells.newEntry head fr Value.none (rawInt f) Value.none pl
        setField e 1 b):=DK.bind (dk_frameOf env) fun _=>DK.bind (dk_place _ _) fun _=>DK.bind (dk_newFields _ _) fun _=>dk_setField _ _ _
    refine dk_ite (DK.bind (dk_field _ _) fun _=>dk_ite (dk_pure _) (DK.bind (dk_setField _ _ _) fun _=>hj)) hj
  · exact dk_uns _
theorem dk_leaving (env:Env) (e:Value):DK (leaving env e):=by
  unfold leaving
  exact DK.bind (dk_note _ _) fun _=>dk_setFlight _ _
end L2
namespace L2
open PySem PySem.Spec PyProof.Rows
section
variable {M:Model} {A:Around} {E:Value→Shared→Prop} {s:Shared}
theorem leaves_onD {base:Heap} {env:Env} {outer:List Env} {L e:Addr} {cls a0:Value} {Q:Unit→Shared→Prop} (hfr:A.frames=some (env::outer)) (hf:env.frame=some L) (hfl:Heap.FlyingW base (env::outer) e cls a0 s.heap)
    (hQ:∀ h',Heap.FlyingW base outer e cls a0 h'→s.heap.UpToSlots h'→KD s.heap h'→Q () { s with heap:=h' }):wpAny M A (leaving env (.ref e)) Q E s:=
  wpAny_mono (wpAny_dk (dk_leaving env (.ref e)) (wpAny_leaves_onW (Q:=fun _ s'=>∃ h',s'={ s with heap:=h' }∧Heap.FlyingW base outer e cls a0 h'∧s.heap.UpToSlots h') hfr hf hfl fun h' a b=>⟨h',rfl,a,b⟩))
    (fun _ _ ⟨⟨h',e,a,b⟩,k⟩=>by subst e;exact hQ h' a b k) fun _ _ z=>z.1
theorem leaves_madeD {base h:Heap} {env:Env} {outer:List Env} {L e:Addr} {cls:Value} {args:List Value} {Q:Unit→Shared→Prop}
    (hfr:A.frames=some (env::outer)) (hf:env.frame=some L) (hkb:base.StaysIn h) (hl:h.FunFrames base (env::outer)) (hx:Heap.MadeExcOf h s.heap e cls args)
    (hQ:∀ h' t,Heap.FlyingW base outer e cls (.ref t) h'→s.heap.UpToSlots h'→KD s.heap h'→Q () { s with heap:=h' }):wpAny M A (leaving env (.ref e)) Q E s:=
  wpAny_mono (wpAny_dk (dk_leaving env (.ref e)) (wpAny_leaves_madeW (Q:=fun _ s'=>∃ h' t,s'={ s with heap:=h' }∧Heap.FlyingW base outer e cls (.ref t) h'∧s.heap.UpToSlots h') hfr hf hkb hl hx fun h' t a _ _ b=>⟨h',t,rfl,a,b⟩))
    (fun _ _ ⟨⟨h',t,e,a,b⟩,k⟩=>by subst e;exact hQ h' t a b k) fun _ _ z=>z.1
theorem looks_onD {base:Heap} {env:Env} {outer:List Env} {L e:Addr} {cls a0:Value} {Q:Unit→Shared→Prop} (hfr:A.frames=some (env::outer)) (hf:env.frame=some L) (hfl:Heap.FlyingW base (env::outer) e cls a0 s.heap)
    (hQ:∀ h',Heap.HeldW base (env::outer) e cls a0 L h'→s.heap.UpToSlots h'→KD s.heap h'→Q () { s with heap:=h' }):wpAny M A (noteFrame (.ref e) env) Q E s:=
  wpAny_mono (wpAny_dk (dk_note (.ref e) env) (wpAny_looks_onW (Q:=fun _ s'=>∃ h',s'={ s with heap:=h' }∧Heap.HeldW base (env::outer) e cls a0 L h'∧s.heap.UpToSlots h') hfr hf hfl fun h' a b=>⟨h',rfl,a,b⟩))
    (fun _ _ ⟨⟨h',e,a,b⟩,k⟩=>by subst e;exact hQ h' a b k) fun _ _ z=>z.1
theorem landsD {base:Heap} {l:List Env} {e L:Addr} {cls a0:Value} {Q:Unit→Shared→Prop} (hh:Heap.HeldW base l e cls a0 L s.heap)
    (hQ:∀ h',Heap.FlyingW base l e cls a0 h'→s.heap.UpToSlots h'→KD s.heap h'→Q () { s with heap:=h' }):wpAny M A (setFlight (.ref e) none) Q E s:=
  wpAny_mono (wpAny_dk (dk_setFlight (.ref e) none) (wpAny_landsW (Q:=fun _ s'=>∃ h',s'={ s with heap:=h' }∧Heap.FlyingW base l e cls a0 h'∧s.heap.UpToSlots h') hh fun h' a b=>⟨h',rfl,a,b⟩))
    (fun _ _ ⟨⟨h',e,a,b⟩,k⟩=>by subst e;exact hQ h' a b k) fun _ _ z=>z.1
theorem flightD {base:Heap} {l:List Env} {e:Addr} {cls a0 fl:Value} {Q:Unit→Shared→Prop} (hkb:base.StaysIn s.heap) (hl:s.heap.FunFrames base l) (ht:s.heap.TracedAtW base e cls a0 fl)
    (h:∀ h',base.StaysIn h'→h'.FunFrames base l→h'.TracedW base e cls a0→(∀ b o,s.heap.get? b=some o→(∀ vs,o.data≠ .fields vs)→h'.get? b=some o)→KD s.heap h'→Q () { s with heap:=h' }):
    wpAny M A (setFlight (.ref e) none) Q E s:=
  wpAny_mono (wpAny_dk (dk_setFlight (.ref e) none) (wpAny_setFlight_noneW (Q:=fun _ s'=>∃ h',s'={ s with heap:=h' }∧base.StaysIn h'∧h'.FunFrames base l∧h'.TracedW base e cls a0∧∀ b o,s.heap.get? b=some o→(∀ vs,o.data≠ .fields vs)→h'.get? b=some o) hkb hl ht fun h' a b c d=>⟨h',rfl,a,b,c,d⟩))
    (fun _ _ ⟨⟨h',e,a,b,c,d⟩,k⟩=>by subst e;exact h h' a b c d k) fun _ _ z=>z.1
def DictIs (h:Heap) (a:Addr) (od:Option Addr):Prop:=∃ o,h.get? a=some o∧o.dict=od
theorem DictIs.on {h h':Heap} {a:Addr} {od:Option Addr} (x:DictIs h a od) (k:KD h h') (t:∃ o,h'.get? a=some o):DictIs h' a od:=by
  obtain ⟨o,e,d⟩:=x
  obtain ⟨o',e'⟩:=t
  exact ⟨o',e',(k.at' e e').trans d⟩
end
end L2
namespace L2
open PySem PySem.Spec PyProof.Rows
theorem HOk.on {P:Program} {w:World} {H:Hp} {h h':Heap} (x:HOk P w H h) (k:∀ b u,H b≠none→h.get? b=some u→h'.get? b=some u):HOk P w H h':=fun a o e=>
  (x a o e).stay (fun b u hb q=>k b u (by
    rcases hb with rfl | hb
    · rw [e];exact fun z=>by cases z
    · rw [hb];exact fun z=>by cases z) q) (fun _ q=>q) fun _ _ q=>q
theorem obj_some {P:Program} {w:World} {H:Hp} {h:Heap} {a:Addr} {o:HO} (x:ObjOk P w H h a o):∃ u,h.get? a=some u:=by
  cases o with
  | lst xs=>obtain ⟨_,_,_,_,e⟩:=x;exact ⟨_,e⟩
  | tup xs=>obtain ⟨_,_,_,o,e,_⟩:=x;exact ⟨_,e⟩
  | dK kvs=>obtain ⟨_,_,_,_,o,_,_,e,_⟩:=x;exact ⟨_,e⟩
  | dT kvs=>obtain ⟨_,_,_,_,o,_,_,e,_⟩:=x;exact ⟨_,e⟩
  | set S n=>obtain ⟨o,_,_,_,e,_⟩:=x;exact ⟨_,e⟩
  | ins C dx fs=>obtain ⟨_,_,_,e,_⟩:=x;exact ⟨_,e⟩
  | own y=>exact x
  | xd fs=>obtain ⟨_,⟨_,_,_,e,_⟩,_⟩:=x;exact ⟨_,e⟩
  | rng lo hi=>obtain ⟨_,_,_,e⟩:=x;exact ⟨_,e⟩
  | frz ob u=>obtain ⟨e,_⟩:=x;exact ⟨_,e⟩
  | tbl ps=>exact ⟨_,(show h.get? a=some _ from x)⟩
  | met f y=>exact ⟨_,(show h.get? a=some _ from x)⟩
  | ext φ=>obtain ⟨_,e,_⟩:=x;exact e
def Flown (outer:List Env) (s:Shared) (H':Hp) (a C t:Addr) (s':Shared):Prop:=
  ∃ B:Heap,B.FlyingW outer a (.ref C) (.ref t) s'.heap∧∀ b,(H' b≠none∨∃ o,s.heap.get? b=some o)→b∉frs outer→∀ o,s'.heap.get? b=some o→B.get? b=some o
def CXE (P:Program) (w:World):CXT:=fun outer H s E e s'=>
  ∃ a C t od H',e= .ref a∧s'.os=s.os∧AllBare s'.gens∧Un (frs outer) [] H H' s.heap s'.heap∧HOk P w H' s'.heap∧Flown outer s H' a C t s'∧DictIs s'.heap a od∧E (.ref C) od H'
theorem frs_cons {env:Env} {L:Addr} {outer:List Env} (h:env.frame=some L):frs (env::outer)=L::frs outer:=by
  unfold frs
  rw [List.filterMap_cons,h]
theorem funs_mem {h base:Heap}:∀ {l:List Env} {b:Addr},h.FunFrames base l→b∈frs l→base.get? b=none∧∃ o,h.get? b=some o∧∀ vs,o.data≠ .fields vs
  | [],b,_,hb=>by cases hb
  | env::l,b,⟨_,⟨L,o,e1,e2,e3,e4⟩,r⟩,hb=>by
    rw [frs_cons e1] at hb
    rcases List.mem_cons.mp hb with rfl | hb
    · exact ⟨e2,o,e3,e4⟩
    · exact funs_mem r hb
theorem passes_cx {P:Program} {w:World} {K:PySem.W.Frag} {mg:Str→Option Value} {base:Heap} {N:List Str} {qual:Str} {scope:Scope} {f:Addr} {cd:Value} {A:Around} {outer:List Env} {s₀:Shared} {H₀:Hp} {E E':XK}
    (hE:∀ c o H,E c o H→E' c o H):Passes (CXE P w) (cxOf (CXE P w) P w K mg base N qual scope f cd A outer s₀ H₀ E') E:=by
  intro pins σ H s e s' I h
  obtain ⟨a,C,t,od,H',rfl,os,bare,un,hok,⟨B,fl,cov⟩,di,q⟩:=h
  have hfr:(envOfC qual scope s₀.heap.objs.size f cd).frame=some s₀.heap.objs.size:=rfl
  have hfs:frs (envOfC qual scope s₀.heap.objs.size f cd::outer)=s₀.heap.objs.size::frs outer:=frs_cons hfr
  refine leaves_onD I.ok.frames hfr fl fun h' fl' ups kd=> ?_
  have ib:Un (frs outer) [] H₀ H s₀.heap s.heap:=I.base
  have nl:∀ b o,s₀.heap.get? b=some o→b≠s₀.heap.objs.size:=fun b o e=>Nat.ne_of_lt (Heap.lt_size e)
  have toB:∀ b,(H' b≠none∨∃ o,s.heap.get? b=some o)→b∉frs (envOfC qual scope s₀.heap.objs.size f cd::outer)→∀ o,s'.heap.get? b=some o→h'.get? b=some o:=fun b hb hn o e=>fl'.1 b o (cov b hb hn o e)
  have untr:∀ b,b∈frs (envOfC qual scope s₀.heap.objs.size f cd::outer)→H' b=none:=fun b hb=>by
    obtain ⟨_,o,e,_⟩:=funs_mem I.stack hb
    exact un.free b o e (I.stkFree b hb) (by simp)
  have hok':HOk P w H' h':=hok.on fun b u hb e=>by
    refine toB b (.inl hb) (fun z=>hb (untr b z)) u e
  refine ⟨a,C,t,od,H',rfl,os.trans I.os,bare,?_,hok',⟨B,fl',fun b hb hn o e=> ?_⟩,di.on kd (let ⟨o,e,_⟩:=fl'.there;⟨o,e⟩),hE _ _ _ q⟩
  · have notin:∀ b o,s₀.heap.get? b=some o→b∉frs outer→b∉frs (envOfC qual scope s₀.heap.objs.size f cd::outer):=fun b o e hn z=>by
      rw [hfs] at z
      rcases List.mem_cons.mp z with z | z
      · exact nl b o e z
      · exact hn z
    have isin:∀ b,b∈frs outer→b∈frs (envOfC qual scope s₀.heap.objs.size f cd::outer):=fun b hb=>by rw [hfs];exact List.mem_cons_of_mem _ hb
    refine ⟨fun b o e hH hn _=> ?_,fun b o e hH hb _=> ?_,fun b o e hH _=> ?_,fun b o e _=> ?_,fun b xs e=>un.tups b xs (ib.tups b xs e),fun b o u e=>un.frzs b o u (ib.frzs b o u e),fun b ps e=> ?_⟩
    · have e1:=ib.keep b o e hH hn (by simp)
      exact toB b (.inr ⟨o,e1⟩) (notin b o e hn) o (un.keep b o e1 (ib.free b o e hH (by simp)) (notin b o e hn) (by simp))
    · obtain ⟨sl,e1⟩:=ib.slot b o e hH hb (by simp)
      obtain ⟨sl2,e2⟩:=un.slot b _ e1 (ib.free b o e hH (by simp)) (isin b hb) (by simp)
      obtain ⟨_,o',e',nf⟩:=funs_mem fl.2.2.1 (isin b hb)
      rw [e2] at e'
      cases e'
      obtain ⟨sl3,e3⟩:=ups b _ e2 nf
      exact ⟨sl3,e3⟩
    · obtain ⟨o1,e1⟩:=ib.there b o e (by simp)
      exact un.free b o1 e1 (ib.free b o e hH (by simp)) (by simp)
    · obtain ⟨o1,e1⟩:=ib.there b o e (by simp)
      obtain ⟨o2,e2⟩:=un.there b o1 e1 (by simp)
      by_cases hb:b∈frs outer
      · obtain ⟨_,o',e',nf⟩:=funs_mem fl.2.2.1 (isin b hb)
        obtain ⟨sl3,e3⟩:=ups b _ e' nf
        exact ⟨_,e3⟩
      · exact ⟨o2,toB b (.inr ⟨o1,e1⟩) (notin b o e hb) o2 e2⟩
    · obtain ⟨m1,e1⟩:=ib.tbls b ps e
      obtain ⟨m2,e2⟩:=un.tbls b _ e1
      exact ⟨m1++m2,by rw [e2,Array.append_assoc]⟩
  · have hn2:b∉frs (envOfC qual scope s₀.heap.objs.size f cd::outer):=fun z=>by
      have z0:=z
      rw [hfs] at z
      rcases List.mem_cons.mp z with z | z
      · rcases hb with hb | ⟨o1,e1⟩
        · exact hb (untr b z0)
        · exact nl b o1 e1 z
      · exact hn z
    obtain ⟨o2,e2,hb2⟩:∃ o2,s'.heap.get? b=some o2∧(H' b≠none∨∃ o,s.heap.get? b=some o):=by
      rcases hb with hb | ⟨o1,e1⟩
      · cases hx:H' b with
        | none=>exact absurd hx hb
        | some u=>
          obtain ⟨o2,e2⟩:=obj_some (hok b u hx)
          exact ⟨o2,e2, .inl (fun z=>by cases z)⟩
      · obtain ⟨o3,e3⟩:=ib.there b o1 e1 (by simp)
        obtain ⟨o2,e2⟩:=un.there b o3 e3 (by simp)
        exact ⟨o2,e2, .inr ⟨o3,e3⟩⟩
    have e3:=cov b hb2 hn2 o2 e2
    have e4:=fl'.1 b o2 e3
    rw [show h'.get? b=some o from e] at e4
    cases e4
    exact e3
end L2
namespace L2
open PySem PySem.Spec PyProof.Rows
theorem funs_base {h base B:Heap}:∀ {l:List Env},h.FunFrames base l→(∀ b∈frs l,B.get? b=none)→h.FunFrames B l
  | [],_,_=>trivial
  | env::l,⟨k,⟨L,o,e1,e2,e3,e4⟩,r⟩,hb=>by
    rw [frs_cons e1] at hb
    exact ⟨k,⟨L,o,e1,hb L (List.mem_cons_self ..),e3,e4⟩,funs_base r fun b h'=>hb b (List.mem_cons_of_mem _ h')⟩
section
variable {P:Program} {w:World} {K:PySem.W.Frag} {mg:Str→Option Value} {base:Heap} {N:List Str} {qual:Str} {scope:Scope} {f:Addr} {cd:Value} {A:Around} {outer:List Env} {s₀:Shared} {H₀:Hp} {E:XK}
theorem raise_cx {pins:List (Addr × Obj)} {σ:St} {H:Hp} {s:Shared} {e C:Addr} {vs:List Value} {h':Heap} (I:Inv (cxOf (CXE P w) P w K mg base N qual scope f cd A outer s₀ H₀ E) pins σ H s) (mk:Heap.MadeExcOf s.heap h' e (.ref C) vs) (q:E (.ref C) none H):
    (cxOf (CXE P w) P w K mg base N qual scope f cd A outer s₀ H₀ E).xe (.ref e) { s with heap:=h' }:=by
  have hfr:(envOfC qual scope s₀.heap.objs.size f cd).frame=some s₀.heap.objs.size:=rfl
  have hfs:frs (envOfC qual scope s₀.heap.objs.size f cd::outer)=s₀.heap.objs.size::frs outer:=frs_cons hfr
  refine leaves_madeD (base:=PySem.W.hideAll s.heap (frs (envOfC qual scope s₀.heap.objs.size f cd::outer))) (h:=s.heap) I.ok.frames hfr (fun b o e=>PySem.W.of_hideAll _ e) (funs_base I.stack fun b hb=>PySem.W.hideAll_none _ hb) mk fun h2 t fl ups kd=> ?_
  have ib:Un (frs outer) [] H₀ H s₀.heap s.heap:=I.base
  have nl:∀ b o,s₀.heap.get? b=some o→b≠s₀.heap.objs.size:=fun b o e=>Nat.ne_of_lt (Heap.lt_size e)
  have inB:∀ b o,s.heap.get? b=some o→b∉frs (envOfC qual scope s₀.heap.objs.size f cd::outer)→h2.get? b=some o:=fun b o e hn=>fl.1 b o (PySem.W.hideAll_get _ e hn)
  have notin:∀ b o,s₀.heap.get? b=some o→b∉frs outer→b∉frs (envOfC qual scope s₀.heap.objs.size f cd::outer):=fun b o e hn z=>by
    rw [hfs] at z
    rcases List.mem_cons.mp z with z | z
    · exact nl b o e z
    · exact hn z
  have isin:∀ b,b∈frs outer→b∈frs (envOfC qual scope s₀.heap.objs.size f cd::outer):=fun b hb=>by rw [hfs];exact List.mem_cons_of_mem _ hb
  refine ⟨e,C,t,none,H,rfl,I.os,I.bare,?_,I.hok.on fun b u hb e=>inB b u e (fun z=>hb (I.stkFree b z)),⟨_,fl,fun b hb hn o e=> ?_⟩,DictIs.on (let ⟨_,e,_⟩:=mk.there;⟨_,e,rfl⟩) kd (let ⟨o,e,_⟩:=fl.there;⟨o,e⟩),q⟩
  · refine ⟨fun b o e hH hn _=> ?_,fun b o e hH hb _=> ?_,fun b o e hH _=>ib.free b o e hH (by simp),fun b o e _=> ?_,fun b xs e=>ib.tups b xs e,fun b o u e=>ib.frzs b o u e,fun b ps e=>ib.tbls b ps e⟩
    · exact inB b o (ib.keep b o e hH hn (by simp)) (notin b o e hn)
    · obtain ⟨sl,e1⟩:=ib.slot b o e hH hb (by simp)
      obtain ⟨_,o',e',nf⟩:=funs_mem I.stack (isin b hb)
      rw [e1] at e'
      cases e'
      obtain ⟨sl3,e3⟩:=ups b _ (mk.keeps b _ e1) nf
      exact ⟨sl3,e3⟩
    · obtain ⟨o1,e1⟩:=ib.there b o e (by simp)
      by_cases hb:b∈frs outer
      · obtain ⟨_,o',e',nf⟩:=funs_mem I.stack (isin b hb)
        obtain ⟨sl3,e3⟩:=ups b _ (mk.keeps b _ e') nf
        exact ⟨_,e3⟩
      · exact ⟨o1,inB b o1 e1 (notin b o e hb)⟩
  · have hn2:b∉frs (envOfC qual scope s₀.heap.objs.size f cd::outer):=fun z=>by
      rcases hb with hb | ⟨o1,e1⟩
      · exact hb (I.stkFree b z)
      · exact notin b o1 e1 hn z
    obtain ⟨o2,e2⟩:∃ o2,s.heap.get? b=some o2:=by
      rcases hb with hb | ⟨o1,e1⟩
      · cases hx:H b with
        | none=>exact absurd hx hb
        | some u=>exact obj_some (I.hok b u hx)
      · exact ib.there b o1 e1 (by simp)
    have e3:=inB b o2 e2 hn2
    have e:h2.get? b=some o:=e
    rw [e] at e3
    cases e3
    exact PySem.W.hideAll_get _ e2 hn2
def tRaise (E:XK) (C:Addr) (ta:TA):TS:=fun _ σ H=>ta σ H fun vs H1=>vs.length≤1000∧E (.ref C) none H1
theorem ps_raise {x:Str} {C:Addr} {B newId initId:String} {bm:List Value} {e₀:Expr} {rest:List Expr} {np cpos pos:Pos} {ta:TA} (O:OwnCls x C bm newId mg base) (FB:ExcBaseFacts B newId initId bm)
    (ha:PA (cxOf (CXE P w) P w K mg base N qual scope f cd A outer s₀ H₀ E) (e₀::rest) ta)
    (he:starEach (e₀::rest) (envOfC qual scope s₀.heap.objs.size f cd)=(false,eval e₀ (envOfC qual scope s₀.heap.objs.size f cd))::starEach rest (envOfC qual scope s₀.heap.objs.size f cd):=by rfl)
    (hplain:(backTo cpos (starEach rest (envOfC qual scope s₀.heap.objs.size f cd))).any (·.1)=false:=by rfl)
    (hg:Gl (cxOf (CXE P w) P w K mg base N qual scope f cd A outer s₀ H₀ E) x:=by rfl) (hd:(x == ("__debug__":Str))=false:=by decide):
    PS (cxOf (CXE P w) P w K mg base N qual scope f cd A outer s₀ H₀ E) (.Raise (some (.Call (.Name x np) (e₀::rest) [] cpos)) none pos) (tRaise E C ta):=by
  intro pins s σ H D I h
  obtain ⟨tl,Nn,nm,q,bs,hdct,sn,sub,ab,col,dd,k0,k1,k2,k3,k5,mN,hC,hN,hni,T⟩:=O.obj
  have hw:=ha cpos pins s σ H _ I h
  refine wpAny_Raise_call_subT (C:=C) (nm:=nm) (q:=q) (N:=Nn) (bs:=bs) (bm:=tl) (hdct:=hdct) (sn:=sn) (sub:=sub) (ab:=ab) (col:=col) (dd:=dd) (k0:=k0) (k1:=k1) (k2:=k2) (k3:=k3) (k5:=k5)
    FB (mN:=mN) (T.hasType FB.hasBase) (I.ok.hd rfl) (by
      show (backTo cpos (starEach (e₀::rest) (envOfC qual scope s₀.heap.objs.size f cd))).any (·.1)=false
      rw [he]
      show (false||(backTo cpos (starEach rest (envOfC qual scope s₀.heap.objs.size f cd))).any (·.1))=false
      rw [hplain];rfl) hni (ld_glob I hg O.bound ⟨rfl,?_⟩ hd)
  have he':starEach (e₀::rest) (cxOf (CXE P w) P w K mg base N qual scope f cd A outer s₀ H₀ E).env=(false,eval e₀ (envOfC qual scope s₀.heap.objs.size f cd))::starEach rest (envOfC qual scope s₀.heap.objs.size f cd):=he
  rw [he'] at hw ⊢
  refine Calls.evalArgs_plain (thn hw fun us s2 ⟨vs,H1,I1,r,hl,hq⟩=> ?_)
  have bk:∀ b o,base.get? b=some o→s2.heap.get? b=some o:=I1.bk
  refine ⟨rfl,?_,bk _ _ hC,hN.keeps bk,T.keeps bk,fun h' e mk=>raise_cx I1 mk hq⟩
  rw [← r.length]
  exact Nat.le_trans hl (by decide)
end
end L2
namespace L2
open PySem PySem.Spec PyProof.Rows
theorem upto_trans {h h1 h2:Heap} (a:h.UpToSlots h1) (b:h1.UpToSlots h2):h.UpToSlots h2:=fun c o e nf=>by
  obtain ⟨sl,e1⟩:=a c o e nf
  obtain ⟨sl2,e2⟩:=b c _ e1 nf
  exact ⟨sl2,e2⟩
theorem flown_on {P:Program} {w:World} {l:List Env} {s s₁:Shared} {H H':Hp} {a C t:Addr} {B h3:Heap} (un:Un (frs l) [] H H' s.heap s₁.heap) (hok:HOk P w H' s₁.heap) (fl:B.FlyingW l a (.ref C) (.ref t) s₁.heap)
    (cov:∀ b,(H' b≠none∨∃ o,s.heap.get? b=some o)→b∉frs l→∀ o,s₁.heap.get? b=some o→B.get? b=some o) (untr:∀ b∈frs l,H' b=none) (fl3:B.FlyingW l a (.ref C) (.ref t) h3) (ups:s₁.heap.UpToSlots h3):
    Un (frs l) [] H H' s.heap h3∧HOk P w H' h3:=by
  have inB:∀ b,(H' b≠none∨∃ o,s.heap.get? b=some o)→b∉frs l→∀ o,s₁.heap.get? b=some o→h3.get? b=some o:=fun b hb hn o e=>fl3.1 b o (cov b hb hn o e)
  refine ⟨⟨fun b o e hH hn hx=>inB b (.inr ⟨o,e⟩) hn o (un.keep b o e hH hn hx),fun b o e hH hb hx=> ?_,un.free,fun b o e hx=> ?_,un.tups,un.frzs,un.tbls⟩,hok.on fun b u hb e=>inB b (.inl hb) (fun z=>hb (untr b z)) u e⟩
  · obtain ⟨sl,e1⟩:=un.slot b o e hH hb hx
    obtain ⟨_,o',e',nf⟩:=funs_mem fl.2.2.1 hb
    rw [e1] at e'
    cases e'
    obtain ⟨sl3,e3⟩:=ups b _ e1 nf
    exact ⟨sl3,e3⟩
  · obtain ⟨o1,e1⟩:=un.there b o e hx
    by_cases hb:b∈frs l
    · obtain ⟨_,o',e',nf⟩:=funs_mem fl.2.2.1 hb
      obtain ⟨sl,e2⟩:=ups b _ e' nf
      exact ⟨_,e2⟩
    · exact ⟨o1,inB b (.inr ⟨o,e⟩) hb o1 e1⟩
def excO (a C:Addr) (od:Option Addr):HO:= .ext fun h=>∃ o,h.get? a=some o∧o.cls= .ref C∧o.dict=od∧∃ vs,o.data= .fields vs
theorem exc_ok {P:Program} {w:World} {H:Hp} {h:Heap} {a C:Addr} {o:Obj} {vs:Array Value} (e:h.get? a=some o) (c:o.cls= .ref C) (d:o.data= .fields vs):ObjOk P w H h a (excO a C o.dict):=
  ⟨⟨o,e,c,rfl,vs,d⟩,⟨o,e⟩,fun _ _ ⟨o,e,c⟩ k=>⟨o,k o e,c⟩⟩
theorem track_ok {P:Program} {w:World} {H:Hp} {h:Heap} {a:Addr} {u:HO} (hok:HOk P w H h) (n:H a=none) (new:ObjOk P w (upd H a u) h a u):HOk P w (upd H a u) h:=fun b o e=>by
  by_cases z:b=a
  · subst z
    rw [upd_same] at e
    cases e
    exact new
  · rw [upd_ne z] at e
    have ne:∀ c v,H c=some v→c≠a:=fun c v q z=>by rw [z,n] at q;cases q
    exact (hok b o e).stay (fun c v _ q=>q) (fun c q=>(upd_ne (ne c _ q)).trans q) fun c xs q=>(upd_ne (ne c _ q)).trans q
theorem track_un {fs ex:List Addr} {H H':Hp} {h h':Heap} {a:Addr} {u:HO} (un:Un fs ex H H' h h') (n:H' a=none) (na:h.get? a=none):Un fs ex H (upd H' a u) h h':=by
  have ne:∀ c v,H' c=some v→c≠a:=fun c v q z=>by rw [z,n] at q;cases q
  refine ⟨un.keep,un.slot,fun b o e hH hx=> ?_,un.there,fun b xs e=> ?_,fun b o v e=> ?_,fun b ps e=> ?_⟩
  · have z:b≠a:=fun z=>by rw [z,na] at e;cases e
    rw [upd_ne z]
    exact un.free b o e hH hx
  · have:=un.tups b xs e
    exact (upd_ne (ne _ _ this)).trans this
  · have:=un.frzs b o v e
    exact (upd_ne (ne _ _ this)).trans this
  · obtain ⟨m,this⟩:=un.tbls b ps e
    exact ⟨m,(upd_ne (ne _ _ this)).trans this⟩
section
variable {X:Cx} {pins:List (Addr × Obj)} {σ:St} {H:Hp} {s s₁:Shared} {E:XK} {e:Value}
theorem land {E1 E2:Value→Shared→Prop} {R:Shared→Prop} (I:Inv X pins σ H s) (hst:X.stack=X.env::X.outer) (hf:X.env.frame=some X.env.locals) (h:CXE X.prog X.w X.stack H s E e s₁)
    (k:∀ (a C t:Addr) (od:Option Addr) (H':Hp) (B h3:Heap),e= .ref a→B.FlyingW X.stack a (.ref C) (.ref t) h3→s₁.heap.UpToSlots h3→DictIs h3 a od→(∀ h4:Heap,B.FlyingW X.stack a (.ref C) (.ref t) h4→s₁.heap.UpToSlots h4→DictIs h4 a od→Inv X pins σ H' { s₁ with heap:=h4 }∧Inv X pins σ (upd H' a (excO a C od)) { s₁ with heap:=h4 })→H' a=none→E (.ref C) od H'→R { s₁ with heap:=h3 }):
    wpAny (model X.prog X.w) X.A (noteFrame e X.env) (fun _ s₂=>wpAny (model X.prog X.w) X.A (setFlight e none) (fun _ s₃=>R s₃) E2 s₂) E1 s₁:=by
  obtain ⟨a,C,t,od,H',rfl,os,bare,un,hok,⟨B,fl,cov⟩,di,q⟩:=h
  have untr:∀ b∈frs X.stack,H' b=none:=fun b hb=>by
    obtain ⟨_,o,e,_⟩:=funs_mem I.stack hb
    exact un.free b o e (I.stkFree b hb) (by simp)
  obtain ⟨oa,hoa,hca⟩:=fl.there
  have af:a∉frs X.stack:=fun z=>by
    obtain ⟨_,_,_,oe,vs,T,oT,ts,he,hcls,hd,_⟩:=id fl
    obtain ⟨_,o',e',nf⟩:=funs_mem fl.2.2.1 z
    rw [he] at e'
    cases e'
    exact nf _ hd
  have an:H' a=none:=by
    cases hx:H' a with
    | none=>rfl
    | some u=>
      have:=cov a (.inl (by rw [hx];exact fun z=>by cases z)) af oa hoa
      rw [fl.2.1] at this
      cases this
  have as:s.heap.get? a=none:=by
    cases hx:s.heap.get? a with
    | none=>rfl
    | some o=>
      have:=cov a (.inr ⟨o,hx⟩) af oa hoa
      rw [fl.2.1] at this
      cases this
  have fl':=fl
  rw [hst] at fl'
  refine looks_onD (by rw [I.ok.frames,hst]) hf fl' fun h2 hh u2 kd2=>landsD (s:={ s₁ with heap:=h2 }) hh fun h3 fl3 u3 kd3=> ?_
  rw [← hst] at fl3
  refine k a C t od H' B h3 rfl fl3 (upto_trans u2 u3) (di.on (kd2.trans kd3) (let ⟨o,e,_⟩:=fl3.there;⟨o,e⟩)) (fun h4 fl4 u4 di4=> ?_) an q
  obtain ⟨un4,hok4⟩:=flown_on un hok fl cov untr fl4 u4
  obtain ⟨_,_,_,o4,vs4,_,_,_,e4,⟨c4,_⟩,dd4,_⟩:=id fl4
  have d4:o4.dict=od:=by
    obtain ⟨o5,e5,d5⟩:=di4
    rw [e4] at e5
    cases e5
    exact d5
  subst d4
  exact ⟨I.call' (s':={ s₁ with heap:=h4 }) (ch:=[]) os un4 hok4 bare (fun _ z=>by cases z),I.call' (s':={ s₁ with heap:=h4 }) (ch:=[]) os (track_un un4 an as) (track_ok hok4 an (exc_ok e4 c4 dd4)) bare (fun _ z=>by cases z)⟩
end
end L2
namespace L2
open PySem PySem.Spec PyProof.Rows
def Cx.tryC (X:Cx) (pn:List (Addr × Obj)) (xe:Value→Shared→Prop):Cx:={ X with pn:=pn,xe:=xe }
def Cx.markC (X:Cx) (a:Addr) (xe:Value→Shared→Prop):Cx:={ X with A:=X.A.mark (some (.ref a)),calm:=false,xe:=xe }
section
variable {X:Cx} {pins pins0:List (Addr × Obj)} {σ:St} {H:Hp} {s:Shared} {xe:Value→Shared→Prop}
theorem Inv.tryC (I:Inv X pins σ H s):Inv (X.tryC (X.pn++pins) xe) [] σ H s:=
  ⟨⟨I.ok.mod,I.ok.kind,I.ok.glob,I.ok.blt,I.ok.above,I.ok.inj,I.ok.has,I.ok.cab,I.ok.hd,I.ok.frames,I.ok.stk,I.ok.exf,I.ok.bs,I.ok.bsz,I.ok.noex,I.ok.exfs,I.ok.funs,I.ok.frf⟩,
    I.os,I.bare,I.base,I.loc,I.cell,I.free,I.freeC,fun p hp=>I.pin p (by simpa [Cx.tryC] using hp),I.hok,I.len⟩
theorem Inv.untry (ok:X.Ok) (I:Inv (X.tryC (X.pn++pins0) xe) pins σ H s):Inv X pins0 σ H s:=
  ⟨ok,I.os,I.bare,I.base,I.loc,I.cell,I.free,I.freeC,fun p hp=>I.pin p (List.mem_append_left _ hp),I.hok,I.len⟩
theorem Inv.markC {a:Addr} (I:Inv X pins σ H s):Inv (X.markC a xe) pins σ H s:=
  ⟨⟨I.ok.mod,I.ok.kind,I.ok.glob,I.ok.blt,I.ok.above,I.ok.inj,I.ok.has,I.ok.cab,fun z=>(by cases z),I.ok.frames,I.ok.stk,I.ok.exf,I.ok.bs,I.ok.bsz,I.ok.noex,I.ok.exfs,I.ok.funs,I.ok.frf⟩,
    I.os,I.bare,I.base,I.loc,I.cell,I.free,I.freeC,I.pin,I.hok,I.len⟩
theorem Inv.unmark {a:Addr} (ok:X.Ok) (I:Inv (X.markC a xe) pins σ H s):Inv X pins σ H s:=
  ⟨ok,I.os,I.bare,I.base,I.loc,I.cell,I.free,I.freeC,I.pin,I.hok,I.len⟩
theorem unbind_ok {M:Model} {A:Around} {E:Value→Shared→Prop} {i:Nat} {x:Str} {v:V} {Q:Unit→Shared→Prop} (I:Inv X pins σ H s) (hN:X.N.Nodup) (hi:X.N[i]?=some x) (hx:X.env.scope.names.lookup x=some .local) (hv:σ[i]?=some (some v))
    (h:∀ s',Inv X pins (σ.set i none) H s'→Q () s'):wpAny M A (unbindName X.env x) Q E s:=by
  obtain ⟨m,hn,hl⟩:=id I.loc
  have hcls:(X.env.scope.kind == .class||(X.env.scope.kind == .module&&X.env.locals != X.env.globals))=false:=by rw [I.ok.kind];rfl
  obtain ⟨u0,_,q0⟩:=hl i x v hi hv (.inl hx)
  have hm:m x=some u0:=by
    rcases q0 with ⟨_,e⟩ | ⟨k,_⟩
    · exact e
    · rcases k with k | k
      · rw [show X.env.kindOf x=some .local from hx] at k;cases k
      · rw [show X.env.kindOf x=some .local from hx] at k;cases k
  have hiσ:i<σ.length:=by rw [I.len];exact (List.getElem?_eq_some_iff.mp hi).1
  have cne:=I.cne
  refine wpAny_unbindName_local hx hn hm hcls fun h' u hn' hs=> ?_
  obtain ⟨oL,_,_,hoL,_⟩:=id hn
  have neL:∀ b o,X.s₀.heap.get? b=some o→b≠X.env.locals:=fun b o e=>Nat.ne_of_lt (Nat.lt_of_lt_of_le (Heap.lt_size e) I.ok.above)
  refine h _ ⟨I.ok,I.os,I.bare,⟨fun b o e n hb hx=> ?_,fun b o e n hb hx=> ?_,I.base.free,fun b o e hx=> ?_,I.base.tups,I.base.frzs,I.base.tbls⟩,⟨_,hn',fun j y v' e1 e2 e3=> ?_⟩,fun y c e=> ?_,I.free,I.freeC,fun p hp=> ?_,fun b ob e=> ?_,by simpa using I.len⟩
  · exact (hs.2 b (neL b o e)).trans (I.base.keep b o e n hb hx)
  · obtain ⟨sl,e1⟩:=I.base.slot b o e n hb hx
    exact ⟨sl,(hs.2 b (neL b o e)).trans e1⟩
  · obtain ⟨o',e1⟩:=I.base.there b o e hx
    exact ⟨o',(hs.2 b (neL b o e)).trans e1⟩
  · by_cases hj:j=i
    · subst hj
      rw [List.getElem?_set_self hiσ] at e2
      cases e2
    · rw [List.getElem?_set_ne (Ne.symm hj)] at e2
      obtain ⟨u',r',q⟩:=hl j y v' e1 e2 e3
      refine ⟨u',r',?_⟩
      rcases q with ⟨k,e⟩ | ⟨k,c,e,z⟩
      · refine .inl ⟨k,?_⟩
        have:y≠x:=fun e=>hj (nodup_ix hN e1 (e▸hi))
        simp [this,e]
      · exact .inr ⟨k,c,e,z.sameBut hs (cne y c e)⟩
  · obtain ⟨w',z⟩:=I.cell y c e
    exact ⟨w',z.sameBut hs (cne y c e)⟩
  · obtain ⟨e,n,ne,nf,d⟩:=I.pin p hp
    exact ⟨(hs.2 p.1 ne).trans e,n,ne,nf,d⟩
  · refine (I.hok b ob e).stay (fun c w' hc q=>(hs.2 c ?_).trans q) (fun _ q=>q) fun _ _ q=>q
    rintro rfl
    rcases hc with rfl | hc
    · rw [I.free] at e;cases e
    · rw [I.free] at hc;cases hc
end
def dTry (j:Nat) (D:Ends):Ends:={ nx:=fun σ H=>D.nx (σ.set j none) H,rt:=D.rt,bk:=fun σ H=>D.bk (σ.set j none) H,ct:=fun σ H=>D.ct (σ.set j none) H }
def eTry (K:PySem.W.Frag) (CL:Addr) (len j:Nat) (ts:TS) (D:Ends):XK:=fun cls od H'=>∃ C,cls= .ref C∧PySem.W.exmOne K cls (.ref CL)=some true∧
  ∀ (a:Addr) (σ:St),H' a=none→σ.length=len→ts (dTry j D) (σ.set j (some (.ref a))) (upd H' a (excO a C od))
def tTry (K:PySem.W.Frag) (CL:Addr) (len j:Nat) (tb:XK→TS) (ts:TS):TS:=fun D σ H=>tb (eTry K CL len j ts D) D σ H
end L2
namespace L2
open PySem PySem.Spec PyProof.Rows PySem.W
theorem ps_try {X:Cx} {x n:Str} {CL:Addr} {j:Nat} {body:List Stmt} {b₀:Stmt} {suite:List Stmt} {tb:XK→TS} {ts:TS} {xp hp pos:Pos} (hst:X.stack=X.env::X.outer) (hf:X.env.frame=some X.env.locals) (hm:X.mg x=some (.ref CL))
    (hN:X.N.Nodup) (hj:X.N[j]?=some n) (hx:X.env.scope.names.lookup n=some .local)
    (hb:∀ (pn:List (Addr × Obj)) (xe:Value→Shared→Prop) (E:XK),Passes (CXE X.prog X.w) (X.tryC pn xe) E→PSs (X.tryC pn xe) body (tb E)) (hs:∀ (a:Addr) (xe:Value→Shared→Prop),PSs (X.markC a xe) (b₀::suite) ts)
    (hg:Gl X x:=by rfl) (hd:(x == ("__debug__":Str))=false:=by decide):
    PS X (.Try body [.ExceptHandler (some (.Name x xp)) (some n) (b₀::suite) hp] [] [] pos) (tTry X.K CL X.N.length j tb ts):=by
  intro pins s σ H D I h
  refine wpAny_Try_except ?_
  have pass:Passes (CXE X.prog X.w) (X.tryC (X.pn++pins) (fun e s₁=>wpAny (model X.prog X.w) X.A (noteFrame e X.env) (fun _ s₂=>wpAny (model X.prog X.w) X.A (setFlight e none) (fun _ s₃=>wpAny (model X.prog X.w) X.A (handleBy e X.env [.ExceptHandler (some (.Name x xp)) (some n) (b₀::suite) hp]) (SP X pins D) X.xe s₃) X.xe s₂) X.xe s₁)) (eTry X.K CL X.N.length j ts D):=by
    intro pins' σ' H1 s1 e s' I1 hc
    have I1':Inv X pins σ' H1 s1:=I1.untry I.ok
    refine land I1' hst hf hc fun a C t od H' B h3 e0 fl3 u3 di3 inv an q=> ?_
    subst e0
    obtain ⟨C',eC,hx',hr⟩:=q
    cases eC
    have I3:=(inv h3 fl3 u3 di3).1
    obtain ⟨oa,hoa,hca⟩:=fl3.there
    refine wpAny_handleBy_cons (codeAny_handlers_test ?_) (by intro q;cases q)
    refine Calls.Name_function_global I.ok.kind hg (Calls.loadGlobal_global (by rw [I.ok.glob];exact I.mod.glob.keeps I3.bk) hm ?_) hd
    have lt:Looks (model X.prog X.w) h3 (typeOf (.ref a)) (.ref C):=hca▸(Looks.ld hoa).andThen .now
    refine Looks.here (s:={ s' with heap:=h3 }) (PySem.W.exm_one (K:=X.K) I3.kIn lt hx') ?_
    show codeAny _ _ (.handlers (.ref a) [.ExceptHandler none (some n) (b₀::suite) hp] X.env) _ _
    refine codeAny_handlers_suite_as ?_
    refine flightD (base:=B) (l:=X.stack) (s:={ s' with heap:=h3 }) fl3.1 fl3.2.2.1 fl3.2.2.2 fun h4 k1 k2 k3 k4 kd4=> ?_
    have fl4:B.FlyingW X.stack a (.ref C) (.ref t) h4:=⟨k1,fl3.2.1,k2,k3⟩
    have u4:s'.heap.UpToSlots h4:=upto_trans u3 fun b o e nf=>⟨o.slots,k4 b o e nf⟩
    have I4:=(inv h4 fl4 u4 (di3.on kd4 (let ⟨o,e,_⟩:=fl4.there;⟨o,e⟩))).2
    refine store_ok (v:= .ref a) I4 hN hj (.inl hx) rfl (fun s5 I5=> ?_) (.inr hx)
    refine wpAny_mono (hs a _ pins s5 _ _ (dTry j D) I5.markC (hr a σ' an I1'.len)) (fun f s6 hq=> ?_) fun _ _ y=>y
    have fin:∀ σ6 H6,Inv X pins σ6 H6 s6→∀ Qf:Shared→Prop,(∀ s7,Inv X pins (σ6.set j none) H6 s7→Qf s7)→wpAny (model X.prog X.w) X.A (do bindName X.env n .none;unbindBehindTheSuite X.env n hp) (fun _ s₃=>Qf s₃) X.xe s6:=fun σ6 H6 I6 Qf hQ=>by
      refine wpAny_bind (bindName_ (store_ok (v:= .non) I6 hN hj (.inl hx) rfl (fun s7 I7=> ?_) (.inr hx)))
      unfold unbindBehindTheSuite
      have hl6:j<σ6.length:=by rw [I6.len];exact (List.getElem?_eq_some_iff.mp hj).1
      refine wpAny_onRaise (unbind_ok (v:= .non) I7 hN hj hx (by rw [List.getElem?_set_self hl6]) fun s8 I8=> ?_)
      rw [List.set_set] at I8
      exact hQ s8 I8
    show wpAny (model X.prog X.w) X.A (do bindName X.env n .none;unbindBehindTheSuite X.env n hp) (fun _ s₃=>SP X pins D f s₃) X.xe s6
    cases f with
    | next=>
      obtain ⟨σ6,H6,I6,q6⟩:=hq
      exact fin σ6 H6 (I6.unmark I.ok) _ fun s7 I7=>⟨_,_,I7,q6⟩
    | brk=>
      obtain ⟨σ6,H6,I6,q6⟩:=hq
      exact fin σ6 H6 (I6.unmark I.ok) _ fun s7 I7=>⟨_,_,I7,q6⟩
    | cont=>
      obtain ⟨σ6,H6,I6,q6⟩:=hq
      exact fin σ6 H6 (I6.unmark I.ok) _ fun s7 I7=>⟨_,_,I7,q6⟩
    | ret u=>
      obtain ⟨v6,σ6,H6,I6,r6,q6⟩:=hq
      exact fin σ6 H6 (I6.unmark I.ok) _ fun s7 I7=>⟨v6,_,_,I7,r6,q6⟩
  refine wpAny_mono (hb _ _ _ pass [] s σ H D I.tryC h) (fun f s₁ hq=> ?_) fun _ _ y=>y
  cases f with
  | next=>
    obtain ⟨σ',H',I',q'⟩:=hq
    exact wpAny_execs_nil ⟨σ',H',I'.untry I.ok,q'⟩
  | brk=>
    obtain ⟨σ',H',I',q'⟩:=hq
    exact ⟨σ',H',I'.untry I.ok,q'⟩
  | cont=>
    obtain ⟨σ',H',I',q'⟩:=hq
    exact ⟨σ',H',I'.untry I.ok,q'⟩
  | ret u=>
    obtain ⟨v',σ',H',I',r',q'⟩:=hq
    exact ⟨v',σ',H',I'.untry I.ok,r',q'⟩
end L2
namespace HT
open PySem PySem.Spec PyProof.Rows PySem.W PySem.Calls PySem.Builtin PySem.Builtin.ObjectAttr PySem.Builtin.Getset_descriptor
def ExcAt (a C:Addr) (h:Heap):Prop:=∃ o,h.get? a=some o∧o.cls= .ref C
structure ExcKind (K:Frag) (C:Addr):Prop where
  cl:(clsIn K C).isSome=true
  ga:findIn K (.ref C) "__getattribute__"=some (some (.builtin "BaseException.__getattribute__"))
  ng:findIn K (.ref C) "__getattr__"=some none
  hb:mroIn K C (.type "BaseException")=some true
  ha:findIn K (.ref C) "__class__"=some (some (.builtin "object.__class__"))
  hn:specialIn K (.builtin "object.__class__") "__get__"=some (some (.builtin "getset_descriptor.__get__"))
  htk:takesIn K (.builtin "object.__class__")=some true
  hm:mroIn K C (.type "object")=some true
theorem ExcAt.type {M:Model} {h:Heap} {a C:Addr} (x:ExcAt a C h):Looks M h (typeOf (.ref a)) (.ref C):=by
  obtain ⟨o,e,c⟩:=x
  exact c▸(Looks.ld e).andThen .now
theorem exc_find {K:Frag} {M:Model} {h:Heap} {a C:Addr} (k:ExcKind K C) (X:K.In h):Looks M h (find (.ref a) (.ref C) "__class__") (.bind (.builtin "getset_descriptor.__get__") (.builtin "object.__class__")):=by
  have L1:=looks_findIn (M:=M) X k.ha
  have L2:Looks M h (getOf (some (.builtin "object.__class__"))) (some (.builtin "getset_descriptor.__get__")):=looks_specialIn X k.hn
  have L3:=looks_takesIn (M:=M) X k.htk
  exact L1.andThen (L2.andThen ((show Looks M h (dataDescriptor? (some (.builtin "object.__class__")) (some (.builtin "getset_descriptor.__get__"))) (some (.builtin "getset_descriptor.__get__", .builtin "object.__class__")) from L3.andThen .now).andThen (Looks.tag .now)))
section
variable {prog:Program} {w:World} {A:Around} {E:Value→Shared→Prop} {s:Shared} {K:Frag} {a C:Addr}
theorem exc_get {R:Result→Shared→Prop} {tp:Value} (X:K.In s.heap) (x:ExcAt a C s.heap) (hm:mroIn K C (.type "object")=some true) (h:R (.ok (.ret (.ref C))) s):
    codeAny (model prog w) A (.call (.builtin "getset_descriptor.__get__") ⟨[.builtin "object.__class__", .ref a,tp],[]⟩) R s:=by
  obtain ⟨hh,g,dr,t,os⟩:=s
  have L0:=x.type (M:=model prog w)
  have L1:=looks_mroIn (M:=model prog w) X hm
  refine codeAny_call_builtin KF.slot_gs.plain KF.entry_gs (KF.slot_gs.check _ _ _ _ _ _ _ _ KF.type_class (KF.args_gs _ _ _) ?_)
  unfold Builtin.«getset_descriptor.__get__» descrGet
  rw [dga_obj]
  refine wpAny_bind (wpAny_pure ?_)
  unfold descrGetter descrCheckInstance descrNameAndClass isInstance
  simp only [KF.owner_class]
  repeat lk
  refine ⟨Code.quiet_builtin _ (by decide +kernel),codeAny_builtin KF.entry_class ?_⟩
  unfold Builtin.«object.__class__» shownTypeOf
  repeat lk
  exact h
theorem exc_check {Q:Unit→Shared→Prop} {nameV:Value} (k:ExcKind K C) (X:K.In s.heap) (x:ExcAt a C s.heap) (h:Q () s):wpAny (model prog w) A (checkBuiltinCall "BaseException.__getattribute__" ⟨[.ref a,nameV],[]⟩) Q E s:=by
  have hk:builtinKind "BaseException.__getattribute__"=some .slot:=by decide +kernel
  have hsplit:splitId "BaseException.__getattribute__"=some ("BaseException","__getattribute__"):=by decide +kernel
  have ha:=PySem.F.args_bexc_ga (.ref a) nameV
  have L0:=x.type (M:=model prog w)
  have L1:=looks_mroIn (M:=model prog w) X k.hb
  simp only [checkBuiltinCall,hk,hsplit]
  refine wpAny_bind ?_
  unfold isInstance
  repeat lk
  exact h
theorem exc_class {Q:Option Value→Shared→Prop} (k:ExcKind K C) (X:K.In s.heap) (x:ExcAt a C s.heap) (h:Q (some (.ref C)) { s with toks:=s.toks+1 }):wpAny (model prog w) A (getAttr? (.ref a) "__class__") Q E s:=by
  obtain ⟨hh,g,d,t,os⟩:=s
  have L0:=x.type (M:=model prog w)
  have L1:=looks_findIn (M:=model prog w) X k.ga
  have L2:=looks_findIn (M:=model prog w) X k.ng
  have L3:=exc_find (M:=model prog w) (a:=a) k X
  unfold getAttr? getAttrBy? getAttrBy
  refine wpAny_bind (wpAny_mkText (wpAny_bind (wpAny_attempt (wpAny_holding (wpAny_bind (L0.at (wpAny_bind (L1.at ?_))))))))
  show wpAny _ _ (getAttrByItsOwn (.ref a) _ (.ref C) (.builtin "BaseException.__getattribute__") false false) _ _ _
  unfold getAttrByItsOwn
  refine wpAny_bind (L2.at ?_)
  refine wpAny_bind (wpAny_attempt (wpAny_holding ?_))
  show wpAny _ _ (boundAndCalled (.builtin "BaseException.__getattribute__") (.ref a) _) _ _ _
  unfold boundAndCalled
  rw [PySem.F.excAttr_ValueError.ga.bind (.ref a)]
  refine wpAny_bind (wpAny_pure ?_)
  refine wpAny_call (codeAny_call_builtin PySem.F.excAttr_ValueError.ga.plain PySem.F.entry_bexc_ga (exc_check (s:=⟨hh,g,d,t+1,os⟩) k X x ?_))
  unfold Builtin.«object.__getattribute__»
  iterate 22 lk
  refine wpAny_call (exc_get (s:=⟨hh,g,d,t+1,os⟩) X x k.hm ?_)
  repeat lk
  exact h
theorem kitx_exc (k:ExcKind K C):KitX K (.ref a) (.ref C) (ExcAt a C) where
  ty:=fun _ _ _ x=>x.type
  it:=fun _ _ X _=>by
    obtain ⟨cd,hc⟩:=Option.isSome_iff_exists.mp k.cl
    unfold clsIn at hc
    split at hc
    · rename_i c' d' cd' sl' ho
      intro A' Q' E' s' kk q
      unfold isType loadHead
      exact wpAny_bind (wpAny_loadPart (kk _ _ (X _ _ ho)) (wpAny_pure q))
    · cases hc
  ne:=fun h tp dd its n sl X htp=>by
    obtain ⟨cd,hc⟩:=Option.isSome_iff_exists.mp k.cl
    refine Bool.eq_false_iff.mpr fun q=> ?_
    have e:C=tp:=Value.ref.inj (beq_iff_eq.mp q)
    subst e
    unfold clsIn at hc
    split at hc
    · rename_i c' d' cd' sl' ho
      have z:=(X _ _ ho).symm.trans htp
      cases z
    · cases hc
  ca:=fun X x h=>exc_class k X x h
end
end HT
namespace L2
open PySem PySem.Spec PyProof.Rows
theorem isexc_ok {X:Cx} {pins:List (Addr × Obj)} {σ:St} {H:Hp} {s:Shared} {A:Around} {E:Value→Shared→Prop} {Q:Value→Shared→Prop} {a C:Addr} {od:Option Addr} {c:Value} {b:Bool} (I:Inv X pins σ H s) (e:H a=some (excO a C od)) (k:HT.ExcKind X.K C)
    (h:PySem.W.kitOne X.K (.ref C) c=some b) (hq:∀ tk,Q (.bool b) { s with toks:=tk }):wpAny (model X.prog X.w) A (call (.builtin "isinstance") [.ref a,c]) Q E s:=
  PySem.W.kia_one (HT.kitx_exc k) I.kIn (show HT.ExcAt a C s.heap from let ⟨o,h1,h2,_⟩:=(show ObjOk X.prog X.w H s.heap a (excO a C od) from I.hok a _ e).1;⟨o,h1,h2⟩) h (fun z=>nomatch z) hq
def rIsinE (K:PySem.W.Frag):List V→Hp→VK→Prop:=fun xs H Q=>∃ (y c:V) (cv t:Value) (b:Bool),xs=[y,c]∧((∃ D,c= .ref D∧cv= .ref D)∨∃ T,c= .ty T∧cv= .type T)∧PySem.W.kitOne K t cv=some b∧
  (TyOf K H y t∨∃ a C od,y= .ref a∧H a=some (excO a C od)∧t= .ref C∧HT.ExcKind K C)∧Q (.bl b) H
theorem k_isinE {X:Cx} {K:PySem.W.Frag} (hK:X.K=K:=by rfl):CallR X (.builtin "isinstance") (rIsinE K):=by
  subst hK
  intro pins s σ H xs us Q I r h
  obtain ⟨y,c,cv,t,b,rfl,hc,e,hy,q⟩:=h
  obtain ⟨u,c',rfl,rx,rc⟩:=vals2 r
  have ec:c'=cv:=by
    rcases hc with ⟨D,rfl,rfl⟩ | ⟨T,rfl,rfl⟩
    · exact rc
    · exact rc
  subst ec
  rcases hy with ty | ⟨a,C,od,rfl,ha,rfl,k⟩
  · exact isinst_ok I rx ty e fun tk=>⟨.bl b,H,I.tok tk,rfl,q⟩
  · cases rx
    exact isexc_ok I ha k e fun tk=>⟨.bl b,H,I.tok tk,rfl,q⟩
theorem rd_isinE {K:PySem.W.Frag} {H:Hp} {Q:VK} {a C D:Addr} {od:Option Addr} {b:Bool} (ha:H a=some (excO a C od)) (k:HT.ExcKind K C) (e:PySem.W.kitOne K (.ref C) (.ref D)=some b) (h:Q (.bl b) H):rIsinE K [.ref a, .ref D] H Q:=
  ⟨_,_,_,_,b,rfl, .inl ⟨D,rfl,rfl⟩,e, .inr ⟨a,C,od,rfl,ha,rfl,k⟩,h⟩
theorem rd_isinET {K:PySem.W.Frag} {H:Hp} {Q:VK} {a C:Addr} {od:Option Addr} {T:String} {b:Bool} (ha:H a=some (excO a C od)) (k:HT.ExcKind K C) (e:PySem.W.kitOne K (.ref C) (.type T)=some b) (h:Q (.bl b) H):rIsinE K [.ref a, .ty T] H Q:=
  ⟨_,_,_,_,b,rfl, .inr ⟨T,rfl,rfl⟩,e, .inr ⟨a,C,od,rfl,ha,rfl,k⟩,h⟩
end L2
namespace HT
open PySem PySem.Spec PyProof.Rows PySem.W
theorem own_mk {K:Frag} {base:Heap} {mg:Str→Option Value} {x:Str} {C:Addr} {bmB:List Value} {newId:String} (X:K.In base) (hm:mg x=some (.ref C)) (q:excIn K C bmB newId=true):OwnCls x C bmB newId mg base:=by
  refine ⟨hm,?_⟩
  unfold excIn at q
  split at q
  · rename_i dd cd sl ho
    split at q
    · rename_i C' bm k0 k1 k2 k3 n k5 hm' hs
      simp only [Bool.and_eq_true,beq_iff_eq,Bool.not_eq_true'] at q
      obtain ⟨⟨⟨⟨⟨rfl,rfl⟩,hdel⟩,ht⟩,hok⟩,hni⟩:=q
      obtain ⟨nm,bs,mro,ns,qn,hd,sn,sub,ab,col,del⟩:=cd
      dsimp only at hm' hdel hok hni
      subst hm' hdel
      obtain ⟨l⟩:=sl
      have hsl:l=[k0,k1,k2,k3,some (.builtin n),k5]:=hs
      subst hsl
      exact ⟨bm,ns,nm,qn,bs,hd,sn,sub,ab,col,dd,k0,k1,k2,k3,k5,_,X _ _ ho, .of_isNs (isNs_of_in X hok),nsMap_none_of_in X hok hni,tail_of_in X ht⟩
    · cases q
  · cases q
end HT
namespace L2
open PySem PySem.Spec PyProof.Rows
def CallE (P:Program) (w:World) (K:PySem.W.Frag) (mg:Str→Option Value) (base:Heap) (x:Str) (k:Nat) (ps:List Str) (sp:Sp):Prop:=
  ∃ f fd,mg x=some (.ref f)∧PySem.W.keepIn K (.ref f)=true∧FnOk P w K mg base (CXE P w) k f fd ps sp∧Binds K fd ps []
def MakeE (P:Program) (w:World) (K:PySem.W.Frag) (mg:Str→Option Value) (base:Heap) (x:Str) (C:Addr) (k:Nat) (ps:List Str) (sp:Sp):Prop:=
  ∃ f fd,mg x=some (.ref C)∧Mk K C f∧FnOk P w K mg base (CXE P w) k f fd ps sp∧Binds K fd ps []
theorem DefAt.callE {P:Program} {w:World} {K:PySem.W.Frag} {mg:Str→Option Value} {base:Heap} {x:Str} {st:Stmt} {ps:List Str} {f:Addr} {fd:FuncData} {k:Nat} {sp:Sp} (d:DefAt K mg x st ps f fd)
    (F:FnOk P w K mg base (CXE P w) k f fd ps sp):CallE P w K mg base x k ps sp:=⟨f,fd,d.at',d.fn.kp,F,d.bi⟩
section
variable {X:Cx} {x:Str} {C:Addr} {k:Nat} {ps:List Str} {sp:Sp} {E:XK} {e:Expr} {es:List Expr} {t:TA} {p pos:Pos}
theorem pe_callE (h:CallE X.prog X.w X.K X.mg X.base x k ps sp) (hr:Room k X.A) (hx:Passes (CXE X.prog X.w) X E) (ha:PA X (e::es) t) (hg:Gl X x:=by rfl) (hdb:(x == ("__debug__":Str))=false:=by decide)
    (he:starEach (e::es) X.env=(false,eval e X.env)::starEach es X.env:=by rfl) (hpl:(backTo pos (starEach es X.env)).any (·.1)=false:=by rfl):
    PE X (.Call (.Name x p) (e::es) [] pos) (tCall sp [] E t):=by
  obtain ⟨f,fd,hm,hk,F,hb⟩:=h
  exact pe_call F hr hg hm hk hb .nil hx ha hdb he hpl
theorem pe_makeE (h:MakeE X.prog X.w X.K X.mg X.base x C k ps sp) (hr:Room (k+1) X.A) (hx:Passes (CXE X.prog X.w) X E) (ha:PA X (e::es) t) (hg:Gl X x:=by rfl) (hdb:(x == ("__debug__":Str))=false:=by decide)
    (he:starEach (e::es) X.env=(false,eval e X.env)::starEach es X.env:=by rfl) (hpl:(backTo pos (starEach es X.env)).any (·.1)=false:=by rfl):
    PE X (.Call (.Name x p) (e::es) [] pos) (tMake C sp [] E t):=by
  obtain ⟨f,fd,hm,M,F,hb⟩:=h
  exact pe_make M F hr hg hm hb .nil hx ha hdb he hpl
end
theorem passE {P:Program} {w:World} {K:PySem.W.Frag} {mg:Str→Option Value} {base:Heap} {N:List Str} {qual:Str} {scope:Scope} {f:Addr} {cd:Value} {A:Around} {outer:List Env} {s₀:Shared} {H₀:Hp} {E:XK}:
    Passes (CXE P w) (cxOf (CXE P w) P w K mg base N qual scope f cd A outer s₀ H₀ E) E:=passes_cx fun _ _ _ h=>h
end L2
namespace L2
open PySem PySem.Spec PyProof.Rows
section
variable {P:Program} {w:World} {K:PySem.W.Frag} {mg:Str→Option Value} {base:Heap}
theorem Fun.okE {x qual:Str} {st:Stmt} {f:Addr} {fd:FuncData} {N ps:List Str} {k:Nat} {sp:Sp} (F:Fun K x qual st f fd) (S:FnScope N ps (defScope st)) (len:∀ vs H Q E,sp vs H Q E→vs.length=ps.length)
    (hbody:∀ (cdv:Value) (A:Around) (outer:List Env) (s:Shared) (H:Hp) (vs:List V) (Q:VK) (E:XK),Room k (A.deeper (envOfC qual (defScope st) s.heap.objs.size f cdv))→sp vs H Q E→
      ∃ t,PSs (cxOf (CXE P w) P w K mg base N qual (defScope st) f cdv A outer s H E) (defBody st) t∧t { nx:=fun _ H'=>Q .non H',rt:=Q } (start N vs) H):FnOk P w K mg base (CXE P w) (k+1) f fd ps sp:=by
  obtain ⟨oc,od,kV,doc,pm,an,cdv,ct,osl,rfl,lk,hcd⟩:=F.ex
  refine fn_of lk hcd S len fun A outer s H vs Q E hr hsp=> ?_
  exact hbody cdv A outer s H vs Q E hr hsp
theorem ps_raiseK {N:List Str} {qual:Str} {scope:Scope} {f:Addr} {cd:Value} {A:Around} {outer:List Env} {s₀:Shared} {H₀:Hp} {E:XK} {x:Str} {C:Addr} {e₀:Expr} {rest:List Expr} {np cpos pos:Pos} {ta:TA} (hm:mg x=some (.ref C))
    (q:PySem.W.excIn K C [.type "ValueError", .type "Exception", .type "BaseException", .type "object"] "ValueError.__new__"=true) (ha:PA (cxOf (CXE P w) P w K mg base N qual scope f cd A outer s₀ H₀ E) (e₀::rest) ta)
    (he:starEach (e₀::rest) (envOfC qual scope s₀.heap.objs.size f cd)=(false,eval e₀ (envOfC qual scope s₀.heap.objs.size f cd))::starEach rest (envOfC qual scope s₀.heap.objs.size f cd):=by rfl)
    (hplain:(backTo cpos (starEach rest (envOfC qual scope s₀.heap.objs.size f cd))).any (·.1)=false:=by rfl)
    (hg:Gl (cxOf (CXE P w) P w K mg base N qual scope f cd A outer s₀ H₀ E) x:=by rfl) (hd:(x == ("__debug__":Str))=false:=by decide):
    PS (cxOf (CXE P w) P w K mg base N qual scope f cd A outer s₀ H₀ E) (.Raise (some (.Call (.Name x np) (e₀::rest) [] cpos)) none pos) (tRaise E C ta):=fun pins s σ H D I h=>
  ps_raise (HT.own_mk I.mod.kin hm q) PySem.F.excBase_ValueError ha he hplain hg hd pins s σ H D I h
end
end L2
namespace L2
open PySem PySem.Spec PyProof.Rows
theorem boot_ValueError:bootBuiltins "ValueError"=some (.type "ValueError"):=by decide +kernel
theorem passN {X:Cx}:Passes (CXE X.prog X.w) X E0:=by
  intro pins σ H s e s' I h
  obtain ⟨_,_,_,_,_,_,_,_,_,_,_,_,q⟩:=h
  exact False.elim q
theorem TyOf.same {K:PySem.W.Frag} {H H':Hp} {x:V} {t:Value} (h:TyOf K H x t) (s:Same H H'):TyOf K H' x t:=by
  cases h with
  | non=>exact .non
  | bl x=>exact .bl x
  | int i=>exact .int i
  | str x=>exact .str x
  | flt x=>exact .flt x
  | lst e=>exact .lst (s _ _ e)
  | frz e=>exact .frz (s _ _ e)
  | tup e=>exact .tup (s _ _ e)
  | dK e=>exact .dK (s _ _ e)
  | dT e=>exact .dT (s _ _ e)
  | ins e cl ha hn htk hm=>exact .ins (s _ _ e) cl ha hn htk hm
theorem Ty.same {K:PySem.W.Frag} {H H':Hp} {x:V} (h:Ty K H x) (s:Same H H'):Ty K H' x:=let ⟨n,t⟩:=h;⟨n,t.same s⟩
theorem rd_makeE {C:Addr} {sp:Sp} {t:TA} {σ:St} {H:Hp} {Q:VK} {E:XK} (h:t σ H fun vs H1=>∀ x dx,H1 x=none→H1 dx=none→dx≠x→sp (.ref x::vs) (upd (upd H1 dx (.own x)) x (.ins C dx [])) (fun v H2=>v= .non∧Q (.ref x) H2) E):tMake C sp [] E t σ H Q:=by
  unfold tMake
  simpa using h
theorem rd_end {j:Nat} {D:Ends} {σ:St} {H:Hp} (h:D.nx (σ.set j none) H):(dTry j D).nx σ H:=h
theorem rd_try {K:PySem.W.Frag} {CL:Addr} {len j:Nat} {tb:XK→TS} {ts:TS} {D:Ends} {σ:St} {H:Hp} (h:tb (eTry K CL len j ts D) D σ H):tTry K CL len j tb ts D σ H:=h
end L2
namespace HT
open PySem PySem.Spec PyProof.Rows PySem.SeqAt
open PySem.AutoSeq1 (wpAny_loadPart')
open PySem.MeetsSeq PySem.MeetsSeq2 PySem.MeetsSeq3
section
variable {A:Around} {s:Shared}
end
end HT
namespace L2
open PySem PySem.Spec PyProof.Rows
inductive DX where
  | d (d:Dt) | dic | tdic (rest:List Dt)
inductive Rx (H:Hp) (n:Nat):V→DX→Prop
  | d {v:V} {d:Dt} (r:Rp H FT n v d):Rx H n v (.d d)
  | dic {a:Addr} (h:H a=some (.dK [])):Rx H n (.ref a) .dic
  | tdic {t a:Addr} {ws:List V} {ds:List Dt} (ht:H t=some (.tup (.ref a::ws))) (h:H a=some (.dK [])) (l:ws.length=ds.length) (e:∀ (i:Nat) (v:V) (d:Dt),ws[i]?=some v→ds[i]?=some d→Rp H FT n v d):Rx H n (.ref t) (.tdic ds)
section
variable {X:Cx} {pins:List (Addr × Obj)} {σ:St} {H:Hp} {s:Shared}
end
theorem k_catU {X:Cx} {K:PySem.W.Frag} (hK:X.K=K:=by rfl):OpR X (binaryOp .Add) (rCatT K):=by subst hK;exact op_catT
theorem rd_catU {K:PySem.W.Frag} {H:Hp} {Q:VK} {a b:Addr} {xs ys:List V} (c:SqT K H a xs) (d:SqT K H b ys) (n:xs≠[]) (n2:ys≠[]) (l:xs.length+ys.length≤100000) (h:∀ p,H p=none→Q (.ref p) (upd H p (.tup (xs++ys)))):rCatT K (.ref a) (.ref b) H Q:=
  ⟨a,b,xs,ys,rfl,rfl,c,d,n,Nat.le_trans l (by decide),fun e=>absurd e n2,fun _=>h⟩
end L2
namespace L2
open PySem PySem.Spec PyProof.Rows PySem.W
def exO (a:Addr) (o:Obj):HO:= .ext fun h=>h.get? a=some o
section
variable {P:Program} {w:World} {K:PySem.W.Frag} {mg:Str→Option Value} {base:Heap} {N:List Str} {qual:Str} {scope:Scope} {f:Addr} {cd:Value} {cl:List (Str × Addr)} {A:Around} {outer:List Env} {s:Shared} {H:Hp} {E:XK}
structure ClOkL (N:List Str) (scope:Scope) (cl:List (Str × Addr)) (h:Heap) (H:Hp) (vs:List V):Prop where
  len:vs.length=N.length
  inj:∀ x y c,cl.lookup x=some c→cl.lookup y=some c→x=y
  has:∀ x,(scope.names.lookup x=some .cell∨scope.names.lookup x=some .free)→∃ c,cl.lookup x=some c
  val:∀ (i:Nat) (x:Str) (v:V),N[i]?=some x→vs[i]?=some v→∃ c u,scope.names.lookup x=some .free∧cl.lookup x=some c∧RelV v u∧h.IsCell c (some u)
  cell:∀ x c,cl.lookup x=some c→(∃ v,h.IsCell c v)∧H c=none
end
def codeO (qual:Str) (oc:Obj):Prop:=∃ vs t,oc.data= .fields vs∧vs[1]?=some (.str qual t)
end L2
namespace L2
open PySem PySem.Spec PyProof.Rows PySem.W
structure LamX (X:Cx) (c P:Addr):Prop where
  code:X.env.code= .ref c
  hd:CodeHd X.base c P
  blt:X.base.BuiltinsAt X.mg P
section
variable {X:Cx} {pins:List (Addr × Obj)} {σ:St} {H:Hp} {s:Shared}
end
structure LamOk (params:Arguments) (scope:Scope):Prop where
  kind:scope.kind= .function
  co:scope.isCoroutine=false
  gen:scope.isGenerator=false
  cell:∀ x∈scope.names,x.2≠ .cell
  bind:∀ (qual:Str) (body:Expr) (cl:List (Str × Addr)) (pm cdv ctv:Value),bindArgs (kla_fn "<lambda>" qual params body scope cl pm cdv ctv) ⟨[],[]⟩=pure []
end L2
namespace L2
open PySem PySem.Spec PyProof.Rows PySem.W
section
variable {P:Program} {w:World} {K:PySem.W.Frag} {mg:Str→Option Value} {base:Heap}
structure ThAt (s:Shared) (H:Hp) (outer:List Env) (f c':Addr) (oc:Obj) (N:List Str) (qual:Str) (scope:Scope) (cl:List (Str × Addr)) (params:Arguments) (body:Expr) (pm ctv:Value) (vs:List V):Prop where
  hf:s.heap.get? f=some (kla_obj "<lambda>" qual params body scope cl pm c' ctv)
  hf0:H f=none
  nf:f∉frs outer
  hc:H c'=some (exO c' oc)
  hoc:codeO qual oc
  C:ClOkL N scope cl s.heap H vs
  nc:∀ x c,cl.lookup x=some c→c∉frs outer
  lo:LamOk params scope
end
theorem src_pairs {K:PySem.W.Frag} {H:Hp} {a:Addr} {xs:List V} {σ0:St} {ps:List (V × V)} (h:SqL K H a xs) (hp:∀ i,i<xs.length→∃ b,xs.getD i .non= .ref b∧H b=some (.tup [(ps.getD i (.non, .non)).1,(ps.getD i (.non, .non)).2])) (h0:σ0[0]?=some none) (h1:σ0[1]?=some none):
    SrcOk (Itl K a) (gTup K 2 (gCons (gName 0) (gCons (gName 1) gNil))) σ0 H xs.length (fun i=>(σ0.set 0 (some (ps.getD i (.non, .non)).1)).set 1 (some (ps.getD i (.non, .non)).2)) where
  go:=fun i H' hi s=>⟨xs,xs[i],s.seq h,by simp [hi]⟩
  stop:=fun H' s=>⟨xs,s.seq h,Nat.le_refl _⟩
  yld:=fun i H' x H'' R hi s y k=>by
    obtain ⟨e,hv⟩:=y
    subst e
    have e:x=xs.getD i .non:=by
      have:=hv xs (s.seq h)
      rw [List.getD_eq_getElem?_getD,this]
      rfl
    subst e
    obtain ⟨b,eb,hb⟩:=hp i hi
    rw [eb]
    exact ⟨b,_,rfl,SqT.of (s _ _ hb),rfl,_,_,rfl,_,_,rfl,rfl,k _ (Same.refl _)⟩
  kp:=fun i hi=>((Kp.refl _).set h0).set h1
end L2
namespace L2
open PySem PySem.Spec PyProof.Rows PySem.W
def bar (T:Addr) (H:Hp):Hp:=fun b=>if b=T then none else H b
theorem bar_same {T:Addr} {H:Hp}:Same (bar T H) H:=fun b o e=>by
  by_cases hb:b=T
  · have e':=(if_pos hb).symm.trans e
    cases e'
  · exact (if_neg hb).symm.trans e
end L2
namespace L2
open PySem PySem.Spec PyProof.Rows
section
variable {X:Cx} {K:PySem.W.Frag} {e lo st:Expr} {te tl ts:TE} {pos p2:Pos}
end
section
variable {J:It} {g:TG} {σ0:St} {H:Hp} {n:Nat} {st:Nat→St} {te:TE} {Q:VK} {D:Addr}
end
end L2
namespace L2
open PySem PySem.Spec PyProof.Rows PySem.W
section
variable {prog:Program} {w:World} {A:Around} {E:Value→Shared→Prop} {s:Shared}
theorem alive_ok {a:Addr} {Q:Option Obj→Shared→Prop} {M:Model} (h:Q (s.heap.get? a) s):wpAny M A (loadIfAlive a) Q E s:=fun Γ p hΓ=>by
  unfold loadIfAlive
  rw [Sem.wp_loadIfAlive]
  exact h
def zipRec (t:Addr) (b:Bool) (TI:Addr) (v:Value):Obj:={ cls:= .type "zip",data:= .fields #[rawInt t, .bool b, .bool false, .ref TI,v] }
structure ZipAg (t1 t2:Bool) (h:Heap) (z TI i1 i2 l1 l2 t:Addr) (k:Nat):Prop where
  hz:∃ b v,h.get? z=some (zipRec t b TI v)
  ht:∃ o,h.get? t=some o
  hTI:IsPair h TI (.ref i1) (.ref i2)
  h1:SrcIt t1 h i1 l1 k
  h2:SrcIt t2 h i2 l2 k
theorem zipA_free {z TI t:Addr} {b:Bool} {v:Value} {o:Obj} {Q:Bool→Shared→Prop} (hz:s.heap.get? z=some (zipRec t b TI v)) (ht:s.heap.get? t=some o)
    (k:∀ h',h'.get? z=some (zipRec t true TI v)→Heap.SameBut z s.heap h'→Q false { s with heap:=h' }):wpAny (model prog w) A (Builtin.SmallTypes.ownedTupleIsFree (.ref z)) Q E s:=by
  unfold Builtin.SmallTypes.ownedTupleIsFree
  refine wpAny_bind (wpAny_field hz rfl (x:=rawInt t) rfl ?_)
  show wpAny _ _ (loadIfAlive ((t:Int).toNat) >>= _) _ _ _
  refine wpAny_bind (alive_ok ?_)
  rw [Int.toNat_natCast,ht]
  show wpAny _ _ (field (.ref z) 1 >>= _) _ _ _
  refine wpAny_bind (wpAny_field hz rfl (x:= .bool b) rfl ?_)
  cases b with
  | true=>exact wpAny_pure (k s.heap hz (Heap.SameBut.refl _ _))
  | false=>
    show wpAny _ _ (setField (.ref z) 1 (.bool true) >>= _) _ _ _
    exact wpAny_bind (wpAny_setField_rec hz (by simp) fun a1 za b1=>wpAny_pure (k a1 za b1))
theorem zipA_item {t1 t2:Bool} {z TI TO i1 i2 l1 l2 t:Addr} {k:Nat} {xs ys:Array Value} {x y:Value} {Q:Value→Shared→Prop} (D:ZipApart z TI TO i1 i2 l1 l2) (Z:ZipAg t1 t2 s.heap z TI i1 i2 l1 l2 t k) (n1:t≠i1) (n2:t≠i2) (nz:t≠z)
    (q1:SrcSq t1 s.heap l1 xs) (q2:SrcSq t2 s.heap l2 ys) (hx:xs[k]?=some x) (hy:ys[k]?=some y)
    (fin:∀ h',ZipAg t1 t2 h' z TI i1 i2 l1 l2 t (k+1)→IsPair h' s.heap.objs.size x y→(∀ c o,c≠z→c≠i1→c≠i2→s.heap.get? c=some o→h'.get? c=some o)→Q (.ref s.heap.objs.size) { s with heap:=h' }):
    wpAny (model prog w) A (Builtin.«zip.__next__» ⟨[.ref z],[]⟩) (fun fin s'=>∃ v,fin= .done (.ret v)∧Q v s') E s:=by
  obtain ⟨⟨b,v,hz⟩,⟨o,ht⟩,hTI,g1,g2⟩:=Z
  show wpAny _ _ (field (.ref z) 2 >>= _) _ _ _
  refine wpAny_bind (wpAny_field hz rfl (x:= .bool false) rfl ?_)
  show wpAny _ _ (field (.ref z) 3 >>= _) _ _ _
  refine wpAny_bind (wpAny_field hz rfl (x:= .ref TI) rfl (wpAny_bind (wpAny_seqItems hTI rfl ?_)))
  show wpAny _ _ (Builtin.SmallTypes.ownedTupleIsFree (.ref z) >>= _) _ _ _
  refine wpAny_bind (zipA_free hz ht fun a1 za b1=> ?_)
  dsimp only
  rw [if_neg Bool.false_ne_true]
  simp only [List.forIn_toArray,List.forIn_cons,List.forIn_nil]
  refine wpAny_bind (wpAny_bind (wpAny_bind (wpAny_holding ?_)))
  show wpAny _ _ (Builtin.SmallTypes.nextOf (.ref i1) >>= _) _ _ _
  refine wpAny_bind (src_item (s:={ s with heap:=a1 }) (srcIt_at g1 fun o e=>b1.extBut _ o D.i1z e) (srcSq_at q1 fun o e=>b1.extBut _ o D.l1z e) hx fun a2 i1a b2=>wpAny_pure (wpAny_pure ?_))
  refine wpAny_bind (wpAny_bind (wpAny_holding ?_))
  show wpAny _ _ (Builtin.SmallTypes.nextOf (.ref i2) >>= _) _ _ _
  have up2:∀ c o,c≠z→c≠i1→s.heap.get? c=some o→a2.get? c=some o:=fun c o n1 n2 e=>b2.extBut _ o n2 (b1.extBut _ o n1 e)
  refine wpAny_bind (src_item (s:={ s with heap:=a2 }) (srcIt_at g2 fun o e=>up2 _ o D.i2z D.i12.symm e) (srcSq_at q2 fun o e=>up2 _ o D.l2z D.l2i1 e) hy fun a3 i2a b3=>wpAny_pure (wpAny_pure (wpAny_pure ?_)))
  dsimp only
  refine wpAny_bind (wpAny_newTuple ?_ (by show 2≤sizeLine;decide))
  have sz:a3.objs.size=s.heap.objs.size:=by rw [b3.1,b2.1,b1.1]
  have up3:∀ c o,c≠z→c≠i1→c≠i2→s.heap.get? c=some o→a3.get? c=some o:=fun c o n1 n2 n3 e=>b3.extBut _ o n3 (up2 c o n1 n2 e)
  have gt:IsPair (a3.push { cls:= .type "tuple",data:= .seq #[x,y] }) a3.objs.size x y:=Heap.get?_push_size _ rfl
  rw [sz] at gt
  refine wpAny_pure ⟨_,rfl,?_⟩
  show Q (.ref a3.objs.size) _
  rw [sz]
  refine fin _ ⟨⟨true,v,Heap.get?_push_of_some _ (b3.extBut _ _ D.i2z.symm (b2.extBut _ _ D.i1z.symm za))⟩,⟨o,Heap.get?_push_of_some _ (up3 t o nz n1 n2 ht)⟩,Heap.get?_push_of_some _ (up3 TI _ D.TIz D.TIi1 D.TIi2 hTI),srcIt_at i1a fun o e=>Heap.get?_push_of_some _ (b3.extBut _ o D.i12 e),srcIt_at i2a fun o e=>Heap.get?_push_of_some _ e⟩ gt fun c o c1 c2 c3 e=>Heap.get?_push_of_some _ (up3 c o c1 c2 c3 e)
theorem zipA_end {t1 t2:Bool} {z TI TO i1 i2 l1 l2 t:Addr} {k:Nat} {xs:Array Value} {Q:Fin→Shared→Prop} (hh:A.handled=none) (D:ZipApart z TI TO i1 i2 l1 l2) (Z:ZipAg t1 t2 s.heap z TI i1 i2 l1 l2 t k)
    (q1:SrcSq t1 s.heap l1 xs) (hend:xs[k]?=none)
    (fin:∀ h' e,(∀ c o,c≠z→c≠i1→s.heap.get? c=some o→h'.get? c=some o)→(∃ o,h'.get? e=some o∧o.cls= .type "StopIteration")→E (.ref e) { s with heap:=h' }):
    wpAny (model prog w) A (Builtin.«zip.__next__» ⟨[.ref z],[]⟩) Q E s:=by
  obtain ⟨⟨b,v,hz⟩,⟨o,ht⟩,hTI,g1,g2⟩:=Z
  show wpAny _ _ (field (.ref z) 2 >>= _) _ _ _
  refine wpAny_bind (wpAny_field hz rfl (x:= .bool false) rfl ?_)
  show wpAny _ _ (field (.ref z) 3 >>= _) _ _ _
  refine wpAny_bind (wpAny_field hz rfl (x:= .ref TI) rfl (wpAny_bind (wpAny_seqItems hTI rfl ?_)))
  show wpAny _ _ (Builtin.SmallTypes.ownedTupleIsFree (.ref z) >>= _) _ _ _
  refine wpAny_bind (zipA_free hz ht fun a1 za b1=> ?_)
  dsimp only
  rw [if_neg Bool.false_ne_true]
  simp only [List.forIn_toArray,List.forIn_cons,List.forIn_nil]
  refine wpAny_bind (wpAny_bind (wpAny_bind (wpAny_holding ?_)))
  show wpAny _ _ (Builtin.SmallTypes.nextOf (.ref i1) >>= _) _ _ _
  exact wpAny_bind (src_end (s:={ s with heap:=a1 }) hh (srcIt_at g1 fun o e=>b1.extBut _ o D.i1z e) (srcSq_at q1 fun o e=>b1.extBut _ o D.l1z e) hend fun a2 e b2 he=>fin a2 e (fun c o n1 n2 q=>b2 _ _ n2 (b1.extBut _ _ n1 q)) he)
end
theorem zk_slot:Slot "zip" "__getattribute__" "zip.__getattribute__":= .of (owner:="zip") (n:="__getattribute__") (by rw [typeLookup_type,builtinLookup_eq_fast];kernel_rfl) (by decide +kernel) (by decide +kernel) (by decide +kernel) (by first | exact .inl (by decide +kernel) | exact .inr (by decide +kernel)) (by rw [isSubtype_type];kernel_rfl)
theorem zk_entry:entryFor table "zip.__getattribute__"=some Builtin.«object.__getattribute__» := entryFor_alias (id':="object.__getattribute__") (by kernel_rfl) (by decide +kernel) (by decide +kernel) (by kernel_rfl)
theorem zk_keys:typeLookup (.type "zip") "keys"=pure none:=by rw [typeLookup_type,builtinLookup_eq_fast];kernel_rfl
theorem zk_ga:typeLookup (.type "zip") "__getattr__"=pure none:=by rw [typeLookup_type,builtinLookup_eq_fast];kernel_rfl
theorem zk_args (a b:Value):argsOk "zip.__getattribute__" ⟨[a,b],[]⟩:=by
  unfold argsOk
  rw [signature?_of (id:="zip.__getattribute__") (n:=['_', '_', 'e', 't', 'u', 'b', 'i', 'r', 't', 't', 'a', 't', 'e', 'g', '_', '_']) (o:=['p', 'i', 'z']) (by kernel_rfl) F.owner_zip]
  kernel_rfl
theorem zk_meets (a:Addr) (fs:Array Value) (u:Tok):Meets (Builtin.«object.__getattribute__» ⟨[.ref a, .str "keys" u],[]⟩) (fun A R s=>s.heap.get? a=some { cls:= .type "zip",data:= .fields fs }∧raisesAttr (.ref a) "keys" A R s):=
  Meets.of_wp fun prog w A R s hs=>by
    obtain ⟨hp,g,d,tk,os⟩:=s
    obtain ⟨hx,hs⟩:=hs
    have hT:(⟨hp,g,d,tk,os⟩:Shared).TypeIs (.ref a) "zip":=⟨_,hx,rfl⟩
    have f9:=zk_keys
    unfold Builtin.«object.__getattribute__»
    repeat (any_goals (first | assumption | wp_step))
    exact wpAny_raiseAttrError hs.1 hs.2 (attrMsg_fits (by decide +kernel) (by size_fits))
theorem zk_none {prog:Program} {w:World} {A:Around} {E:Value→Shared→Prop} {s:Shared} {a:Addr} {fs:Array Value} {Q:Option Value→Shared→Prop} (hx:s.heap.get? a=some { cls:= .type "zip",data:= .fields fs }) (hA:A.handled=none)
    (h:∀ h' tk e,Heap.NewExcOf s.heap h' e "AttributeError"→Q none { s with heap:=h',toks:=tk }):wpAny (model prog w) A (getAttr? (.ref a) "keys") Q E s:=by
  obtain ⟨hp,g,d,tk,os⟩:=s
  have hT:∀ tk',(⟨hp,g,d,tk',os⟩:Shared).TypeIs (.ref a) "zip":=fun _=>⟨_,hx,rfl⟩
  have f1:=sub_AttributeError
  have f3:=zk_slot.lookup
  have f4:=zk_slot.bind (.ref a)
  have f5:=zk_ga
  unfold getAttr? getAttrBy? getAttrBy
  repeat (any_goals (first | assumption | exact hT _ | ((with_reducible show wpAny _ _ (call (Value.builtin "zip.__getattribute__") _ _) _ _ _);refine call_meets zk_slot (hT _) zk_entry (zk_args _ _) (zk_meets a fs _) ⟨hx,hA,fun h' tk' e hx'=> ?_⟩) | wp_step))
  obtain ⟨t',u',he⟩:=hx'.there
  show wpAny _ _ (getattributeRaised _ _ _ _ _ _ _) _ _ _
  unfold getattributeRaised
  repeat (any_goals (first | assumption | wp_step))
  exact h _ _ _ hx'.of
end L2
namespace L2
open PySem PySem.Spec PyProof.Rows PySem.W
section
variable {prog:Program} {w:World} {A:Around} {E:Value→Shared→Prop} {s:Shared}
def Zst (t1 t2:Bool) (h:Heap) (z TI TO i1 i2 l1 l2:Addr) (k:Nat):Prop:=ZipSt t1 t2 h z TI TO i1 i2 l1 l2 k∨∃ t,ZipAg t1 t2 h z TI i1 i2 l1 l2 t k∧t≠i1∧t≠i2∧t≠z
theorem Zst.ty {t1 t2:Bool} {z TI TO i1 i2 l1 l2:Addr} {k:Nat} (Z:Zst t1 t2 s.heap z TI TO i1 i2 l1 l2 k):s.TypeIs (.ref z) "zip":=by
  rcases Z with Z | ⟨t,⟨⟨b,v,hz⟩,_,_,_,_⟩,_⟩
  · exact ⟨_,Z.hz,rfl⟩
  · exact ⟨_,hz,rfl⟩
theorem Zst.at' {t1 t2:Bool} {h h':Heap} {z TI TO i1 i2 l1 l2 D:Addr} {k:Nat} (Z:Zst t1 t2 h z TI TO i1 i2 l1 l2 k) (n:∀ c∈[z,TI,TO,i1,i2],c≠D) (kp:∀ c o,c≠D→h.get? c=some o→h'.get? c=some o) (hD:∃ o,h'.get? D=some o):Zst t1 t2 h' z TI TO i1 i2 l1 l2 k:=by
  have kz:=fun o=>kp z o (n z (by simp))
  have kTI:=fun o=>kp TI o (n TI (by simp))
  have kTO:=fun o=>kp TO o (n TO (by simp))
  have k1:=fun o=>kp i1 o (n i1 (by simp))
  have k2:=fun o=>kp i2 o (n i2 (by simp))
  rcases Z with ⟨hz,hTI,⟨c,d,hTO⟩,h1,h2⟩ | ⟨t,⟨⟨b,v,hz⟩,⟨o,ht⟩,hTI,h1,h2⟩,n1⟩
  · exact .inl ⟨kz _ hz,kTI _ hTI,⟨c,d,kTO _ hTO⟩,srcIt_at h1 fun o e=>k1 o e,srcIt_at h2 fun o e=>k2 o e⟩
  · refine .inr ⟨t,⟨⟨b,v,kz _ hz⟩,?_,kTI _ hTI,srcIt_at h1 fun o e=>k1 o e,srcIt_at h2 fun o e=>k2 o e⟩,n1⟩
    by_cases e:t=D
    · rw [e];exact hD
    · exact ⟨o,kp t o e ht⟩
theorem zst_item {t1 t2:Bool} {z TI TO i1 i2 l1 l2:Addr} {k:Nat} {xs ys:Array Value} {x y:Value} {Q:Option Value→Shared→Prop} (D:ZipApart z TI TO i1 i2 l1 l2) (Z:Zst t1 t2 s.heap z TI TO i1 i2 l1 l2 k)
    (q1:SrcSq t1 s.heap l1 xs) (q2:SrcSq t2 s.heap l2 ys) (hx:xs[k]?=some x) (hy:ys[k]?=some y)
    (fin:∀ h',Zst t1 t2 h' z TI TO i1 i2 l1 l2 (k+1)→IsPair h' s.heap.objs.size x y→(∀ c o,c∉[z,TI,TO,i1,i2]→s.heap.get? c=some o→h'.get? c=some o)→Q (some (.ref s.heap.objs.size)) { s with heap:=h' }):
    wpAny (model prog w) A (pyNext (.ref z)) Q E s:=by
  have hT0:=Z.ty
  unfold pyNext
  rcases Z with Z | ⟨t,Z,n1,n2,nz⟩
  · have l1':i1<s.heap.objs.size:=by obtain ⟨_,e,_⟩:=srcIt_obj Z.h1;exact Heap.lt_size e
    have l2':i2<s.heap.objs.size:=by obtain ⟨_,e,_⟩:=srcIt_obj Z.h2;exact Heap.lt_size e
    have lz:z<s.heap.objs.size:=Heap.lt_size Z.hz
    refine wpAny_bind (wpAny_attempt (wpAny_callSpecial?_slot (name:=Str.ofString "__next__") hT0 F.slot_zip_next (wpAny_call_entry F.slot_zip_next hT0 F.entry_zip_next
      (zipS_item D Z q1 q2 hx hy fun h' hz' hTO' h1' h2' hT hk=>wpAny_pure ?_) (F.args_zip_next_1 _))))
    refine fin h' (.inr ⟨s.heap.objs.size,⟨⟨false, .ref TO,hz'⟩,⟨_,hT⟩,hk TI _ D.TIz D.TITO D.TIi1 D.TIi2 Z.hTI,h1',h2'⟩,Nat.ne_of_gt l1',Nat.ne_of_gt l2',Nat.ne_of_gt lz⟩) hT fun c o n e=> ?_
    exact hk c o (fun q=>n (by simp [q])) (fun q=>n (by simp [q])) (fun q=>n (by simp [q])) (fun q=>n (by simp [q])) e
  · refine wpAny_bind (wpAny_attempt (wpAny_callSpecial?_slot (name:=Str.ofString "__next__") hT0 F.slot_zip_next (wpAny_call_entry F.slot_zip_next hT0 F.entry_zip_next
      (zipA_item D Z n1 n2 nz q1 q2 hx hy fun h' Z' hT hk=>wpAny_pure ?_) (F.args_zip_next_1 _))))
    exact fin h' (.inr ⟨t,Z',n1,n2,nz⟩) hT fun c o n e=>hk c o (fun q=>n (by simp [q])) (fun q=>n (by simp [q])) (fun q=>n (by simp [q])) e
theorem zst_end {t1 t2:Bool} {z TI TO i1 i2 l1 l2:Addr} {k:Nat} {xs ys:Array Value} {Q:Option Value→Shared→Prop} (hh:A.handled=none) (D:ZipApart z TI TO i1 i2 l1 l2) (Z:Zst t1 t2 s.heap z TI TO i1 i2 l1 l2 k)
    (q1:SrcSq t1 s.heap l1 xs) (q2:SrcSq t2 s.heap l2 ys) (hend:xs[k]?=none)
    (fin:∀ h',(∀ c o,c∉[z,TI,TO,i1,i2]→s.heap.get? c=some o→h'.get? c=some o)→Q none { s with heap:=h' }):
    wpAny (model prog w) A (pyNext (.ref z)) Q E s:=by
  have hT0:=Z.ty
  unfold pyNext
  rcases Z with Z | ⟨t,Z,n1,n2,nz⟩
  · refine wpAny_bind (wpAny_attempt (wpAny_callSpecial?_slot (name:=Str.ofString "__next__") hT0 F.slot_zip_next (wpAny_call_entry F.slot_zip_next hT0 F.entry_zip_next
      (zipS_end hh D Z q1 q2 (.inl hend) fun h' e eb he=> ?_) (F.args_zip_next_1 _))))
    obtain ⟨oe,eo,ce⟩:=he
    refine wpAny_bind (wpAny_isInstance (T:="StopIteration") (b:=true) ⟨oe,eo,ce⟩ isSubtype_stop (wpAny_pure ?_))
    exact fin h' fun c o n e=>eb c o (fun q=>n (by simp [q])) (fun q=>n (by simp [q])) (fun q=>n (by simp [q])) (fun q=>n (by simp [q])) e
  · refine wpAny_bind (wpAny_attempt (wpAny_callSpecial?_slot (name:=Str.ofString "__next__") hT0 F.slot_zip_next (wpAny_call_entry F.slot_zip_next hT0 F.entry_zip_next
      (zipA_end hh D Z q1 hend fun h' e eb he=> ?_) (F.args_zip_next_1 _))))
    obtain ⟨oe,eo,ce⟩:=he
    refine wpAny_bind (wpAny_isInstance (T:="StopIteration") (b:=true) ⟨oe,eo,ce⟩ isSubtype_stop (wpAny_pure ?_))
    exact fin h' fun c o n e=>eb c o (fun q=>n (by simp [q])) (fun q=>n (by simp [q])) e
theorem zk_loopE:entryFor table "dict.update.loop"=some Builtin.«dict.update.loop» := entryFor_of_tree (by kernel_rfl)
theorem zk_loopP:plainId "dict.update.loop"=true:=by decide +kernel
end
section
variable {X:Cx} {pins:List (Addr × Obj)} {σ:St} {H:Hp} {s:Shared} {A:Around} {E:Value→Shared→Prop}
theorem d_dictSet {a:Addr} {kvs:List (Key × V)} {k:Key} {v:V} {u r:Value} {Q:Unit→Shared→Prop} (I:Inv X pins σ H s) (e:H a=some (.dK kvs)) (l:kvs.length<sizeLine) (ry:RelV (kV k) u) (rv:RelV v r)
    (h:∀ h',Inv X pins σ (upd H a (.dK (putK kvs k v))) { s with heap:=h',toks:=s.toks+1 }→Heap.SameBut a s.heap h'→(∃ q,h'.get? a=some q)→Q () { s with heap:=h',toks:=s.toks+1 }):wpAny (model X.prog X.w) A (dictSet a u r) Q E s:=by
  obtain ⟨z,hd,vs,rel,dd⟩:=dk_of I.hok e
  have hz:vs.length≤sizeLine:=by rw [← rel.length];exact z
  have hl:(putK kvs k v).length≤sizeLine:=by have:=length_putK kvs k v;omega
  refine wpAny_dictSet_pairs (hsz:=hz) (kV_is ry) dd fun h' dd' hs=> ?_
  have he:∃ q,h'.get? a=some q:=let ⟨q,_,_,hq,_⟩:=dd';⟨q,hq⟩
  exact h h' (d_write I (by rw [e];exact True.intro) hs he (dk_new hl hd (rel.put k rv) dd')) hs he
theorem sqS_same {tp:Bool} {K:PySem.W.Frag} {H H':Hp} {a:Addr} {xs:List V} (h:SqS tp K H a xs) (s:Same H H'):SqS tp K H' a xs:=by
  cases tp with
  | false=>exact s.seq (show SqL K H a xs from h)
  | true=>
    rcases (show SqT K H a xs from h) with (h | ⟨o,h⟩) | h
    · exact (show SqT K H' a xs from .inl (.inl (s _ _ h)))
    · exact (show SqT K H' a xs from .inl (.inr ⟨o,s _ _ h⟩))
    · exact (show SqT K H' a xs from .inr h)
theorem mergeK_snoc (l:List (Key × V)) (p:Key × V):mergeK [] (l++[p])=putK (mergeK [] l) p.1 p.2:=by
  unfold mergeK
  rw [List.foldl_append]
  rfl
theorem zip_loop {a b z TI TO i1 i2 D:Addr} {t1 t2:Bool} {H0:Hp} {ks:List Key} {ys:List V} {R:Result→Shared→Prop} (hA:A.in1.handled=none) (DA:ZipApart z TI TO i1 i2 a b) (nD:∀ c∈[z,TI,TO,i1,i2],c≠D) (hl:ks.length=ys.length) (h15:ks.length≤15)
    (hq1:SqS t1 X.K (bar D H0) a (ks.map kV)) (hq2:SqS t2 X.K (bar D H0) b ys):∀ (m i:Nat) (s:Shared) (H:Hp),ks.length - i=m→i≤ks.length→Inv X pins σ H s→(∀ c∈[z,TI,TO,i1,i2],FpOk X pins H c)→(∀ c∈[z,TI,TO,i1,i2],c<s.heap.objs.size)→
      Zst t1 t2 s.heap z TI TO i1 i2 a b i→Same (bar D H0) H→H D=some (.dK (mergeK [] ((ks.zip ys).take i)))→(∀ s' H',Inv X pins σ H' s'→Same (bar D H0) H'→H' D=some (.dK (mergeK [] (ks.zip ys)))→R (.ok (.ret .none)) s')→
      codeAny (model X.prog X.w) A (.builtin "dict.update.loop" ⟨[.ref D, .ref z,rawInt i, .none],[]⟩) R s:=by
  intro m
  induction m with
  | zero=>
    intro i s H hm hi I f lt Z sm hD hR
    have e:i=ks.length:=by omega
    subst e
    obtain ⟨its,rv,p1⟩:=sqS_src I (sqS_same hq1 sm)
    obtain ⟨its2,rv2,p2⟩:=sqS_src I (sqS_same hq2 sm)
    have hl1:=rv.length
    rw [List.length_map] at hl1
    refine codeAny_builtin zk_loopE ?_
    rw [Around.under_plainId zk_loopP _]
    show wpAny _ A.in1 (pyNext (.ref z) >>= _) _ _ s
    refine wpAny_bind (zst_end hA DA Z p1 p2 (by simp;omega) fun h' hk=> ?_)
    have I1:=Inv.turnedL (t':=s.toks) (h':=h') [z,TI,TO,i1,i2] I f fun c o hc q=>hk c o hc q
    rw [List.take_of_length_le (by rw [List.length_zip];omega)] at hD
    exact wpAny_bind (wpAny_pure (wpAny_pure (hR _ H I1 sm hD)))
  | succ m ih=>
    intro i s H hm hi I f lt Z sm hD hR
    have hlt:i<ks.length:=by omega
    obtain ⟨its,rv,p1⟩:=sqS_src I (sqS_same hq1 sm)
    obtain ⟨its2,rv2,p2⟩:=sqS_src I (sqS_same hq2 sm)
    obtain ⟨u,hu,ru⟩:=rv.get (show (ks.map kV)[i]?=some (kV ks[i]) by simp [hlt])
    obtain ⟨u2,hu2,ru2⟩:=rv2.get (show ys[i]?=some (ys[i]'(by omega)) by simp [show i<ys.length by omega])
    refine codeAny_builtin zk_loopE ?_
    rw [Around.under_plainId zk_loopP _]
    show wpAny _ A.in1 (pyNext (.ref z) >>= _) _ _ s
    refine wpAny_bind (zst_item DA Z p1 p2 (x:=u) (y:=u2) (by simpa using hu) (by simpa using hu2) fun h' Z' hT hk=> ?_)
    have I0:=I.laid (h':=s.heap.push { cls:= .type "tuple",data:= .seq #[u,u2] }) (a:=s.heap.objs.size) (o:= .tup [kV ks[i],ys[i]'(by omega)]) (t':=s.toks) (fun _ _ q=>Heap.get?_push_of_some _ q) (Nat.le_refl _)
      ⟨(by show 2≤sizeLine;decide),[u,u2], .cons ru (.cons ru2 .nil),⟨_,Heap.get?_push_size _ rfl,rfl,_,rfl⟩⟩
    have f0:∀ c∈[z,TI,TO,i1,i2],FpOk X pins (upd H s.heap.objs.size (.tup [kV ks[i],ys[i]'(by omega)])) c:=fun c hc=>fp_upd (f c hc) (Nat.ne_of_lt (lt c hc))
    have I1:=Inv.turnedL (t':=s.toks) (h':=h') [z,TI,TO,i1,i2] I0 f0 (fun c o hc q=>by
      rcases Heap.get?_push_cases (show (s.heap.push { cls:= .type "tuple",data:= .seq #[u,u2] }).get? c=some o from q) with ⟨q1,q2⟩ | q
      · rw [q1,q2];exact hT
      · exact hk c o hc q)
    have fr:H s.heap.objs.size=none:=I.fresh
    have nsD:D≠s.heap.objs.size:=fun z=>by rw [z,fr] at hD;cases hD
    have hD1:upd H s.heap.objs.size (.tup [kV ks[i],ys[i]'(by omega)]) D=some (.dK (mergeK [] ((ks.zip ys).take i))):=by rw [upd_ne nsD];exact hD
    have lk:(mergeK [] ((ks.zip ys).take i)).length<sizeLine:=by
      have h1:=length_mergeK ((ks.zip ys).take i) []
      rw [List.length_nil,List.length_take] at h1
      rw [sizeLine_eq]
      omega
    show wpAny _ _ (holding [Value.ref s.heap.objs.size] _ >>= _) _ _ _
    refine wpAny_bind (wpAny_holding (wpAny_bind (wpAny_tryCatch ?_)))
    unfold Builtin.Dict.pairItems
    refine wpAny_bind (wpAny_typeOf (T:="tuple") ⟨_,hT,rfl⟩ ?_)
    rw [if_pos (by decide)]
    refine wpAny_bind (wpAny_seqItems hT rfl (wpAny_pure ?_))
    show wpAny _ _ (holding [u,u2] (dictSet D u u2)) _ _ _
    refine wpAny_holding (d_dictSet I1 hD1 lk ru ru2 fun h2 I2 sb he=> ?_)
    refine wpAny_pure ⟨plainId_quiet zk_loopP _,?_⟩
    show codeAny _ A (.builtin "dict.update.loop" ⟨[.ref D, .ref z,rawInt ((i:Int)+1), .none],[]⟩) R _
    rw [show ((i:Int)+1)=((i+1:Nat):Int) by omega]
    have gr:s.heap.objs.size<h'.objs.size:=Heap.lt_size hT
    refine ih (i+1) _ _ (by omega) hlt I2 (fun c hc=>fp_upd (f0 c hc) (nD c hc)) (fun c hc=> ?_) (Z'.at' nD (fun c o n e=>(sb.2 c n).trans e) he) (fun c o e=> ?_) ?_ hR
    · show c<h2.objs.size
      rw [show h2.objs.size=h'.objs.size from sb.1]
      exact Nat.lt_trans (lt c hc) gr
    · have nc:c≠D:=fun y=>by rw [y,show bar D H0 D=none from if_pos rfl] at e;cases e
      have e1:=sm c o e
      have nc2:c≠s.heap.objs.size:=fun y=>by rw [y,fr] at e1;cases e1
      rw [upd_ne nc,upd_ne nc2]
      exact e1
    · have e9:(ks.zip ys).take (i+1)=(ks.zip ys).take i++[(ks[i],ys[i]'(by omega))]:=by
        rw [List.take_add_one,List.getElem?_eq_getElem (by rw [List.length_zip];omega),List.getElem_zip]
        rfl
      rw [upd_same,e9,mergeK_snoc]
theorem dict_zip {a b z TI TO i1 i2:Addr} {t1 t2:Bool} {ks:List Key} {ys:List V} {Q:Value→Shared→Prop} (hA:A.handled=none) (DA:ZipApart z TI TO i1 i2 a b) (I:Inv X pins σ H s) (f:∀ c∈[z,TI,TO,i1,i2],FpOk X pins H c) (lt:∀ c∈[z,TI,TO,i1,i2],c<s.heap.objs.size)
    (Z:ZipSt t1 t2 s.heap z TI TO i1 i2 a b 0) (hq1:SqS t1 X.K H a (ks.map kV)) (hq2:SqS t2 X.K H b ys) (hl:ks.length=ys.length) (h15:ks.length≤15)
    (k:∀ s' H' p,Inv X pins σ H' s'→Same H H'→H p=none→H' p=some (.dK (mergeK [] (ks.zip ys)))→Q (.ref p) s'):wpAny (model X.prog X.w) A (call (.type "dict") [.ref z]) Q E s:=by
  refine callType_codes (Q₁:=fun v s2=>v= .ref s.heap.objs.size∧s2={ s with heap:=s.heap.push { cls:= .type "dict",data:= .dict #[] } }) F.kt_called_dict (F.kt_typeCall_dict_1 _) F.entry_dict_init (kt_code_dict_new _ ⟨rfl,rfl⟩) ?_
  rintro _ _ ⟨rfl,rfl⟩
  have fr:H s.heap.objs.size=none:=I.fresh
  have I1:=I.laid (a:=s.heap.objs.size) (o:= .dK []) (h':=s.heap.push { cls:= .type "dict",data:= .dict #[] }) (t':=s.toks) (fun _ _ q=>Heap.get?_push_of_some _ q) (Nat.le_refl _) (dk_empty s.heap I.big)
  have gd:(s.heap.push { cls:= .type "dict",data:= .dict #[] }).get? s.heap.objs.size=some { cls:= .type "dict",data:= .dict #[] }:=Heap.get?_push_size _ rfl
  have sz:(s.heap.push { cls:= .type "dict",data:= .dict #[] }).objs.size=s.heap.objs.size+1:=Heap.size_push ..
  have nD:∀ c∈[z,TI,TO,i1,i2],c≠s.heap.objs.size:=fun c hc=>Nat.ne_of_lt (lt c hc)
  have kp1:∀ c o,s.heap.get? c=some o→(s.heap.push { cls:= .type "dict",data:= .dict #[] }).get? c=some o:=fun c o e=>Heap.get?_push_of_some _ e
  generalize s.heap.push { cls:= .type "dict",data:= .dict #[] }=h1 at I1 gd sz kp1 ⊢
  have zg:h1.get? z=some _:=kp1 z _ Z.hz
  have tD:({ s with heap:=h1 }:Shared).TypeIs (.ref s.heap.objs.size) "dict":=⟨_,gd,rfl⟩
  refine ⟨tD,F.args_dict_init_2 _ _,?_⟩
  unfold Builtin.«dict.__init__»
  refine wpAny_bind ?_
  unfold Builtin.Dict.selfAndRest
  refine wpAny_bind (wpAny_notOrdered_dict tD ?_)
  show wpAny _ _ (pure (s.heap.objs.size,[Value.ref z])) _ _ _
  refine wpAny_pure ?_
  show wpAny _ _ (Builtin.Dict.updateFrom "dict.__init__" s.heap.objs.size (.ref z) [] .none) _ _ _
  unfold Builtin.Dict.updateFrom
  refine wpAny_bind (wpAny_typeOf (T:="zip") ⟨_,zg,rfl⟩ ?_)
  rw [if_pos (by decide)]
  refine wpAny_bind (zk_none zg (show A.in1.in1.handled=none from hA) fun h2 tk e hx=> ?_)
  have kp2:∀ c o,h1.get? c=some o→h2.get? c=some o:=hx.keeps
  have I2:=I1.kept (t':=tk) kp2
  have sH:Same H (bar s.heap.objs.size (upd H s.heap.objs.size (.dK []))):=fun c o q=>by
    have nc:c≠s.heap.objs.size:=fun y=>by rw [y,fr] at q;cases q
    exact (if_neg nc).trans ((upd_ne nc).trans q)
  have kp:∀ c o,s.heap.get? c=some o→h2.get? c=some o:=fun c o q=>kp2 c o (kp1 c o q)
  show wpAny _ _ (rule _ >>= _) _ _ _
  refine wpAny_bind (wpAny_rule (wpAny_bind (wpAny_pyIter_zip (kp z _ Z.hz) (wpAny_pure ⟨plainId_quiet zk_loopP _,?_⟩))))
  obtain ⟨c0,d0,hTO⟩:=Z.hTO
  refine zip_loop (A:=A.in1) (H0:=upd H s.heap.objs.size (.dK [])) (show A.in1.in1.handled=none from hA) DA nD hl h15 (sqS_same hq1 sH) (sqS_same hq2 sH) ks.length 0 _ _ rfl (Nat.zero_le _) I2 (fun c hc=>fp_upd (f c hc) (nD c hc)) (fun c hc=> ?_) (.inl ⟨kp z _ Z.hz,kp TI _ Z.hTI,⟨c0,d0,kp TO _ hTO⟩,srcIt_at Z.h1 fun o q=>kp i1 o q,srcIt_at Z.h2 fun o q=>kp i2 o q⟩) bar_same upd_same fun s' H' I' sm hD=>⟨rfl,k s' H' _ I' (sH.trans sm) fr hD⟩
  exact Nat.lt_trans (lt c hc) (Heap.lt_size (kp2 _ _ gd))
def tDictZip (K:PySem.W.Frag) (ta:TA):TE:=fun σ H Q=>ta σ H fun vs H1=>∃ (t1 t2:Bool) (a b:Addr) (ks:List Key) (ys:List V),vs=[.ref a, .ref b]∧SqS t1 K H1 a (ks.map kV)∧SqS t2 K H1 b ys∧ks.length=ys.length∧ks.length≤15∧
  ∀ H' p,Same H1 H'→H1 p=none→H' p=some (.dK (mergeK [] (ks.zip ys)))→Q (.ref p) H'
end
section
variable {X:Cx} {K:PySem.W.Frag}
theorem pe_dictZip {l m:Expr} {ta:TA} {p pos p2 pos2:Pos} (hg:Gl X "zip") (hm:X.mg "zip"=none) (hg2:Gl X "dict") (hm2:X.mg "dict"=none) (ha:PA X [l,m] ta) (hc:X.calm=true:=by rfl) (hK:X.K=K:=by rfl) (hs:starEach [l,m] X.env=[(false,eval l X.env),(false,eval m X.env)]:=by rfl) (hs2:starEach [m] X.env=[(false,eval m X.env)]:=by rfl)
    (h3:starEach [Expr.Call (.Name "zip" p) [l,m] [] pos] X.env=(false,eval (.Call (.Name "zip" p) [l,m] [] pos) X.env)::starEach [] X.env:=by rfl):
    PE X (.Call (.Name "dict" p2) [.Call (.Name "zip" p) [l,m] [] pos] [] pos2) (tDictZip K ta):=by
  subst hK
  intro pins s σ H Q I h
  refine Call_ (ld_blt I hg2 hm2 PyProof.Rows.boot_dict (PyProof.Rows.callWith_type1 ?_ h3 rfl))
  rw [h3]
  show wpAny _ _ (spliced ((false,eval (.Call (.Name "zip" p) [l,m] [] pos) X.env)::backTo pos2 (starEach [] X.env))) _ _ s
  refine Calls.spliced_cons ?_
  refine Call_ (ld_blt I hg hm boot_zip (PyProof.Rows.callWith_type1 (thn (ha pos pins s σ H _ I h) fun us s1 ⟨vs,H1,I1,r1,q1⟩=> ?_) (by rw [hs,hs2]) (by rw [hs2];rfl)))
  obtain ⟨t1,t2,a,b,ks,ys,e,hq,hq2,hl,h15,q⟩:=q1
  subst e
  cases r1 with
  | cons r rr=>
    cases rr with
    | cons r' rr=>
    cases rr
    cases r
    cases r'
    obtain ⟨its,rv,pl⟩:=sqS_src I1 hq
    obtain ⟨its2,rv2,pl2⟩:=sqS_src I1 hq2
    obtain ⟨oa,_,ea,_⟩:=srcSq_obj pl
    obtain ⟨ob,_,eb,_⟩:=srcSq_obj pl2
    refine call_zipS pl pl2 fun h' st hk=> ?_
    have I2:=I1.kept (t':=s1.toks) hk
    have fp:∀ c∈[s1.heap.objs.size+4,s1.heap.objs.size+2,s1.heap.objs.size+3,s1.heap.objs.size,s1.heap.objs.size+1],s1.heap.objs.size≤c∧c≤s1.heap.objs.size+4:=fun c hc=>by
      simp only [List.mem_cons,List.not_mem_nil,or_false] at hc
      rcases hc with q | q | q | q | q <;> subst q <;> exact ⟨by omega,by omega⟩
    refine Calls.spliced_nil ?_
    refine dict_zip (I.ok.hd hc) (PySem.W.ktu_apart s1.heap.objs.size a b (Heap.lt_size ea) (Heap.lt_size eb)) I2 (fun c hc=>I1.fpOk (fp c hc).1 (I1.hok.fresh (fp c hc).1)) (fun c hc=>Nat.lt_of_le_of_lt (fp c hc).2 (Heap.lt_size st.hz)) st hq hq2 hl h15 fun s' H' pp I' sm fr hD=> ?_
    exact ⟨.ref pp,H',I',rfl,q H' pp sm fr hD⟩
end
end L2
namespace L2
open PySem PySem.Spec PyProof.Rows PySem.W
def rUpd:V→List V→Hp→VK→Prop:=fun x xs H Q=>∃ (a b:Addr) (kvs more:List (Key × V)),x= .ref a∧xs=[.ref b]∧a≠b∧H a=some (.dK kvs)∧H b=some (.dK more)∧kvs.length+more.length≤1000∧Q .non (upd H a (.dK (mergeK kvs more)))
theorem mt_update {X:Cx}:MtR X "dict.update" rUpd:=by
  intro pins s σ H x vs v us Q I rx rv h
  obtain ⟨a,b,kvs,more,rfl,rfl,hne,ha,hb,hz,q⟩:=h
  cases rx
  obtain ⟨u,rfl,ru⟩:=rv.one
  cases ru
  obtain ⟨z1,d1,vs1,r1,dd1⟩:=dk_of I.hok ha
  obtain ⟨z2,d2,vs2,r2,dd2⟩:=dk_of I.hok hb
  have hl:(mergeK kvs more).length≤sizeLine:=by
    have:=length_mergeK more kvs
    rw [sizeLine_eq]
    omega
  refine call_meetsIn PySem.F.slot_dict_update dd1.typeIs PySem.F.entry_dict_update (PySem.F.args_dict_update_2 _ _) (meets_dict_update (mixKind X.prog X.w) a b hne d2) ⟨vs1,vs2,dd1,dd2,by rw [← r1.length, ← r2.length,sizeLine_eq];omega,fun h' dd' _ hs=> ?_⟩
  have he:∃ q,h'.get? a=some q:=let ⟨q,_,_,hq,_⟩:=dd';⟨q,hq⟩
  exact ⟨.non,_,d_write I (by rw [ha];exact True.intro) hs he (dk_new hl d1 (r2.merge r1) dd'),rfl,q⟩
theorem rd_upd {H:Hp} {Q:VK} {a b:Addr} {kvs more:List (Key × V)} (hne:a≠b) (ha:H a=some (.dK kvs)) (hb:H b=some (.dK more)) (hz:kvs.length+more.length≤1000) (q:Q .non (upd H a (.dK (mergeK kvs more)))):rUpd (.ref a) [.ref b] H Q:=⟨a,b,kvs,more,rfl,rfl,hne,ha,hb,hz,q⟩
theorem rd_dictZip {K:PySem.W.Frag} {ta:TA} {σ:St} {H:Hp} {Q:VK} (h:ta σ H fun vs H1=>∃ (t1 t2:Bool) (a b:Addr) (ks:List Key) (ys:List V),vs=[.ref a, .ref b]∧SqS t1 K H1 a (ks.map kV)∧SqS t2 K H1 b ys∧ks.length=ys.length∧ks.length≤15∧
  ∀ H' p,Same H1 H'→H1 p=none→H' p=some (.dK (mergeK [] (ks.zip ys)))→Q (.ref p) H'):tDictZip K ta σ H Q:=h
end L2
open L2
local macro_rules | `(tactic| walk_at "t") => `(tactic| first | (with_reducible first | refine rd_seq ?_ | refine rd_asg ?_ | refine rd_name ?_ | refine rd_c ?_ | refine rd_op ?_ | refine rd_rI0 ?_ | refine rd_eqI ?_ | refine rd_neI ?_ | refine rd_eqB ?_ | refine rd_neB ?_ | refine rd_not ?_ | refine rd_test ?_ | refine rd_tB ?_ | refine rd_bl ?_ | refine rd_or ?_ | refine rd_andV ?_ | refine rd_notV ?_ | refine rd_if ?_ | refine rd_ret ?_ | refine rd_drop ?_ | refine rd_nil ?_ | refine rd_cons ?_ | refine rd_lst ?_ | refine rd_tup ?_ | refine rd_cb ?_ | refine rd_call ?_ | refine rd_sl ?_ | refine rd_part ?_ | refine rd_noPart ?_ | refine rd_int ?_ | refine iteT ?_ | refine iteF ?_ | refine rd_next ?_ | refine rd_disp ?_ | refine rd_pnil ?_ | refine rd_pcons ?_ | refine rd_dget ?_ | refine rd_bm0 ?_ | refine rd_bm ?_ | refine iteNF ?_ | refine iteNT ?_ | refine rd_comp ?_ | refine rd_for ?_ | refine rd_iL ?_ | refine rd_iT ?_ | refine rd_iQ ?_ | refine rd_iE ?_ | refine rd_iF ?_ | refine rd_iZ ?_ | refine rd_i1 ?_ | refine rd_i2 ?_ | refine rd_i3 ?_ | refine rd_gcons ?_ | refine rd_gnil ?_ | refine rd_par ?_ | refine rd_two ?_ | refine rd_max2 ?_ | refine rd_min2 ?_ | refine rd_chain ?_ | refine rd_fld ?_ | refine rd_put ?_ | refine rd_make ?_ | refine rd_meth ?_) | ((with_reducible apply rd_var); exact rfl) | (with_reducible refine rd_len (by simp only [List.length_cons, List.length_nil]; decide) ?_))
local macro_rules | `(tactic| walk_at "s") => `(tactic| first | walk_at "t" | (with_reducible refine rd_ifS ?_))
local macro_rules | `(tactic| walk_at "v") => `(tactic| repeat walk_at "t")
local macro_rules | `(tactic| walk_at "w") => `(tactic| repeat walk_at "s")
namespace K17
open PySem L2 PySem.Spec PyProof.Rows
seal L2.PE L2.PT L2.PW L2.PA L2.PS L2.PSs L2.PI L2.PG L2.PTs L2.PGs
section
variable {P:Program} {w:World} {K:PySem.W.Frag} {mg:Str→Option Value} {base:Heap}
structure Cs where
  Cloth:Addr
  Draft:Addr
  LoomError:Addr
  BadRow:Addr
  BadWord:Addr
  TooMany:Addr
  NotPlain:Addr
  NotGrown:Addr
  BadDraft:Addr
  BadCloth:Addr
  OutOfPlace:Addr
  PARTS:Addr
structure Txt (K:PySem.W.Frag) (mg:Str→Option Value) (c:Cs):Prop where
  own:Own mg ["isinstance","int","bool","str","list","tuple","dict","len","all","range","sum","zip","enumerate","min","max","ValueError"]
  g_Cloth:mg "Cloth"=some (.ref c.Cloth)
  kd_Cloth:Kind K c.Cloth
  is_Cloth:PySem.W.kitOne K (.ref c.Cloth) (.ref c.Cloth)=some true
  na_Cloth_width:NoAttr K c.Cloth "width"
  na_Cloth_rows:NoAttr K c.Cloth "rows"
  g_Draft:mg "Draft"=some (.ref c.Draft)
  kd_Draft:Kind K c.Draft
  is_Draft:PySem.W.kitOne K (.ref c.Draft) (.ref c.Draft)=some true
  na_Draft_shafts:NoAttr K c.Draft "shafts"
  na_Draft_treadles:NoAttr K c.Draft "treadles"
  na_Draft_threading:NoAttr K c.Draft "threading"
  na_Draft_ties:NoAttr K c.Draft "ties"
  na_Draft_treading:NoAttr K c.Draft "treading"
  na_Draft_warp:NoAttr K c.Draft "warp"
  na_Draft_weft:NoAttr K c.Draft "weft"
  g_LoomError:mg "LoomError"=some (.ref c.LoomError)
  g_BadRow:mg "BadRow"=some (.ref c.BadRow)
  g_BadWord:mg "BadWord"=some (.ref c.BadWord)
  g_TooMany:mg "TooMany"=some (.ref c.TooMany)
  g_NotPlain:mg "NotPlain"=some (.ref c.NotPlain)
  g_NotGrown:mg "NotGrown"=some (.ref c.NotGrown)
  g_BadDraft:mg "BadDraft"=some (.ref c.BadDraft)
  xk_BadDraft:HT.ExcKind K c.BadDraft
  xi_BadDraft:PySem.W.excIn K c.BadDraft [.type "ValueError", .type "Exception", .type "BaseException", .type "object"] "ValueError.__new__"=true
  xm_BadDraft_LoomError:PySem.W.exmOne K (.ref c.BadDraft) (.ref c.LoomError)=some true
  ki_BadDraft_BadRow:PySem.W.kitOne K (.ref c.BadDraft) (.ref c.BadRow)=some false
  ki_BadDraft_BadWord:PySem.W.kitOne K (.ref c.BadDraft) (.ref c.BadWord)=some false
  ki_BadDraft_TooMany:PySem.W.kitOne K (.ref c.BadDraft) (.ref c.TooMany)=some false
  ki_BadDraft_NotPlain:PySem.W.kitOne K (.ref c.BadDraft) (.ref c.NotPlain)=some false
  ki_BadDraft_NotGrown:PySem.W.kitOne K (.ref c.BadDraft) (.ref c.NotGrown)=some false
  ki_BadDraft_BadDraft:PySem.W.kitOne K (.ref c.BadDraft) (.ref c.BadDraft)=some true
  ki_BadDraft_BadCloth:PySem.W.kitOne K (.ref c.BadDraft) (.ref c.BadCloth)=some false
  ki_BadDraft_OutOfPlace:PySem.W.kitOne K (.ref c.BadDraft) (.ref c.OutOfPlace)=some false
  ki_BadDraft_ValueError:PySem.W.kitOne K (.ref c.BadDraft) (.type "ValueError")=some true
  g_BadCloth:mg "BadCloth"=some (.ref c.BadCloth)
  xk_BadCloth:HT.ExcKind K c.BadCloth
  xi_BadCloth:PySem.W.excIn K c.BadCloth [.type "ValueError", .type "Exception", .type "BaseException", .type "object"] "ValueError.__new__"=true
  xm_BadCloth_LoomError:PySem.W.exmOne K (.ref c.BadCloth) (.ref c.LoomError)=some true
  ki_BadCloth_BadRow:PySem.W.kitOne K (.ref c.BadCloth) (.ref c.BadRow)=some false
  ki_BadCloth_BadWord:PySem.W.kitOne K (.ref c.BadCloth) (.ref c.BadWord)=some false
  ki_BadCloth_TooMany:PySem.W.kitOne K (.ref c.BadCloth) (.ref c.TooMany)=some false
  ki_BadCloth_NotPlain:PySem.W.kitOne K (.ref c.BadCloth) (.ref c.NotPlain)=some false
  ki_BadCloth_NotGrown:PySem.W.kitOne K (.ref c.BadCloth) (.ref c.NotGrown)=some false
  ki_BadCloth_BadDraft:PySem.W.kitOne K (.ref c.BadCloth) (.ref c.BadDraft)=some false
  ki_BadCloth_BadCloth:PySem.W.kitOne K (.ref c.BadCloth) (.ref c.BadCloth)=some true
  ki_BadCloth_OutOfPlace:PySem.W.kitOne K (.ref c.BadCloth) (.ref c.OutOfPlace)=some false
  ki_BadCloth_ValueError:PySem.W.kitOne K (.ref c.BadCloth) (.type "ValueError")=some true
  g_OutOfPlace:mg "OutOfPlace"=some (.ref c.OutOfPlace)
  g_PARTS:mg "PARTS"=some (.ref c.PARTS)
  t_PARTS:∀ H:Hp,SqT K H c.PARTS [.str "shafts", .str "treadles", .str "threading", .str "ties", .str "treading", .str "warp", .str "weft"]
  k_MOST_SHAFTS:∃ t,mg "MOST_SHAFTS"=some (.int 16 t)
  k_MOST_TREADLES:∃ t,mg "MOST_TREADLES"=some (.int 16 t)
  k_MOST_ENDS:∃ t,mg "MOST_ENDS"=some (.int 60 t)
  k_MOST_PICKS:∃ t,mg "MOST_PICKS"=some (.int 60 t)
  k_COLOURS:∃ t,mg "COLOURS"=some (.str "abcdefghijklmnopqrstuvwxyz" t)
def spLaw (K:PySem.W.Frag):Sp:=fun vs H Q _=>∃ (a:Addr) (ns:List Int),vs=[.ref a]∧SqL K H a (ns.map V.int)∧ns.length≤63∧∀ H',Q (.bl true) H'
end
end K17
open L2
namespace K17
open PySem L2 PySem.Spec PyProof.Rows
seal L2.PE L2.PT L2.PW L2.PA L2.PS L2.PSs L2.PI L2.PG L2.PTs L2.PGs
section
variable {P:Program} {w:World} {K:PySem.W.Frag} {mg:Str→Option Value} {base:Heap} {c:Cs}
def sp__law_same:Nat→Sp
  | 0=>fun _ _ _ _=>False
  | n+1=>fun vs H Q _=>∃ v u d,vs=[v,u]∧Rp H FT n v d∧Rp H FT n u d∧∀ H',Same H H'→Q (.bl true) H'
abbrev s__law_same:Stmt:=top 57
theorem sc__law_same:FnScope ["_law_found","_law_due"] ["_law_found","_law_due"] (defScope s__law_same):=⟨rfl,rfl,rfl,by decide +kernel,rfl,by decide +kernel,by decide +kernel⟩
theorem ok1__law_same {n:Nat} {f:Addr} {fd:FuncData} (F:Fun K "_law_same" "_law_same" s__law_same f fd) (T:Txt K mg c) (c__law_same:CallF P w K mg base "_law_same" (n+1) ["_law_found","_law_due"] (sp__law_same n)):FnOk P w K mg base CX0 (n+2) f fd ["_law_found","_law_due"] (sp__law_same (n+1)):=by
  refine F.ok sc__law_same (fun vs H Q E h=> ?_) (fun cdv A outer s H vs Q E hr h=> ?_)
  · obtain ⟨v,u,d,rfl,_⟩:=h
    rfl
  · obtain ⟨v,u,d,rfl,rv,ru,k⟩:=h
    refine ⟨_,(pss_cons (ps_if (pt_val (pe_callB (k_isinT (K:=K)) rfl (T.own _ (by decide)) boot_isinstance (pa_cons (pv 1) (pa_cons (pe_tup (pa_cons (pe_ty rfl (T.own _ (by decide)) boot_list') (pa_cons (pe_ty rfl (T.own _ (by decide)) boot_tuple') pa_nil))) pa_nil)))) (pss_cons (ps_if (PW.pt (pw_or (pt_cmpR op_ne (pe_callB (k_isin (K:=K)) rfl (T.own _ (by decide)) boot_isinstance (pa_cons (pv 0) (pa_cons (pe_ty rfl (T.own _ (by decide)) boot_list') pa_nil))) (pe_callB (k_isin (K:=K)) rfl (T.own _ (by decide)) boot_isinstance (pa_cons (pv 1) (pa_cons (pe_ty rfl (T.own _ (by decide)) boot_list') pa_nil))) (nomark _)) (pw_or1 (pt_cmpR op_ne (pe_callB (k_isin (K:=K)) rfl (T.own _ (by decide)) boot_isinstance (pa_cons (pv 0) (pa_cons (pe_ty rfl (T.own _ (by decide)) boot_tuple') pa_nil))) (pe_callB (k_isin (K:=K)) rfl (T.own _ (by decide)) boot_isinstance (pa_cons (pv 1) (pa_cons (pe_ty rfl (T.own _ (by decide)) boot_tuple') pa_nil))) (nomark _))))) (pss_one (ps_ret pe_bl)) pss_nil)
      (pss_one (ps_ret (pe_and (pe_cmpR op_eq (pe_callB (k_len (K:=K)) rfl (T.own _ (by decide)) boot_len (pa_cons (pv 0) pa_nil)) (pe_callB (k_len (K:=K)) rfl (T.own _ (by decide)) boot_len (pa_cons (pv 1) pa_nil)) (nomark _)) (pe_one (pe_callB (k_all (K:=K)) rfl (T.own _ (by decide)) boot_all' (pa_cons (pe_comp2 (K:=K) (pi_zs (K:=K) rfl (T.own _ (by decide)) (pa_cons (pv 0) (pa_cons (pv 1) pa_nil))) (fun _ _ _ _=>pts_nil) (fun _ _ _ _=>(pe_callF c__law_same hr (pa_cons (pv 0) (pa_cons (pv 1) pa_nil))))) pa_nil))))))) pss_nil)
      (pss_one (ps_ret (pe_and (pe_cmpR op_eq (pe_callB (k_isin (K:=K)) rfl (T.own _ (by decide)) boot_isinstance (pa_cons (pv 0) (pa_cons (pe_ty rfl (T.own _ (by decide)) boot_bool) pa_nil))) (pe_callB (k_isin (K:=K)) rfl (T.own _ (by decide)) boot_isinstance (pa_cons (pv 1) (pa_cons (pe_ty rfl (T.own _ (by decide)) boot_bool) pa_nil))) (nomark _)) (pe_one (pe_cmpR op_eq (pv 0) (pv 1) (nomark _))))))),?_⟩
    walk_at "w"
    intro p hp
    walk_at "w"
    have sp:=same_new (o:=HO.tup [V.ty "list",V.ty "tuple"]) hp
    refine rd_isinT (ns:=["list","tuple"]) upd_same (ru.same sp).ty (kD_lt d) ?_
    have rv:=rv.same sp
    have ru:=ru.same sp
    generalize upd H p (HO.tup [V.ty "list",V.ty "tuple"])=H1 at rv ru sp ⊢
    walk_at "w"
    refine iteB (fun hc=> ?_) (fun hc=> ?_)
    · walk_at "w"
      refine rd_isin rv.ty (kD_list d) ?_
      walk_at "w"
      refine rd_isin ru.ty (kD_list d) ?_
      walk_at "w"
      refine iteN (fun q=>absurd rfl q) (fun _=> ?_)
      walk_at "w"
      refine rd_isin rv.ty (kD_tuple d) ?_
      walk_at "w"
      refine rd_isin ru.ty (kD_tuple d) ?_
      walk_at "w"
      refine iteN (fun q=>absurd rfl q) (fun _=> ?_)
      walk_at "w"
      obtain ⟨m,a,xs,hm,rfl,sa,la,ba,ea⟩:=rv.seq (K:=K) hc
      obtain ⟨m',b,zs,hm',rfl,sb,lb,bb,eb⟩:=ru.seq (K:=K) hc
      subst hm
      cases hm'
      refine rd_lenQ sa ?_
      walk_at "w"
      refine rd_lenQ sb ?_
      walk_at "w"
      refine iteP (fun _=> ?_) (fun q=>absurd (by rw [la,lb]) q)
      walk_at "w"
      refine ⟨isTup d,isTup d,a,b,rfl,⟨_,sa⟩,⟨_,sb⟩,fun D hD=> ?_⟩
      refine comp_zs (xs:=xs) (zs:=zs) (by omega) (fun i ys H'=>ys=(List.replicate i true).map V.bl∧Same H1 H'∧H' D=some (.lst ys)) ⟨rfl,same_at (Same.refl _) hD,upd_same⟩ (fun i ys H' _ ⟨_,s,_⟩=>⟨sa.same s,sb.same s⟩) ?_ ?_
      · rintro i x z ys H' q hx hz ⟨rfl,s1,hl⟩ hq
        refine ⟨((Kp.refl _).set rfl).set rfl,tYes_i ?_⟩
        walk_at "w"
        have hi:i<(itemsD d).length:=by
          have:=(List.getElem?_eq_some_iff.mp hx).1
          omega
        have hd:(itemsD d)[i]?=some (itemsD d)[i]:=List.getElem?_eq_getElem hi
        have s2:Same H1 (upd H' q (HO.tup [x,z])):=s1.trans (same_new hq)
        refine ⟨x,z,(itemsD d)[i],rfl,(ea i x _ hx hd).same s2,(eb i z _ hz hd).same s2,fun H'' s3=> ?_⟩
        have hl':H'' D=some (.lst ((List.replicate i true).map V.bl)):=s3 _ _ (same_new hq _ _ hl)
        refine ⟨hl',?_,?_,?_,upd_same⟩
        · rw [List.length_map,List.length_replicate]
          exact Nat.lt_of_lt_of_le hi (Nat.le_trans (by omega) (show 100000≤sizeLine by decide))
        · rw [List.replicate_succ',List.map_append]
          rfl
        · exact same_at (s2.trans s3) hD
      · rintro ys H' ⟨rfl,s1,hl⟩
        walk_at "w"
        refine rd_all (SqL.of hl) ?_
        have e:(List.replicate xs.length true).all id=true:=by simp
        rw [e]
        exact k H' (sp.trans s1)
    · walk_at "w"
      refine rd_isin rv.ty (kD_bool d) ?_
      walk_at "w"
      refine rd_isin ru.ty (kD_bool d) ?_
      walk_at "w"
      refine iteP (fun _=> ?_) (fun q=>absurd rfl q)
      walk_at "w"
      have e:=scal_eq rv ru hc
      subst e
      refine ⟨scal_self rv hc,?_⟩
      rw [decide_eq_true rfl]
      exact k H1 sp
theorem ok__law_same {f:Addr} {fd:FuncData} (D:DefAt K mg "_law_same" s__law_same ["_law_found","_law_due"] f fd) (T:Txt K mg c):∀ n,FnOk P w K mg base CX0 (n+1) f fd ["_law_found","_law_due"] (sp__law_same n)
  | 0=>⟨fun _ _ _ _ h=>h.elim,fun _ _ _ _ _ _ _ _ _ _ _ _ _ h=>h.elim⟩
  | n+1=>ok1__law_same D.fn T (D.call (ok__law_same D T n))
end
end K17
open L2
namespace K17
open PySem L2 PySem.Spec PyProof.Rows
seal L2.PE L2.PT L2.PW L2.PA L2.PS L2.PSs L2.PI L2.PG L2.PTs L2.PGs
section
variable {P:Program} {w:World} {K:PySem.W.Frag} {mg:Str→Option Value} {base:Heap} {c:Cs}
def sp_bit_of:Sp:=fun vs H Q _=>∃ n:Nat,vs=[.int n]∧1≤n∧n≤1000∧Q (.int ((2 ^ (n - 1):Nat):Int)) H
abbrev s_bit_of:Stmt:=top 16
theorem sc_bit_of:FnScope ["number"] ["number"] (defScope s_bit_of):=⟨rfl,rfl,rfl,by decide +kernel,rfl,by decide +kernel,by decide +kernel⟩
theorem ok_bit_of {f:Addr} {fd:FuncData} (F:Fun K "bit_of" "bit_of" s_bit_of f fd) (T:Txt K mg c):FnOk P w K mg base CX0 1 f fd ["number"] sp_bit_of:=by
  refine F.ok sc_bit_of (fun vs H Q E h=> ?_) (fun cdv A outer s H vs Q E hr h=> ?_)
  · obtain ⟨n,rfl,_⟩:=h
    rfl
  · obtain ⟨n,rfl,h1,h2,q⟩:=h
    refine ⟨_,(pss_one (ps_ret (pe_op op_shl pe_int (pe_op op_sub (pv 0) pe_int)))),?_⟩
    walk_at "w"
    refine rd_rI ⟨by omega,by omega,by decide⟩ ?_
    rw [show ((n:Int) - 1).toNat=n - 1 by omega,pow_cast]
    exact q
def sp_mask_of (K:PySem.W.Frag):Sp:=fun vs H Q _=>∃ tp a,∃ ns:List Nat,vs=[.ref a]∧SqS tp K H a (ns.map nV)∧(∀ n∈ns,1≤n∧n≤1000)∧∀ H',Same H H'→Q (.int ((MM.mOf ns:Nat):Int)) H'
abbrev s_mask_of:Stmt:=top 17
theorem sc_mask_of:FnScope ["numbers","mask","number"] ["numbers"] (defScope s_mask_of):=⟨rfl,rfl,rfl,by decide +kernel,rfl,by decide +kernel,by decide +kernel⟩
theorem ok_mask_of {f:Addr} {fd:FuncData} (F:Fun K "mask_of" "mask_of" s_mask_of f fd) (T:Txt K mg c) (c_bit_of:CallF P w K mg base "bit_of" 1 ["number"] sp_bit_of):FnOk P w K mg base CX0 2 f fd ["numbers"] (sp_mask_of K):=by
  refine F.ok sc_mask_of (fun vs H Q E h=> ?_) (fun cdv A outer s H vs Q E hr h=> ?_)
  · obtain ⟨tp,a,ns,rfl,_⟩:=h
    rfl
  · obtain ⟨tp,a,ns,rfl,sa,hn,q⟩:=h
    refine ⟨_,(pss_cons (ps_set (i:=1) sc_mask_of.nd rfl (Or.inl rfl) pe_int)
      (pss_cons (ps_for PassesOwn.never rfl (pi_sq (K:=K) (pv 0)) (pg_name (i:=2) sc_mask_of.nd rfl (Or.inl rfl)) (pss_one (ps_aug (i:=1) sc_mask_of.nd rfl (Or.inl rfl) (pe_callF c_bit_of hr (pa_cons (pv 2) pa_nil)) iop_or)))
      (pss_one (ps_ret (pv 1))))),?_⟩
    walk_at "w"
    refine ⟨tp,a,rfl,⟨_,sa⟩,for_src (fs_sq sa) (fun i σ H3=>∃ x,σ=[some (.ref a),some (.int ((MM.mOf (ns.take i):Nat):Int)),x]∧Same H H3) ⟨_,rfl,Same.refl _⟩ (fun i σ H3 ⟨_,_,s⟩=>s) ?_ ?_⟩
    · rintro i σ H' H3 hi ⟨x,rfl,s'⟩ s3
      have hi':i<ns.length:=by simpa using hi
      have hm:ns.getD i 0∈ns:=by rw [List.getD_eq_getElem?_getD,List.getElem?_eq_getElem hi'];exact List.getElem_mem hi'
      rw [getD_nat hi]
      walk_at "w"
      refine rd_aug rfl ?_
      walk_at "w"
      refine ⟨_,rfl,(hn _ hm).1,(hn _ hm).2,?_⟩
      walk_at "w"
      rw [bO, ← MM.mOf_snoc, ← take_getD hi']
      exact ⟨_,rfl,s'.trans s3⟩
    · rintro σ H3 ⟨x,rfl,s3⟩
      walk_at "w"
      rw [List.length_map,List.take_length]
      exact q H3 s3
def sp_mask_to:Sp:=fun vs H Q _=>∃ n:Nat,vs=[.int n]∧n≤1000∧Q (.int ((2 ^ n - 1:Nat):Int)) H
abbrev s_mask_to:Stmt:=top 18
theorem sc_mask_to:FnScope ["most"] ["most"] (defScope s_mask_to):=⟨rfl,rfl,rfl,by decide +kernel,rfl,by decide +kernel,by decide +kernel⟩
theorem ok_mask_to {f:Addr} {fd:FuncData} (F:Fun K "mask_to" "mask_to" s_mask_to f fd) (T:Txt K mg c):FnOk P w K mg base CX0 1 f fd ["most"] sp_mask_to:=by
  refine F.ok sc_mask_to (fun vs H Q E h=> ?_) (fun cdv A outer s H vs Q E hr h=> ?_)
  · obtain ⟨n,rfl,_⟩:=h
    rfl
  · obtain ⟨n,rfl,h1,q⟩:=h
    refine ⟨_,(pss_one (ps_ret (pe_op op_sub (pe_op op_shl pe_int (pv 0)) pe_int))),?_⟩
    walk_at "w"
    refine rd_rI ⟨by omega,by omega,by decide⟩ ?_
    walk_at "w"
    have hp:0<2 ^ n:=Nat.two_pow_pos n
    rw [show ((n:Int)).toNat=n by omega,pow_cast,show ((2 ^ n:Nat):Int) - 1=((2 ^ n - 1:Nat):Int) by omega]
    exact q
def sp_has_number:Sp:=fun vs H Q _=>∃ m n:Nat,vs=[.int m, .int n]∧1≤n∧n≤1000∧Q (.bl (m.testBit (n - 1))) H
theorem and_bit (m i:Nat):(!decide (((m &&& 2 ^ i:Nat):Int)=0))=m.testBit i:=by
  have e:(m &&& 2 ^ i)=(m.testBit i).toNat*2 ^ i:=by
    refine Nat.eq_of_testBit_eq fun j=> ?_
    rw [Nat.testBit_and,Nat.testBit_two_pow]
    by_cases h:i=j
    · subst h
      cases hb:m.testBit i <;> simp
    · cases hb:m.testBit i <;> simp [h,Nat.testBit_two_pow]
  rw [e]
  have hp:0<2 ^ i:=Nat.two_pow_pos i
  cases m.testBit i with
  | false=>simp
  | true=>
    rw [decide_eq_false (by rw [Bool.toNat_true];omega)]
    rfl
abbrev s_has_number:Stmt:=top 19
theorem sc_has_number:FnScope ["mask","number"] ["mask","number"] (defScope s_has_number):=⟨rfl,rfl,rfl,by decide +kernel,rfl,by decide +kernel,by decide +kernel⟩
theorem ok_has_number {f:Addr} {fd:FuncData} (F:Fun K "has_number" "has_number" s_has_number f fd) (T:Txt K mg c) (c_bit_of:CallF P w K mg base "bit_of" 1 ["number"] sp_bit_of):FnOk P w K mg base CX0 2 f fd ["mask","number"] sp_has_number:=by
  refine F.ok sc_has_number (fun vs H Q E h=> ?_) (fun cdv A outer s H vs Q E hr h=> ?_)
  · obtain ⟨m,n,rfl,_⟩:=h
    rfl
  · obtain ⟨m,n,rfl,h1,h2,q⟩:=h
    refine ⟨_,(pss_one (ps_ret (pe_cmpR op_ne (pe_op op_and (pv 0) (pe_callF c_bit_of hr (pa_cons (pv 1) pa_nil))) pe_int (nomark _)))),?_⟩
    walk_at "w"
    refine ⟨n,rfl,h1,h2,?_⟩
    walk_at "w"
    rw [bA,and_bit]
    exact q
def sp_numbers_of:Sp:=fun vs H Q _=>∃ m:Nat,vs=[.int m]∧m<2 ^ 900∧∀ H' p,Same H H'→H p=none→H' p=some (.lst ((MM.nOf m).map nV))→Q (.ref p) H'
abbrev s_numbers_of:Stmt:=top 20
theorem sc_numbers_of:FnScope ["mask"] ["mask"] (defScope s_numbers_of):=⟨rfl,rfl,rfl,by decide +kernel,rfl,by decide +kernel,by decide +kernel⟩
theorem ok_numbers_of {f:Addr} {fd:FuncData} (F:Fun K "numbers_of" "numbers_of" s_numbers_of f fd) (T:Txt K mg c) (c_has_number:CallF P w K mg base "has_number" 2 ["mask","number"] sp_has_number):FnOk P w K mg base CX0 3 f fd ["mask"] sp_numbers_of:=by
  refine F.ok sc_numbers_of (fun vs H Q E h=> ?_) (fun cdv A outer s H vs Q E hr h=> ?_)
  · obtain ⟨m,rfl,_⟩:=h
    rfl
  · obtain ⟨m,rfl,h1,q⟩:=h
    have hb:=MM.bits_le h1
    refine ⟨_,(pss_one (ps_ret (pe_comp1 (pi_range2 rfl (T.own _ (by decide)) (pa_cons pe_int (pa_cons (pe_op op_add (kx_bm0 (K:=K) PySem.F.plainAttrs_int PySem.F.slot_int_bit_length PySem.F.type_int_bit_length mt_bit_length (pv 0)) pe_int) pa_nil))) (fun _ _ _ _=>(pts_one (pt_val (pe_callF c_has_number hr (pa_cons (pv 1) (pa_cons (pv 0) pa_nil)))))) (fun _ _ _ _=>(pv 0))))),?_⟩
    walk_at "w"
    refine tyI ?_
    refine rd_bits ?_
    walk_at "w"
    refine ⟨_,_,rfl,⟨by decide,by decide,by omega,by omega⟩,fun D hD=> ?_⟩
    rw [show ((MM.bits m:Nat)+1 - 1:Int).toNat=MM.bits m by omega]
    refine ints_compF (p:=m.testBit) (G:=fun i=>1+(i:Int)) (src_range rfl) hD (by omega) ?_ ?_ ?_
    · intro i H' R hi s k
      walk_at "w"
      refine ⟨m,i+1,by rw [show (1:Int)+(i:Nat)=((i+1:Nat):Int) by omega],by omega,by omega,?_⟩
      rw [show i+1 - 1=i by omega]
      exact ⟨_,rfl,k H' (Same.refl _)⟩
    · intro i H' R hi hp s k
      walk_at "w"
      exact k H' (Same.refl _)
    · intro H' s hl
      refine q H' D s hD ?_
      rw [hl]
      unfold MM.nOf
      rw [List.map_map,List.map_map]
      congr 2
      refine List.map_congr_left fun i _=> ?_
      show V.int (1+(i:Int))=V.int ((i+1:Nat):Int)
      congr 1
      omega
def sp_union_of (K:PySem.W.Frag):Sp:=fun vs H Q _=>∃ tp a,∃ ns:List Nat,vs=[.ref a]∧SqS tp K H a (ns.map nV)∧∀ H',Same H H'→Q (.int ((MM.uOf ns:Nat):Int)) H'
abbrev s_union_of:Stmt:=top 21
theorem sc_union_of:FnScope ["masks","union","mask"] ["masks"] (defScope s_union_of):=⟨rfl,rfl,rfl,by decide +kernel,rfl,by decide +kernel,by decide +kernel⟩
theorem ok_union_of {f:Addr} {fd:FuncData} (F:Fun K "union_of" "union_of" s_union_of f fd) (T:Txt K mg c):FnOk P w K mg base CX0 1 f fd ["masks"] (sp_union_of K):=by
  refine F.ok sc_union_of (fun vs H Q E h=> ?_) (fun cdv A outer s H vs Q E hr h=> ?_)
  · obtain ⟨tp,a,ns,rfl,_⟩:=h
    rfl
  · obtain ⟨tp,a,ns,rfl,sa,q⟩:=h
    refine ⟨_,(pss_cons (ps_set (i:=1) sc_union_of.nd rfl (Or.inl rfl) pe_int)
      (pss_cons (ps_for PassesOwn.never rfl (pi_sq (K:=K) (pv 0)) (pg_name (i:=2) sc_union_of.nd rfl (Or.inl rfl)) (pss_one (ps_aug (i:=1) sc_union_of.nd rfl (Or.inl rfl) (pv 2) iop_or)))
      (pss_one (ps_ret (pv 1))))),?_⟩
    walk_at "w"
    refine ⟨tp,a,rfl,⟨_,sa⟩,for_src (fs_sq sa) (fun i σ H3=>∃ x,σ=[some (.ref a),some (.int ((MM.uOf (ns.take i):Nat):Int)),x]∧Same H H3) ⟨_,rfl,Same.refl _⟩ (fun i σ H3 ⟨_,_,s⟩=>s) ?_ ?_⟩
    · rintro i σ H' H3 hi ⟨x,rfl,s'⟩ s3
      have hi':i<ns.length:=by simpa using hi
      rw [getD_nat hi]
      walk_at "w"
      refine rd_aug rfl ?_
      walk_at "w"
      rw [bO, ← MM.uOf_snoc, ← take_getD hi']
      exact ⟨_,rfl,s'.trans s3⟩
    · rintro σ H3 ⟨x,rfl,s3⟩
      walk_at "w"
      rw [List.length_map,List.take_length]
      exact q H3 s3
end
end K17
open L2
namespace K17
open PySem L2 PySem.Spec PyProof.Rows
seal L2.PE L2.PT L2.PW L2.PA L2.PS L2.PSs L2.PI L2.PG L2.PTs L2.PGs
section
variable {P:Program} {w:World} {K:PySem.W.Frag} {mg:Str→Option Value} {base:Heap} {c:Cs}
def sp_is_whole (K:PySem.W.Frag):Sp:=fun vs H Q _=>∃ x,vs=[x]∧Ty K H x∧Q (.bl (isIntV x)) H
abbrev s_is_whole:Stmt:=top 24
theorem sc_is_whole:FnScope ["thing"] ["thing"] (defScope s_is_whole):=⟨rfl,rfl,rfl,by decide +kernel,rfl,by decide +kernel,by decide +kernel⟩
theorem ok_is_whole {f:Addr} {fd:FuncData} (F:Fun K "is_whole" "is_whole" s_is_whole f fd) (T:Txt K mg c):FnOk P w K mg base CX0 1 f fd ["thing"] (sp_is_whole K):=by
  refine F.ok sc_is_whole (fun vs H Q E h=> ?_) (fun cdv A outer s H vs Q E hr h=> ?_)
  · obtain ⟨x,rfl,_⟩:=h
    rfl
  · obtain ⟨x,rfl,⟨n,ty⟩,k⟩:=h
    refine ⟨_,(pss_one (ps_ret (pe_and (pe_callB (k_isin (K:=K)) rfl (T.own _ (by decide)) boot_isinstance (pa_cons (pv 0) (pa_cons (pe_ty rfl (T.own _ (by decide)) boot_int) pa_nil))) (pe_one (pe_not (pe_callB (k_isin (K:=K)) rfl (T.own _ (by decide)) boot_isinstance (pa_cons (pv 0) (pa_cons (pe_ty rfl (T.own _ (by decide)) boot_bool) pa_nil)))))))),?_⟩
    walk_at "w"
    refine rd_isin ty (kit_int ty) ?_
    walk_at "w"
    refine iteC (fun hc=> ?_) (fun hc=> ?_)
    · walk_at "w"
      refine rd_isin ty (kit_bool ty) ?_
      walk_at "w"
      exact fin_b (by cases x <;> first | rfl | exact absurd hc Bool.false_ne_true) k
    · exact fin_b (by cases x <;> first | rfl | exact absurd hc.symm Bool.false_ne_true) k
def sp_is_among (K:PySem.W.Frag):Sp:=fun vs H Q _=>∃ x a b,vs=[x, .int a, .int b]∧Ty K H x∧Q (.bl (amongV x a b)) H
abbrev s_is_among:Stmt:=top 25
theorem sc_is_among:FnScope ["thing","least","most"] ["thing","least","most"] (defScope s_is_among):=⟨rfl,rfl,rfl,by decide +kernel,rfl,by decide +kernel,by decide +kernel⟩
theorem ok_is_among {f:Addr} {fd:FuncData} (F:Fun K "is_among" "is_among" s_is_among f fd) (T:Txt K mg c) (c_is_whole:CallF P w K mg base "is_whole" 1 ["thing"] (sp_is_whole K)):FnOk P w K mg base CX0 2 f fd ["thing","least","most"] (sp_is_among K):=by
  refine F.ok sc_is_among (fun vs H Q E h=> ?_) (fun cdv A outer s H vs Q E hr h=> ?_)
  · obtain ⟨x,a,b,rfl,_⟩:=h
    rfl
  · obtain ⟨x,a,b,rfl,ty,k⟩:=h
    refine ⟨_,(pss_one (ps_ret (pe_and (pe_callF c_is_whole hr (pa_cons (pv 0) pa_nil)) (pe_one (pe_chain op_le op_le (pv 1) (pv 0) (pv 2)))))),?_⟩
    walk_at "w"
    refine ⟨x,rfl,ty,?_⟩
    walk_at "w"
    refine iteC (fun hc=> ?_) (fun hc=> ?_)
    · cases x with
      | int i=>
        walk_at "w"
        refine iteC (fun h1=> ?_) (fun h1=> ?_)
        · walk_at "w"
          exact fin_b (by show _=(decide (a≤i)&&decide (i≤b));rw [h1,Bool.true_and]) k
        · walk_at "w"
          exact fin_b (by show _=(decide (a≤i)&&decide (i≤b));rw [h1,Bool.false_and]) k
      | _=>exact absurd hc Bool.false_ne_true
    · exact fin_b (by cases x <;> first | rfl | exact absurd hc.symm Bool.false_ne_true) k
end
end K17
open L2
namespace K17
open PySem L2 PySem.Spec PyProof.Rows
seal L2.PE L2.PT L2.PW L2.PA L2.PS L2.PSs L2.PI L2.PG L2.PTs L2.PGs
section
variable {P:Program} {w:World} {K:PySem.W.Frag} {mg:Str→Option Value} {base:Heap} {c:Cs}
def ClAt (C:Addr) (H:Hp) (x:Addr) (n:Nat) (rs:List Nat):Prop:=∃ dx t,H x=some (.ins C dx [("width",nV n),("rows", .ref t)])∧H t=some (.tup (rs.map nV))
theorem ClAt.same {C:Addr} {H H':Hp} {x:Addr} {n:Nat} {rs:List Nat} (h:ClAt C H x n rs) (s:Same H H'):ClAt C H' x n rs:=by
  obtain ⟨dx,t,h1,h2⟩:=h
  exact ⟨dx,t,s _ _ h1,s _ _ h2⟩
structure ClOk (n:Nat) (rs:List Nat):Prop where
  n1:1≤n
  n2:n≤60
  p1:1≤rs.length
  p2:rs.length≤60
  lt:∀ r∈rs,r<2 ^ n
inductive ClFit (K:PySem.W.Frag) (H:Hp):V→V→Bool→Prop
  | ends {e r:V} (ty:Ty K H e) (h:amongV e 1 60=false):ClFit K H e r false
  | kind {n:Nat} {r:V} {t:Value} (h1:1≤n) (h2:n≤60) (ty:TyOf K H r t) (h:PySem.W.kitOne K t (.type "list")=some false):ClFit K H (.int n) r false
  | many {n:Nat} {a:Addr} {xs:List V} (h1:1≤n) (h2:n≤60) (ha:H a=some (.lst xs)) (h:xs.length=0∨60<xs.length):ClFit K H (.int n) (.ref a) false
  | rows {n:Nat} {a:Addr} {xs:List V} (h1:1≤n) (h2:n≤60) (ha:H a=some (.lst xs)) (l1:1≤xs.length) (l2:xs.length≤60) (ty:∀ x∈xs,Ty K H x):ClFit K H (.int n) (.ref a) (xs.all fun x=>amongV x 0 ((2 ^ n - 1:Nat):Int))
theorem ClFit.same {H H':Hp} {e r:V} {b:Bool} (h:ClFit K H e r b) (s:Same H H'):ClFit K H' e r b:=by
  cases h with
  | ends ty h=>exact .ends (ty.same s) h
  | kind h1 h2 ty h=>exact .kind h1 h2 (ty.same s) h
  | many h1 h2 ha h=>exact .many h1 h2 (s _ _ ha) h
  | rows h1 h2 ha l1 l2 ty=>exact .rows h1 h2 (s _ _ ha) l1 l2 fun x hx=>(ty x hx).same s
theorem ClFit.ok {H:Hp} {n:Nat} {a:Addr} {rs:List Nat} (ha:H a=some (.lst (rs.map nV))) (ok:ClOk n rs):ClFit K H (.int n) (.ref a) true:=by
  have e:((rs.map nV).all fun x=>amongV x 0 ((2 ^ n - 1:Nat):Int))=true:=by
    rw [List.all_eq_true]
    intro x hx
    obtain ⟨r,hr,rfl⟩:=List.mem_map.mp hx
    have:=ok.lt _ hr
    have hp:0<2 ^ n:=Nat.two_pow_pos n
    show (decide ((0:Int)≤(r:Nat))&&decide (((r:Nat):Int)≤((2 ^ n - 1:Nat):Int)))=true
    simp only [Bool.and_eq_true,decide_eq_true_eq]
    omega
  rw [← e]
  refine .rows ok.n1 ok.n2 ha (by rw [List.length_map];exact ok.p1) (by rw [List.length_map];exact ok.p2) fun x hx=> ?_
  obtain ⟨r,hr,rfl⟩:=List.mem_map.mp hx
  exact ⟨_, .int _⟩
def sp_need_cloth (K:PySem.W.Frag) (c:Cs):Sp:=fun vs H Q E=>∃ (e r:V) (b:Bool),vs=[e,r]∧ClFit K H e r b∧∀ H',Same H H'→(b=true→Q .non H')∧(b=false→E (.ref c.BadCloth) none H')
theorem among_ok {n:Nat} (h1:1≤n) (h2:n≤60):amongV (.int n) 1 60=true:=by
  show (decide ((1:Int)≤n)&&decide ((n:Int)≤60))=true
  simp;omega
abbrev s_need_cloth:Stmt:=top 28
theorem sc_need_cloth:FnScope ["ends","rows"] ["ends","rows"] (defScope s_need_cloth):=⟨rfl,rfl,rfl,by decide +kernel,rfl,by decide +kernel,by decide +kernel⟩
theorem ok_need_cloth {f:Addr} {fd:FuncData} (F:Fun K "need_cloth" "need_cloth" s_need_cloth f fd) (T:Txt K mg c) (c_is_among:CallF P w K mg base "is_among" 2 ["thing","least","most"] (sp_is_among K)) (c_mask_to:CallF P w K mg base "mask_to" 1 ["most"] sp_mask_to):FnOk P w K mg base (CXE P w) 3 f fd ["ends","rows"] (sp_need_cloth K c):=by
  refine Fun.okE F sc_need_cloth (fun vs H Q E h=> ?_) (fun cdv A outer s H vs Q E hr h=> ?_)
  · obtain ⟨e,r,b,rfl,_⟩:=h
    rfl
  · obtain ⟨e,r,b,rfl,hf,k⟩:=h
    have tye:Ty K H e:=by cases hf <;> first | assumption | exact ⟨_, .int _⟩
    refine ⟨_,(pss_cons (ps_if (pt_not (pt_val (pe_callF c_is_among hr (pa_cons (pv 0) (pa_cons pe_int (pa_cons (pe_gI T.k_MOST_ENDS) pa_nil)))))) (pss_one (ps_raiseK T.g_BadCloth T.xi_BadCloth (pa_cons pe_str pa_nil))) pss_nil)
      (pss_cons (ps_if (PW.pt (pw_or (pt_not (pt_val (pe_callB (k_isin (K:=K)) rfl (T.own _ (by decide)) boot_isinstance (pa_cons (pv 1) (pa_cons (pe_ty rfl (T.own _ (by decide)) boot_list') pa_nil))))) (pw_or1 (pt_not (pt_val (pe_callF c_is_among hr (pa_cons (pe_callB (k_len (K:=K)) rfl (T.own _ (by decide)) boot_len (pa_cons (pv 1) pa_nil)) (pa_cons pe_int (pa_cons (pe_gI T.k_MOST_PICKS) pa_nil))))))))) (pss_one (ps_raiseK T.g_BadCloth T.xi_BadCloth (pa_cons pe_str pa_nil))) pss_nil)
      (pss_one (ps_if (pt_not (pt_val (pe_callB (k_all (K:=K)) rfl (T.own _ (by decide)) boot_all' (pa_cons (pe_comp1 (k_pil (K:=K) (pv 1)) (fun _ _ _ _=>pts_nil) (fun _ _ _ _=>(pe_callF c_is_among hr (pa_cons (pv 0) (pa_cons pe_int (pa_cons (pe_callF c_mask_to (hr.mono (by decide)) (pa_cons (pv 1) pa_nil)) pa_nil)))))) pa_nil)))) (pss_one (ps_raiseK T.g_BadCloth T.xi_BadCloth (pa_cons pe_str pa_nil))) pss_nil)))),?_⟩
    walk_at "w"
    refine ⟨_,_,_,rfl,tye,?_⟩
    walk_at "w"
    cases hf with
    | ends ty h=>
      rw [h]
      refine iteT ?_
      exact ⟨by decide,(k H (Same.refl _)).2 rfl⟩
    | kind h1 h2 ty h=>
      rw [among_ok h1 h2]
      refine iteF ?_
      walk_at "w"
      refine rd_isin ty h ?_
      walk_at "w"
      exact ⟨by decide,(k H (Same.refl _)).2 rfl⟩
    | @many n a xs h1 h2 ha h=>
      rw [among_ok h1 h2]
      refine iteF ?_
      walk_at "w"
      refine rd_isin (.lst ha) (kb (b:=true) (by decide +kernel)) ?_
      walk_at "w"
      refine rd_lenL (SqL.of ha) ?_
      walk_at "w"
      refine ⟨_,_,_,rfl,⟨_, .int _⟩,?_⟩
      walk_at "w"
      have d2:amongV (.int (xs.length:Nat)) 1 60=false:=by
        show (decide ((1:Int)≤(xs.length:Nat))&&decide (((xs.length:Nat):Int)≤60))=false
        rw [Bool.and_eq_false_iff,decide_eq_false_iff_not,decide_eq_false_iff_not]
        omega
      rw [d2]
      refine iteT ?_
      exact ⟨by decide,(k H (Same.refl _)).2 rfl⟩
    | @rows n a xs h1 h2 ha l1 l2 ty=>
      rw [among_ok h1 h2]
      refine iteF ?_
      walk_at "w"
      refine rd_isin (.lst ha) (kb (b:=true) (by decide +kernel)) ?_
      walk_at "w"
      refine rd_lenL (SqL.of ha) ?_
      walk_at "w"
      refine ⟨_,_,_,rfl,⟨_, .int _⟩,?_⟩
      walk_at "w"
      rw [among_ok l1 l2]
      refine iteF ?_
      walk_at "w"
      refine ⟨a,rfl,⟨_,SqL.of ha⟩,fun D hD=> ?_⟩
      refine bls_comp (G:=fun i=>amongV (xs.getD i .non) 0 ((2 ^ n - 1:Nat):Int)) (src_list (SqL.of ha) rfl) hD (by omega) ?_ ?_
      · intro i H' R hi s kk
        walk_at "w"
        refine ⟨n,rfl,by omega,?_⟩
        walk_at "w"
        refine ⟨_,_,_,rfl,(ty _ ?_).same s,?_⟩
        · rw [List.getD_eq_getElem?_getD,List.getElem?_eq_getElem hi]
          exact List.getElem_mem hi
        exact kk H' (Same.refl _)
      · intro H' s hl
        walk_at "w"
        refine rd_all (SqL.of hl) ?_
        walk_at "w"
        have d4:((List.range xs.length).map fun i=>amongV (xs.getD i .non) 0 ((2 ^ n - 1:Nat):Int)).all id=xs.all fun x=>amongV x 0 ((2 ^ n - 1:Nat):Int):=by
          rw [map_range_getD (fun x:V=>amongV x 0 ((2 ^ n - 1:Nat):Int)) xs .non,List.all_map]
          rfl
        rw [d4]
        refine iteC (fun hb=> ?_) (fun hb=> ?_)
        · have hb:(xs.all fun x=>amongV x 0 ((2 ^ n - 1:Nat):Int))=false:=by simpa using hb
          exact ⟨by decide,(k H' s).2 hb⟩
        · have hb:(xs.all fun x=>amongV x 0 ((2 ^ n - 1:Nat):Int))=true:=by simpa using hb
          walk_at "w"
          exact (k H' s).1 hb
def sp_Cloth___init__ (K:PySem.W.Frag) (c:Cs):Sp:=fun vs H Q E=>∃ (x dx:Addr) (e r:V),vs=[.ref x,e,r]∧H x=some (.ins c.Cloth dx [])∧
  ((ClFit K H e r false∧∀ H',Same H H'→E (.ref c.BadCloth) none H')∨
  (∃ (n:Nat) (a:Addr) (rs:List Nat),e= .int n∧r= .ref a∧H a=some (.lst (rs.map nV))∧ClOk n rs∧∀ H',(∀ b o,H b=some o→b≠x→H' b=some o)→ClAt c.Cloth H' x n rs→Q .non H'))
abbrev s_Cloth___init__:Stmt:=inClass (top 29) 0
theorem sc_Cloth___init__:FnScope ["self","ends","rows"] ["self","ends","rows"] (defScope s_Cloth___init__):=⟨rfl,rfl,rfl,by decide +kernel,rfl,by decide +kernel,by decide +kernel⟩
theorem ok_Cloth___init__ {f:Addr} {fd:FuncData} (F:Fun K "__init__" "Cloth.__init__" s_Cloth___init__ f fd) (T:Txt K mg c) (c_need_cloth:CallE P w K mg base "need_cloth" 3 ["ends","rows"] (sp_need_cloth K c)):FnOk P w K mg base (CXE P w) 4 f fd ["self","ends","rows"] (sp_Cloth___init__ K c):=by
  refine Fun.okE F sc_Cloth___init__ (fun vs H Q E h=> ?_) (fun cdv A outer s H vs Q E hr h=> ?_)
  · obtain ⟨x,dx,e,r,rfl,_⟩:=h
    rfl
  · obtain ⟨x,dx,e,r,rfl,hx,h⟩:=h
    refine ⟨_,(pss_cons (ps_expr (pe_callE c_need_cloth hr passE (pa_cons (pv 1) (pa_cons (pv 2) pa_nil))))
      (pss_cons (ps_fld (pv 0) (pv 1) rfl)
      (pss_one (ps_fld (pv 0) (pe_callTy (k_tuple (K:=K)) rfl (T.own _ (by decide)) boot_tuple' (pa_cons (pv 2) pa_nil)) rfl)))),?_⟩
    walk_at "w"
    rcases h with ⟨hf,k⟩ | ⟨n,a,rs,rfl,rfl,ha,ok,k⟩
    · exact ⟨_,_,false,rfl,hf,fun H1 s1=>⟨fun z=>absurd z (by decide),fun _=>k H1 s1⟩⟩
    refine ⟨_,_,true,rfl, .ok ha ok,fun H1 s1=>⟨fun _=> ?_,fun z=>absurd z (by decide)⟩⟩
    walk_at "w"
    refine rd_set (s1 _ _ hx) T.kd_Cloth.cl T.na_Cloth_width (by decide) ?_
    walk_at "w"
    have nax:a≠x:=ne_of ha hx (by intro z;cases z)
    refine rd_tupOf (SqL.of (by rw [upd_ne nax];exact s1 _ _ ha)) fun t ht=> ?_
    walk_at "w"
    have nxt:x≠t:=ne_of_none upd_same ht
    refine rd_set (by rw [upd_ne nxt];exact upd_same) T.kd_Cloth.cl T.na_Cloth_rows (by show 1<1000;decide) ?_
    walk_at "w"
    refine k _ (fun b o e hb=> ?_) ⟨dx,t,upd_same,by rw [upd_ne (Ne.symm nxt),upd_same]⟩
    have hbt:b≠t:=fun z=>by
      subst z
      rw [upd_ne hb,s1 _ _ e] at ht
      cases ht
    rw [upd_ne hb,upd_ne hbt,upd_ne hb]
    exact s1 _ _ e
theorem cl_make {c:Cs} {H:Hp} {Q:VK} {E:XK} {n:Nat} {a:Addr} {rs:List Nat} (ha:H a=some (.lst (rs.map nV))) (ok:ClOk n rs) (h:∀ H' x,Same H H'→H x=none→ClAt c.Cloth H' x n rs→Q (.ref x) H'):
    ∀ x dx,H x=none→H dx=none→dx≠x→sp_Cloth___init__ K c [.ref x, .int n, .ref a] (upd (upd H dx (.own x)) x (.ins c.Cloth dx [])) (fun v H2=>v= .non∧Q (.ref x) H2) E:=by
  intro x dx hx hdx ne
  have s0:=same_obj (o:=HO.ins c.Cloth dx []) (u:= .own x) hx hdx
  exact ⟨x,dx,_,_,rfl,upd_same, .inr ⟨n,a,rs,rfl,rfl,s0 _ _ ha,ok,fun H' kp at'=>⟨rfl,h H' x (fun b o e=>kp b o (s0 b o e) (ne_of_none e hx)) hx at'⟩⟩⟩
theorem cl_bad {c:Cs} {H:Hp} {Q:Addr→VK} {E:XK} {e r:V} (hf:ClFit K H e r false) (h:∀ H',Same H H'→E (.ref c.BadCloth) none H'):
    ∀ x dx,H x=none→H dx=none→dx≠x→sp_Cloth___init__ K c [.ref x,e,r] (upd (upd H dx (.own x)) x (.ins c.Cloth dx [])) (Q x) E:=by
  intro x dx hx hdx ne
  have s0:=same_obj (o:=HO.ins c.Cloth dx []) (u:= .own x) hx hdx
  exact ⟨x,dx,e,r,rfl,upd_same, .inl ⟨hf.same s0,fun H' s=>h H' (s0.trans s)⟩⟩
def sp_Cloth_told (c:Cs):Sp:=fun vs H Q _=>∃ x n rs,vs=[.ref x]∧ClAt c.Cloth H x n rs∧∀ H' p l,Same H H'→H p=none→H l=none→H' p=some (.tup [nV n, .ref l])→H' l=some (.lst (rs.map nV))→Q (.ref p) H'
abbrev s_Cloth_told:Stmt:=inClass (top 29) 1
theorem sc_Cloth_told:FnScope ["self"] ["self"] (defScope s_Cloth_told):=⟨rfl,rfl,rfl,by decide +kernel,rfl,by decide +kernel,by decide +kernel⟩
theorem ok_Cloth_told {f:Addr} {fd:FuncData} (F:Fun K "told" "Cloth.told" s_Cloth_told f fd) (T:Txt K mg c):FnOk P w K mg base CX0 1 f fd ["self"] (sp_Cloth_told c):=by
  refine F.ok sc_Cloth_told (fun vs H Q E h=> ?_) (fun cdv A outer s H vs Q E hr h=> ?_)
  · obtain ⟨x,n,rs,rfl,_⟩:=h
    rfl
  · obtain ⟨x,n,rs,rfl,⟨dx,t,h1,h2⟩,k⟩:=h
    refine ⟨_,(pss_one (ps_ret (pe_tup (pa_cons (k_fld (K:=K) (pv 0) rfl) (pa_cons (pe_callTy (k_list (K:=K)) rfl (T.own _ (by decide)) boot_list' (pa_cons (k_fld (K:=K) (pv 0) rfl) pa_nil)) pa_nil))))),?_⟩
    walk_at "w"
    refine ⟨_,_,_,_,_,rfl,h1,T.kd_Cloth.cl,T.na_Cloth_width,rfl,?_⟩
    walk_at "w"
    refine ⟨_,_,_,_,_,rfl,h1,T.kd_Cloth.cl,T.na_Cloth_rows,rfl,?_⟩
    walk_at "w"
    refine rd_listOfT (SqT.of h2) fun l hl=> ?_
    walk_at "w"
    intro p hp
    refine k _ p l ((same_new hl).trans (same_new hp)) ((same_new hl).free hp) hl upd_same ?_
    rw [upd_ne (ne_of_none upd_same hp),upd_same]
def sp_Cloth_ends (c:Cs):Sp:=fun vs H Q _=>∃ x n rs,vs=[.ref x]∧ClAt c.Cloth H x n rs∧Q (nV n) H
abbrev s_Cloth_ends:Stmt:=inClass (top 29) 2
theorem sc_Cloth_ends:FnScope ["self"] ["self"] (defScope s_Cloth_ends):=⟨rfl,rfl,rfl,by decide +kernel,rfl,by decide +kernel,by decide +kernel⟩
theorem ok_Cloth_ends {f:Addr} {fd:FuncData} (F:Fun K "ends" "Cloth.ends" s_Cloth_ends f fd) (T:Txt K mg c):FnOk P w K mg base CX0 1 f fd ["self"] (sp_Cloth_ends c):=by
  refine F.ok sc_Cloth_ends (fun vs H Q E h=> ?_) (fun cdv A outer s H vs Q E hr h=> ?_)
  · obtain ⟨x,n,rs,rfl,_⟩:=h
    rfl
  · obtain ⟨x,n,rs,rfl,⟨dx,t,h1,h2⟩,k⟩:=h
    refine ⟨_,(pss_one (ps_ret (k_fld (K:=K) (pv 0) rfl))),?_⟩
    walk_at "w"
    exact ⟨_,_,_,_,_,rfl,h1,T.kd_Cloth.cl,T.na_Cloth_width,rfl,k⟩
def sp_Cloth_picks (c:Cs):Sp:=fun vs H Q _=>∃ x n rs,vs=[.ref x]∧ClAt c.Cloth H x n rs∧Q (nV rs.length) H
abbrev s_Cloth_picks:Stmt:=inClass (top 29) 3
theorem sc_Cloth_picks:FnScope ["self"] ["self"] (defScope s_Cloth_picks):=⟨rfl,rfl,rfl,by decide +kernel,rfl,by decide +kernel,by decide +kernel⟩
theorem ok_Cloth_picks {f:Addr} {fd:FuncData} (F:Fun K "picks" "Cloth.picks" s_Cloth_picks f fd) (T:Txt K mg c):FnOk P w K mg base CX0 1 f fd ["self"] (sp_Cloth_picks c):=by
  refine F.ok sc_Cloth_picks (fun vs H Q E h=> ?_) (fun cdv A outer s H vs Q E hr h=> ?_)
  · obtain ⟨x,n,rs,rfl,_⟩:=h
    rfl
  · obtain ⟨x,n,rs,rfl,⟨dx,t,h1,h2⟩,k⟩:=h
    refine ⟨_,(pss_one (ps_ret (pe_callB (k_len (K:=K)) rfl (T.own _ (by decide)) boot_len (pa_cons (k_fld (K:=K) (pv 0) rfl) pa_nil)))),?_⟩
    walk_at "w"
    refine ⟨_,_,_,_,_,rfl,h1,T.kd_Cloth.cl,T.na_Cloth_rows,rfl,?_⟩
    walk_at "w"
    refine rd_lenT (SqT.of h2) ?_
    rw [List.length_map]
    exact k
end
end K17
open L2
namespace K17
open PySem L2 PySem.Spec PyProof.Rows
seal L2.PE L2.PT L2.PW L2.PA L2.PS L2.PSs L2.PI L2.PG L2.PTs L2.PGs
section
variable {P:Program} {w:World} {K:PySem.W.Frag} {mg:Str→Option Value} {base:Heap} {c:Cs}
abbrev colS:Str:="abcdefghijklmnopqrstuvwxyz"
def colOk (z:Str):Prop:=z.length=1∧(!(Builtin.Str.occurrences colS z 0 colS.length 1).isEmpty)=true
def sp_is_colour:Sp:=fun vs H Q _=>∃ z,vs=[.str z]∧colOk z∧Q (.bl true) H
abbrev s_is_colour:Stmt:=top 26
theorem sc_is_colour:FnScope ["thing"] ["thing"] (defScope s_is_colour):=⟨rfl,rfl,rfl,by decide +kernel,rfl,by decide +kernel,by decide +kernel⟩
theorem ok_is_colour {f:Addr} {fd:FuncData} (F:Fun K "is_colour" "is_colour" s_is_colour f fd) (T:Txt K mg c):FnOk P w K mg base CX0 1 f fd ["thing"] sp_is_colour:=by
  refine F.ok sc_is_colour (fun vs H Q E h=> ?_) (fun cdv A outer s H vs Q E hr h=> ?_)
  · obtain ⟨z,rfl,_⟩:=h
    rfl
  · obtain ⟨z,rfl,hz,k⟩:=h
    refine ⟨_,(pss_one (ps_ret (pe_and (pe_callB (k_isin (K:=K)) rfl (T.own _ (by decide)) boot_isinstance (pa_cons (pv 0) (pa_cons (pe_ty rfl (T.own _ (by decide)) boot_str) pa_nil))) (pe_and (pe_cmpR op_eq (pe_callB (k_len (K:=K)) rfl (T.own _ (by decide)) boot_len (pa_cons (pv 0) pa_nil)) pe_int (nomark _)) (pe_one (pe_cmpR op_in_str (pv 0) (pe_gS T.k_COLOURS) (by with_unfolding_all rfl))))))),?_⟩
    walk_at "w"
    refine rd_isin (.str z) (kb (b:=true) (by decide +kernel)) ?_
    walk_at "w"
    refine rd_lenS (by rw [hz.1];decide) ?_
    walk_at "w"
    refine iteP (fun _=> ?_) (fun q=>absurd (by rw [hz.1];rfl) q)
    walk_at "w"
    refine ⟨_,_,rfl,rfl,?_⟩
    rw [hz.2]
    exact k
def sp_need:Sp:=fun vs H Q _=>∃ z,vs=[.bl true, .str z]∧Q .non H
abbrev s_need:Stmt:=top 32
theorem sc_need:FnScope ["holds","words"] ["holds","words"] (defScope s_need):=⟨rfl,rfl,rfl,by decide +kernel,rfl,by decide +kernel,by decide +kernel⟩
theorem ok_need {f:Addr} {fd:FuncData} (F:Fun K "need" "need" s_need f fd) (T:Txt K mg c):FnOk P w K mg base CX0 1 f fd ["holds","words"] sp_need:=by
  refine F.ok sc_need (fun vs H Q E h=> ?_) (fun cdv A outer s H vs Q E hr h=> ?_)
  · obtain ⟨z,rfl,_⟩:=h
    rfl
  · obtain ⟨z,rfl,k⟩:=h
    refine ⟨_,(pss_one (ps_if (pt_not (pt_val (pv 0))) (pss_one ps_never) pss_nil)),?_⟩
    walk_at "w"
    exact k
def sp_is_list:Sp:=fun vs H Q _=>∃ a xs,∃ lo hi:Int,vs=[.ref a, .int lo, .int hi]∧H a=some (.lst xs)∧lo≤xs.length∧xs.length≤hi∧Q (.bl true) H
abbrev s_is_list:Stmt:=top 33
theorem sc_is_list:FnScope ["thing","least","most"] ["thing","least","most"] (defScope s_is_list):=⟨rfl,rfl,rfl,by decide +kernel,rfl,by decide +kernel,by decide +kernel⟩
theorem ok_is_list {f:Addr} {fd:FuncData} (F:Fun K "is_list" "is_list" s_is_list f fd) (T:Txt K mg c) (c_is_among:CallF P w K mg base "is_among" 2 ["thing","least","most"] (sp_is_among K)):FnOk P w K mg base CX0 3 f fd ["thing","least","most"] sp_is_list:=by
  refine F.ok sc_is_list (fun vs H Q E h=> ?_) (fun cdv A outer s H vs Q E hr h=> ?_)
  · obtain ⟨a,xs,lo,hi,rfl,_⟩:=h
    rfl
  · obtain ⟨a,xs,lo,hi,rfl,ha,h1,h2,k⟩:=h
    refine ⟨_,(pss_one (ps_ret (pe_and (pe_callB (k_isin (K:=K)) rfl (T.own _ (by decide)) boot_isinstance (pa_cons (pv 0) (pa_cons (pe_ty rfl (T.own _ (by decide)) boot_list') pa_nil))) (pe_one (pe_callF c_is_among hr (pa_cons (pe_callB (k_len (K:=K)) rfl (T.own _ (by decide)) boot_len (pa_cons (pv 0) pa_nil)) (pa_cons (pv 1) (pa_cons (pv 2) pa_nil)))))))),?_⟩
    walk_at "w"
    refine rd_isin (.lst ha) (kb (b:=true) (by decide +kernel)) ?_
    walk_at "w"
    refine rd_lenL (SqL.of ha) ?_
    walk_at "w"
    refine ⟨_,_,_,rfl,⟨_, .int _⟩,?_⟩
    refine fin_b ?_ k
    show (decide (lo≤(xs.length:Nat))&&decide (((xs.length:Nat):Int)≤hi))=true
    simp [h1,h2]
def Rise (m:Nat) (ns:List Nat):Prop:=∀ i,i<ns.length→(0::ns).getD i 0+1≤ns.getD i 0∧ns.getD i 0≤m
def sp_is_rising:Sp:=fun vs H Q _=>∃ a ns m,vs=[.ref a,nV m]∧H a=some (.lst (ns.map nV))∧Rise m ns∧∀ H',Same H H'→Q (.bl true) H'
abbrev s_is_rising:Stmt:=top 34
theorem sc_is_rising:FnScope ["thing","most","last","number"] ["thing","most"] (defScope s_is_rising):=⟨rfl,rfl,rfl,by decide +kernel,rfl,by decide +kernel,by decide +kernel⟩
theorem ok_is_rising {f:Addr} {fd:FuncData} (F:Fun K "is_rising" "is_rising" s_is_rising f fd) (T:Txt K mg c) (c_is_among:CallF P w K mg base "is_among" 2 ["thing","least","most"] (sp_is_among K)):FnOk P w K mg base CX0 3 f fd ["thing","most"] sp_is_rising:=by
  refine F.ok sc_is_rising (fun vs H Q E h=> ?_) (fun cdv A outer s H vs Q E hr h=> ?_)
  · obtain ⟨a,ns,m,rfl,_⟩:=h
    rfl
  · obtain ⟨a,ns,m,rfl,ha,hr',k⟩:=h
    refine ⟨_,(pss_cons (ps_if (pt_not (pt_val (pe_callB (k_isin (K:=K)) rfl (T.own _ (by decide)) boot_isinstance (pa_cons (pv 0) (pa_cons (pe_ty rfl (T.own _ (by decide)) boot_list') pa_nil))))) (pss_one (ps_ret pe_bl)) pss_nil)
      (pss_cons (ps_set (i:=2) sc_is_rising.nd rfl (Or.inl rfl) pe_int)
      (pss_cons (ps_for PassesOwn.never rfl (k_pil (K:=K) (pv 0)) (pg_name (i:=3) sc_is_rising.nd rfl (Or.inl rfl)) (pss_cons (ps_if (pt_not (pt_val (pe_callF c_is_among hr (pa_cons (pv 3) (pa_cons (pe_op op_add (pv 2) pe_int) (pa_cons (pv 1) pa_nil)))))) (pss_one (ps_ret pe_bl)) pss_nil)
      (pss_one (ps_set (i:=2) sc_is_rising.nd rfl (Or.inl rfl) (pv 3)))))
      (pss_one (ps_ret pe_bl))))),?_⟩
    walk_at "w"
    refine rd_isin (.lst ha) (kb (b:=true) (by decide +kernel)) ?_
    walk_at "w"
    refine ⟨a,rfl,⟨_,SqL.of ha⟩,for_src (fs_list (SqL.of ha)) (fun i σ H3=>∃ x,σ=[some (.ref a),some (nV m),some (nV ((0::ns).getD i 0)),x]∧Same H H3) ⟨_,rfl,Same.refl _⟩ (fun i σ H3 ⟨_,_,s⟩=>s) ?_ ?_⟩
    · rintro i σ H' H3 hi ⟨x,rfl,s'⟩ s3
      have hi':i<ns.length:=by simpa using hi
      have hq:=hr' i hi'
      rw [getD_nat hi]
      walk_at "w"
      refine ⟨_,_,_,rfl,⟨_, .int _⟩,?_⟩
      walk_at "w"
      have e:amongV (.int (ns.getD i 0:Nat)) (((0::ns).getD i 0:Nat)+1) (m:Nat)=true:=by
        show (decide ((((0::ns).getD i 0:Nat):Int)+1≤(ns.getD i 0:Nat))&&decide (((ns.getD i 0:Nat):Int)≤(m:Nat)))=true
        simp only [Bool.and_eq_true,decide_eq_true_eq]
        omega
      rw [e]
      refine iteF ?_
      walk_at "w"
      exact ⟨_,rfl,s'.trans s3⟩
    · rintro σ H3 ⟨x,rfl,s3⟩
      walk_at "w"
      exact k H3 s3
def sp_are_rising:Sp:=fun vs H Q _=>∃ v ls m,vs=[v,nV m]∧Rp H FT 2 v (dLL ls)∧(∀ l∈ls,Rise m l)∧∀ H',Same H H'→Q (.bl true) H'
abbrev s_are_rising:Stmt:=top 35
theorem sc_are_rising:FnScope ["thing","most"] ["thing","most"] (defScope s_are_rising):=⟨rfl,rfl,rfl,by decide +kernel,rfl,by decide +kernel,by decide +kernel⟩
theorem ok_are_rising {f:Addr} {fd:FuncData} (F:Fun K "are_rising" "are_rising" s_are_rising f fd) (T:Txt K mg c) (c_is_rising:CallF P w K mg base "is_rising" 3 ["thing","most"] sp_is_rising):FnOk P w K mg base CX0 4 f fd ["thing","most"] sp_are_rising:=by
  refine F.ok sc_are_rising (fun vs H Q E h=> ?_) (fun cdv A outer s H vs Q E hr h=> ?_)
  · obtain ⟨v,ls,m,rfl,_⟩:=h
    rfl
  · obtain ⟨v,ls,m,rfl,rv,hr',k⟩:=h
    obtain ⟨m',a,vs,em,rfl,ha,_,hl,hb,el⟩:=lst_of rv
    cases em
    rw [List.length_map] at hl
    refine ⟨_,(pss_one (ps_ret (pe_callB (k_all (K:=K)) rfl (T.own _ (by decide)) boot_all' (pa_cons (pe_comp1 (k_pil (K:=K) (pv 0)) (fun _ _ _ _=>pts_nil) (fun _ _ _ _=>(pe_callF c_is_rising hr (pa_cons (pv 0) (pa_cons (pv 1) pa_nil))))) pa_nil)))),?_⟩
    walk_at "w"
    refine ⟨a,rfl,⟨_,SqL.of ha⟩,fun D hD=> ?_⟩
    refine bls_comp (G:=fun _=>true) (src_list (SqL.of ha) rfl) hD hb ?_ ?_
    · intro i H' R hi s kk
      have hi':i<ls.length:=by omega
      have r:=el i (by simpa using hi')
      rw [getD_map dL ls i .non [] hi'] at r
      obtain ⟨b,eb,hb2,_,_⟩:=dL_of r
      rw [eb]
      walk_at "w"
      exact ⟨b,_,m,rfl,s _ _ hb2,hr' _ (getD_mem hi'),kk⟩
    · intro H' s hl2
      walk_at "w"
      refine rd_all (SqL.of hl2) ?_
      refine fin_b ?_ (k H' s)
      simp
def sp_are_colours:Sp:=fun vs H Q _=>∃ (a:Addr) (zs:List Str),vs=[.ref a,nV zs.length]∧H a=some (.lst (zs.map V.str))∧zs.length≤1000∧(∀ z∈zs,colOk z)∧∀ H',Same H H'→Q (.bl true) H'
abbrev s_are_colours:Stmt:=top 36
theorem sc_are_colours:FnScope ["thing","many"] ["thing","many"] (defScope s_are_colours):=⟨rfl,rfl,rfl,by decide +kernel,rfl,by decide +kernel,by decide +kernel⟩
theorem ok_are_colours {f:Addr} {fd:FuncData} (F:Fun K "are_colours" "are_colours" s_are_colours f fd) (T:Txt K mg c) (c_is_list:CallF P w K mg base "is_list" 3 ["thing","least","most"] sp_is_list) (c_is_colour:CallF P w K mg base "is_colour" 1 ["thing"] sp_is_colour):FnOk P w K mg base CX0 4 f fd ["thing","many"] sp_are_colours:=by
  refine F.ok sc_are_colours (fun vs H Q E h=> ?_) (fun cdv A outer s H vs Q E hr h=> ?_)
  · obtain ⟨a,zs,rfl,_⟩:=h
    rfl
  · obtain ⟨a,zs,rfl,ha,hz,hc,k⟩:=h
    refine ⟨_,(pss_one (ps_ret (pe_and (pe_callF c_is_list hr (pa_cons (pv 0) (pa_cons (pv 1) (pa_cons (pv 1) pa_nil)))) (pe_one (pe_callB (k_all (K:=K)) rfl (T.own _ (by decide)) boot_all' (pa_cons (pe_comp1 (k_pil (K:=K) (pv 0)) (fun _ _ _ _=>pts_nil) (fun _ _ _ _=>(pe_callF c_is_colour (hr.mono (by decide)) (pa_cons (pv 0) pa_nil)))) pa_nil)))))),?_⟩
    walk_at "w"
    refine ⟨a,_,_,_,rfl,ha,by simp,by simp,?_⟩
    walk_at "w"
    refine ⟨a,rfl,⟨_,SqL.of ha⟩,fun D hD=> ?_⟩
    refine bls_comp (G:=fun _=>true) (src_list (SqL.of ha) rfl) hD (by rw [List.length_map];omega) ?_ ?_
    · intro i H' R hi s kk
      have hi':i<zs.length:=by simpa using hi
      rw [getD_str hi]
      walk_at "w"
      exact ⟨_,rfl,hc _ (getD_mem hi'),kk H' (Same.refl _)⟩
    · intro H' s hl2
      walk_at "w"
      refine rd_all (SqL.of hl2) ?_
      refine fin_b ?_ (k H' s)
      simp
structure Dr where
  sh:Nat
  tr:Nat
  th:List Nat
  ti:List (List Nat)
  td:List (List Nat)
  wa:List Str
  we:List Str
structure DrOk (d:Dr):Prop where
  s1:1≤d.sh
  s2:d.sh≤16
  t1:1≤d.tr
  t2:d.tr≤16
  h1:1≤d.th.length
  h2:d.th.length≤60
  hs:∀ n∈d.th,n≤d.sh
  il:d.ti.length=d.tr
  ir:∀ l∈d.ti,Rise d.sh l
  p1:1≤d.td.length
  p2:d.td.length≤60
  pr:∀ l∈d.td,Rise d.tr l
  wl:d.wa.length=d.th.length
  wc:∀ z∈d.wa,colOk z
  fl:d.we.length=d.td.length
  fc:∀ z∈d.we,colOk z
structure Parts (H:Hp) (d:Dr) (vs:List V):Prop where
  ex:∃ a1 v2 v3 a4 a5,vs=[nV d.sh,nV d.tr, .ref a1,v2,v3, .ref a4, .ref a5]∧H a1=some (.lst (d.th.map nV))∧Rp H FT 2 v2 (dLL d.ti)∧Rp H FT 2 v3 (dLL d.td)∧H a4=some (.lst (d.wa.map V.str))∧H a5=some (.lst (d.we.map V.str))
theorem Parts.same {H H':Hp} {d:Dr} {vs:List V} (p:Parts H d vs) (s:Same H H'):Parts H' d vs:=by
  obtain ⟨a1,v2,v3,a4,a5,e,h1,h2,h3,h4,h5⟩:=p.ex
  exact ⟨a1,v2,v3,a4,a5,e,s _ _ h1,h2.same s,h3.same s,s _ _ h4,s _ _ h5⟩
theorem am {n:Nat} {lo hi:Int} (h1:lo≤n) (h2:(n:Int)≤hi):amongV (nV n) lo hi=true:=by
  show (decide (lo≤(n:Nat))&&decide (((n:Nat):Int)≤hi))=true
  simp [h1,h2]
def sp_need_draft:Sp:=fun vs H Q _=>∃ d,Parts H d vs∧DrOk d∧∀ H',Same H H'→Q .non H'
abbrev s_need_draft:Stmt:=top 37
theorem sc_need_draft:FnScope ["shafts","treadles","threading","ties","treading","warp","weft"] ["shafts","treadles","threading","ties","treading","warp","weft"] (defScope s_need_draft):=⟨rfl,rfl,rfl,by decide +kernel,rfl,by decide +kernel,by decide +kernel⟩
theorem ok_need_draft {f:Addr} {fd:FuncData} (F:Fun K "need_draft" "need_draft" s_need_draft f fd) (T:Txt K mg c) (c_need:CallF P w K mg base "need" 1 ["holds","words"] sp_need) (c_is_among:CallF P w K mg base "is_among" 2 ["thing","least","most"] (sp_is_among K)) (c_is_list:CallF P w K mg base "is_list" 3 ["thing","least","most"] sp_is_list) (c_are_rising:CallF P w K mg base "are_rising" 4 ["thing","most"] sp_are_rising) (c_are_colours:CallF P w K mg base "are_colours" 4 ["thing","many"] sp_are_colours):FnOk P w K mg base CX0 5 f fd ["shafts","treadles","threading","ties","treading","warp","weft"] sp_need_draft:=by
  refine F.ok sc_need_draft (fun vs H Q E h=> ?_) (fun cdv A outer s H vs Q E hr h=> ?_)
  · obtain ⟨d,⟨a1,v2,v3,a4,a5,rfl,_⟩,_⟩:=h
    rfl
  · obtain ⟨d,⟨a1,v2,v3,a4,a5,rfl,h1,h2,h3,h4,h5⟩,ok,k⟩:=h
    obtain ⟨m2,a2,vs2,em2,rfl,ha2,_,hl2,hb2,el2⟩:=lst_of h2
    obtain ⟨m3,a3,vs3,em3,rfl,ha3,_,hl3,hb3,el3⟩:=lst_of h3
    rw [List.length_map] at hl2 hl3
    refine ⟨_,(pss_cons (ps_expr (pe_callF c_need (hr.mono (by decide)) (pa_cons (pe_callF c_is_among (hr.mono (by decide)) (pa_cons (pv 0) (pa_cons pe_int (pa_cons (pe_gI T.k_MOST_SHAFTS) pa_nil)))) (pa_cons pe_str pa_nil))))
      (pss_cons (ps_expr (pe_callF c_need (hr.mono (by decide)) (pa_cons (pe_callF c_is_among (hr.mono (by decide)) (pa_cons (pv 1) (pa_cons pe_int (pa_cons (pe_gI T.k_MOST_TREADLES) pa_nil)))) (pa_cons pe_str pa_nil))))
      (pss_cons (ps_expr (pe_callF c_need (hr.mono (by decide)) (pa_cons (pe_callF c_is_list (hr.mono (by decide)) (pa_cons (pv 2) (pa_cons pe_int (pa_cons (pe_gI T.k_MOST_ENDS) pa_nil)))) (pa_cons pe_str pa_nil))))
      (pss_cons (ps_expr (pe_callF c_need (hr.mono (by decide)) (pa_cons (pe_callB (k_all (K:=K)) rfl (T.own _ (by decide)) boot_all' (pa_cons (pe_comp1 (k_pil (K:=K) (pv 2)) (fun _ _ _ _=>pts_nil) (fun _ _ _ _=>(pe_callF c_is_among (hr.mono (by decide)) (pa_cons (pv 0) (pa_cons pe_int (pa_cons (pv 1) pa_nil)))))) pa_nil)) (pa_cons pe_str pa_nil))))
      (pss_cons (ps_expr (pe_callF c_need (hr.mono (by decide)) (pa_cons (pe_callF c_is_list (hr.mono (by decide)) (pa_cons (pv 3) (pa_cons (pv 1) (pa_cons (pv 1) pa_nil)))) (pa_cons pe_str pa_nil))))
      (pss_cons (ps_expr (pe_callF c_need (hr.mono (by decide)) (pa_cons (pe_callF c_are_rising hr (pa_cons (pv 3) (pa_cons (pv 0) pa_nil))) (pa_cons pe_str pa_nil))))
      (pss_cons (ps_expr (pe_callF c_need (hr.mono (by decide)) (pa_cons (pe_callF c_is_list (hr.mono (by decide)) (pa_cons (pv 4) (pa_cons pe_int (pa_cons (pe_gI T.k_MOST_PICKS) pa_nil)))) (pa_cons pe_str pa_nil))))
      (pss_cons (ps_expr (pe_callF c_need (hr.mono (by decide)) (pa_cons (pe_callF c_are_rising hr (pa_cons (pv 4) (pa_cons (pv 1) pa_nil))) (pa_cons pe_str pa_nil))))
      (pss_cons (ps_expr (pe_callF c_need (hr.mono (by decide)) (pa_cons (pe_callF c_are_colours hr (pa_cons (pv 5) (pa_cons (pe_callB (k_len (K:=K)) rfl (T.own _ (by decide)) boot_len (pa_cons (pv 2) pa_nil)) pa_nil))) (pa_cons pe_str pa_nil))))
      (pss_one (ps_expr (pe_callF c_need (hr.mono (by decide)) (pa_cons (pe_callF c_are_colours hr (pa_cons (pv 6) (pa_cons (pe_callB (k_len (K:=K)) rfl (T.own _ (by decide)) boot_len (pa_cons (pv 4) pa_nil)) pa_nil))) (pa_cons pe_str pa_nil)))))))))))))),?_⟩
    walk_at "w"
    refine ⟨_,_,_,rfl,⟨_, .int _⟩,?_⟩
    walk_at "w"
    rw [am (by have:=ok.s1;omega) (by have:=ok.s2;omega)]
    refine ⟨_,rfl,?_⟩
    walk_at "w"
    refine ⟨_,_,_,rfl,⟨_, .int _⟩,?_⟩
    walk_at "w"
    rw [am (by have:=ok.t1;omega) (by have:=ok.t2;omega)]
    refine ⟨_,rfl,?_⟩
    walk_at "w"
    refine ⟨a1,_,_,_,rfl,h1,by have:=ok.h1;simp;omega,by have:=ok.h2;simp;omega,?_⟩
    walk_at "w"
    refine ⟨_,rfl,?_⟩
    walk_at "w"
    refine ⟨a1,rfl,⟨_,SqL.of h1⟩,fun D hD=> ?_⟩
    refine bls_comp (G:=fun _=>true) (src_list (SqL.of h1) rfl) hD (by have:=ok.h2;rw [List.length_map];omega) ?_ ?_
    · intro i H' R hi s kk
      have hi':i<d.th.length:=by simpa using hi
      rw [getD_nat hi]
      walk_at "w"
      refine ⟨_,_,_,rfl,⟨_, .int _⟩,?_⟩
      have:=ok.hs _ (getD_mem (y:=0) hi')
      rw [am (by omega) (by omega)]
      exact kk H' (Same.refl _)
    intro H1 s1 hl1
    walk_at "w"
    refine rd_all (SqL.of hl1) ?_
    rw [show ((List.range (d.th.map nV).length).map fun _=>true).all id=true by simp]
    walk_at "w"
    refine ⟨_,rfl,?_⟩
    walk_at "w"
    refine ⟨a2,_,_,_,rfl,s1 _ _ ha2,by have:=ok.il;omega,by have:=ok.il;omega,?_⟩
    walk_at "w"
    refine ⟨_,rfl,?_⟩
    walk_at "w"
    refine ⟨_,d.ti,d.sh,rfl,h2.same s1,ok.ir,fun H2 s2=> ?_⟩
    walk_at "w"
    refine ⟨_,rfl,?_⟩
    walk_at "w"
    have s12:=s1.trans s2
    refine ⟨a3,_,_,_,rfl,s12 _ _ ha3,by have:=ok.p1;omega,by have:=ok.p2;omega,?_⟩
    walk_at "w"
    refine ⟨_,rfl,?_⟩
    walk_at "w"
    refine ⟨_,d.td,d.tr,rfl,h3.same s12,ok.pr,fun H3 s3=> ?_⟩
    have s13:=s12.trans s3
    walk_at "w"
    refine ⟨_,rfl,?_⟩
    walk_at "w"
    refine rd_lenL (SqL.of (s13 _ _ h1)) ?_
    walk_at "w"
    refine ⟨a4,d.wa,by rw [List.length_map,ok.wl],s13 _ _ h4,by have:=ok.wl;have:=ok.h2;omega,ok.wc,fun H4 s4=> ?_⟩
    have s14:=s13.trans s4
    walk_at "w"
    refine ⟨_,rfl,?_⟩
    walk_at "w"
    refine rd_lenL (SqL.of (s14 _ _ ha3)) ?_
    walk_at "w"
    refine ⟨a5,d.we,by rw [hl3,ok.fl],s14 _ _ h5,by have:=ok.fl;have:=ok.p2;omega,ok.fc,fun H5 s5=> ?_⟩
    walk_at "w"
    refine ⟨_,rfl,?_⟩
    walk_at "w"
    exact k _ (s14.trans s5)
def DrAt (C:Addr) (H:Hp) (x:Addr) (d:Dr):Prop:=∃ dx v1 v2 v3 v4 v5,H x=some (.ins C dx [("shafts",nV d.sh),("treadles",nV d.tr),("threading",v1),("ties",v2),("treading",v3),("warp",v4),("weft",v5)])∧
  Rp H FT 1 v1 (dT d.th)∧Rp H FT 2 v2 (dTT d.ti)∧Rp H FT 2 v3 (dTT d.td)∧Rp H FT 1 v4 (dST d.wa)∧Rp H FT 1 v5 (dST d.we)
theorem DrAt.same {C:Addr} {H H':Hp} {x:Addr} {d:Dr} (h:DrAt C H x d) (s:Same H H'):DrAt C H' x d:=by
  obtain ⟨dx,v1,v2,v3,v4,v5,h0,h1,h2,h3,h4,h5⟩:=h
  exact ⟨dx,v1,v2,v3,v4,v5,s _ _ h0,h1.same s,h2.same s,h3.same s,h4.same s,h5.same s⟩
def sp_Draft___init__ (c:Cs):Sp:=fun vs H Q _=>∃ (x dx:Addr) (ws:List V) (d:Dr),vs= .ref x::ws∧H x=some (.ins c.Draft dx [])∧Parts H d ws∧DrOk d∧∀ H',But x H H'→DrAt c.Draft H' x d→Q .non H'
abbrev s_Draft___init__:Stmt:=inClass (top 38) 0
theorem sc_Draft___init__:FnScope ["self","shafts","treadles","threading","ties","treading","warp","weft"] ["self","shafts","treadles","threading","ties","treading","warp","weft"] (defScope s_Draft___init__):=⟨rfl,rfl,rfl,by decide +kernel,rfl,by decide +kernel,by decide +kernel⟩
theorem ok_Draft___init__ {f:Addr} {fd:FuncData} (F:Fun K "__init__" "Draft.__init__" s_Draft___init__ f fd) (T:Txt K mg c) (c_need_draft:CallF P w K mg base "need_draft" 5 ["shafts","treadles","threading","ties","treading","warp","weft"] sp_need_draft):FnOk P w K mg base CX0 6 f fd ["self","shafts","treadles","threading","ties","treading","warp","weft"] (sp_Draft___init__ c):=by
  refine F.ok sc_Draft___init__ (fun vs H Q E h=> ?_) (fun cdv A outer s H vs Q E hr h=> ?_)
  · obtain ⟨x,dx,ws,d,rfl,_,⟨a1,v2,v3,a4,a5,rfl,_⟩,_⟩:=h
    rfl
  · obtain ⟨x,dx,ws,d,rfl,hx,ps,ok,k⟩:=h
    have ps0:=ps
    obtain ⟨a1,v2,v3,a4,a5,rfl,h1,h2,h3,h4,h5⟩:=ps
    refine ⟨_,(pss_cons (ps_expr (pe_callF c_need_draft hr (pa_cons (pv 1) (pa_cons (pv 2) (pa_cons (pv 3) (pa_cons (pv 4) (pa_cons (pv 5) (pa_cons (pv 6) (pa_cons (pv 7) pa_nil)))))))))
      (pss_cons (ps_fld (pv 0) (pv 1) rfl)
      (pss_cons (ps_fld (pv 0) (pv 2) rfl)
      (pss_cons (ps_fld (pv 0) (pe_callTy (k_tuple (K:=K)) rfl (T.own _ (by decide)) boot_tuple' (pa_cons (pv 3) pa_nil)) rfl)
      (pss_cons (ps_fld (pv 0) (pe_callTy (k_tuple (K:=K)) rfl (T.own _ (by decide)) boot_tuple' (pa_cons (pe_comp1 (k_pil (K:=K) (pv 4)) (fun _ _ _ _=>pts_nil) (fun _ _ _ _=>(pe_callTy (k_tuple (K:=K)) rfl (T.own _ (by decide)) boot_tuple' (pa_cons (pv 0) pa_nil)))) pa_nil)) rfl)
      (pss_cons (ps_fld (pv 0) (pe_callTy (k_tuple (K:=K)) rfl (T.own _ (by decide)) boot_tuple' (pa_cons (pe_comp1 (k_pil (K:=K) (pv 5)) (fun _ _ _ _=>pts_nil) (fun _ _ _ _=>(pe_callTy (k_tuple (K:=K)) rfl (T.own _ (by decide)) boot_tuple' (pa_cons (pv 0) pa_nil)))) pa_nil)) rfl)
      (pss_cons (ps_fld (pv 0) (pe_callTy (k_tuple (K:=K)) rfl (T.own _ (by decide)) boot_tuple' (pa_cons (pv 6) pa_nil)) rfl)
      (pss_one (ps_fld (pv 0) (pe_callTy (k_tuple (K:=K)) rfl (T.own _ (by decide)) boot_tuple' (pa_cons (pv 7) pa_nil)) rfl))))))))),?_⟩
    walk_at "w"
    refine ⟨d,ps0,ok,fun H1 s1=> ?_⟩
    walk_at "w"
    have B:But x H H1:=But.of s1
    have hx1:=s1 _ _ hx
    refine rd_set hx1 T.kd_Draft.cl T.na_Draft_shafts (by decide) ?_
    replace B:=B.put (o:=HO.ins c.Draft dx (putF "shafts" (nV d.sh) []))
    have hx2:upd H1 x (HO.ins c.Draft dx (putF "shafts" (nV d.sh) [])) x=_:=upd_same
    generalize upd H1 x (HO.ins c.Draft dx (putF "shafts" (nV d.sh) []))=H2 at B hx2 ⊢
    walk_at "w"
    refine rd_set hx2 T.kd_Draft.cl T.na_Draft_treadles (by show 1<1000;decide) ?_
    replace B:=B.put (o:=HO.ins c.Draft dx (putF "treadles" (nV d.tr) (putF "shafts" (nV d.sh) [])))
    have hx3:upd H2 x (HO.ins c.Draft dx (putF "treadles" (nV d.tr) (putF "shafts" (nV d.sh) []))) x=_:=upd_same
    generalize upd H2 x (HO.ins c.Draft dx (putF "treadles" (nV d.tr) (putF "shafts" (nV d.sh) [])))=H3 at B hx3 ⊢
    walk_at "w"
    refine rd_tupOf (SqL.of (B _ _ h1 (ne_of h1 hx (by intro z;cases z)))) fun t1 ht1=> ?_
    walk_at "w"
    have hx3':=same_new (o:=HO.tup (d.th.map nV)) ht1 _ _ hx3
    have r1:Rp (upd H3 t1 (HO.tup (d.th.map nV))) FT 1 (.ref t1) (dT d.th):=rp_T upd_same (by have:=ok.h2;omega)
    replace B:=B.same (same_new (o:=HO.tup (d.th.map nV)) ht1)
    generalize upd H3 t1 (HO.tup (d.th.map nV))=H4 at B hx3' r1 ⊢
    refine rd_set hx3' T.kd_Draft.cl T.na_Draft_threading (by show 2<1000;decide) ?_
    replace r1:=r1.ins (o:=HO.ins c.Draft dx (putF "threading" (.ref t1) (putF "treadles" (nV d.tr) (putF "shafts" (nV d.sh) [])))) hx3'
    replace B:=B.put (o:=HO.ins c.Draft dx (putF "threading" (.ref t1) (putF "treadles" (nV d.tr) (putF "shafts" (nV d.sh) []))))
    have hx5:upd H4 x (HO.ins c.Draft dx (putF "threading" (.ref t1) (putF "treadles" (nV d.tr) (putF "shafts" (nV d.sh) [])))) x=_:=upd_same
    generalize upd H4 x (HO.ins c.Draft dx (putF "threading" (.ref t1) (putF "treadles" (nV d.tr) (putF "shafts" (nV d.sh) []))))=H5 at B hx5 r1 ⊢
    walk_at "w"
    obtain ⟨m2,a2,vs2,em2,rfl,ha2,_,hl2,hb2,el2⟩:=lst_of (B.rp hx h2)
    cases em2
    rw [List.length_map] at hl2
    refine ⟨a2,rfl,⟨_,SqL.of ha2⟩,fun D hD=> ?_⟩
    refine comp_map (m:=1) (G:=fun i=>dT (d.ti.getD i [])) (src_list (SqL.of ha2) rfl) hD hb2 ?_ ?_
    · intro i H' R hi s kk
      have hi':i<d.ti.length:=by omega
      have r:=el2 i (by simpa using hi')
      rw [getD_map dL d.ti i .non [] hi'] at r
      obtain ⟨b,eb,hb3,_,hb4⟩:=dL_of r
      rw [eb]
      walk_at "w"
      exact rd_tupOf (SqL.of (s _ _ hb3)) fun q hq=>kk _ _ (same_new hq) (rp_T upd_same hb4)
    intro H6 ys s6 hl6 r2
    rw [hl2,map_T] at r2
    walk_at "w"
    refine rd_tupOf (SqL.of hl6) fun t2 ht2=> ?_
    walk_at "w"
    replace r2:Rp (upd H6 t2 (HO.tup ys)) FT 2 (.ref t2) (dTT d.ti):=(r2.tupd hl6 ht2).any
    have s62:=s6.trans (same_new (o:=HO.tup ys) ht2)
    replace B:=B.same s62
    replace r1:=r1.same s62
    have hx6:=s62 _ _ hx5
    generalize upd H6 t2 (HO.tup ys)=H7 at B hx6 r1 r2 ⊢
    refine rd_set hx6 T.kd_Draft.cl T.na_Draft_ties (by show 3<1000;decide) ?_
    generalize ef:putF "ties" (V.ref t2) _=f7
    replace r1:=r1.ins (o:=HO.ins c.Draft dx f7) hx6
    replace r2:=r2.ins (o:=HO.ins c.Draft dx f7) hx6
    replace B:=B.put (o:=HO.ins c.Draft dx f7)
    have hx8:upd H7 x (HO.ins c.Draft dx f7) x=_:=upd_same
    generalize upd H7 x (HO.ins c.Draft dx f7)=H8 at B hx8 r1 r2 ⊢
    subst ef
    walk_at "w"
    obtain ⟨m3,a3,vs3,em3,rfl,ha3,_,hl3,hb3,el3⟩:=lst_of (B.rp hx h3)
    cases em3
    rw [List.length_map] at hl3
    refine ⟨a3,rfl,⟨_,SqL.of ha3⟩,fun D hD=> ?_⟩
    refine comp_map (m:=1) (G:=fun i=>dT (d.td.getD i [])) (src_list (SqL.of ha3) rfl) hD hb3 ?_ ?_
    · intro i H' R hi s kk
      have hi':i<d.td.length:=by omega
      have r:=el3 i (by simpa using hi')
      rw [getD_map dL d.td i .non [] hi'] at r
      obtain ⟨b,eb,hb3,_,hb4⟩:=dL_of r
      rw [eb]
      walk_at "w"
      exact rd_tupOf (SqL.of (s _ _ hb3)) fun q hq=>kk _ _ (same_new hq) (rp_T upd_same hb4)
    intro H9 ys9 s9 hl9 r3
    rw [hl3,map_T] at r3
    walk_at "w"
    refine rd_tupOf (SqL.of hl9) fun t3 ht3=> ?_
    walk_at "w"
    replace r3:Rp (upd H9 t3 (HO.tup ys9)) FT 2 (.ref t3) (dTT d.td):=(r3.tupd hl9 ht3).any
    have s93:=s9.trans (same_new (o:=HO.tup ys9) ht3)
    replace B:=B.same s93
    replace r1:=r1.same s93
    replace r2:=r2.same s93
    have hx9:=s93 _ _ hx8
    generalize upd H9 t3 (HO.tup ys9)=HA at B hx9 r1 r2 r3 ⊢
    refine rd_set hx9 T.kd_Draft.cl T.na_Draft_treading (by show 4<1000;decide) ?_
    generalize ef:putF "treading" (V.ref t3) _=f9
    replace r1:=r1.ins (o:=HO.ins c.Draft dx f9) hx9
    replace r2:=r2.ins (o:=HO.ins c.Draft dx f9) hx9
    replace r3:=r3.ins (o:=HO.ins c.Draft dx f9) hx9
    replace B:=B.put (o:=HO.ins c.Draft dx f9)
    have hxB:upd HA x (HO.ins c.Draft dx f9) x=_:=upd_same
    generalize upd HA x (HO.ins c.Draft dx f9)=HB at B hxB r1 r2 r3 ⊢
    subst ef
    walk_at "w"
    refine rd_tupOf (SqL.of (B _ _ h4 (ne_of h4 hx (by intro z;cases z)))) fun t4 ht4=> ?_
    walk_at "w"
    have r4:Rp (upd HB t4 (HO.tup (d.wa.map V.str))) FT 1 (.ref t4) (dST d.wa):=rp_ST upd_same (by have:=ok.h2;have:=ok.wl;omega)
    have sB:=same_new (o:=HO.tup (d.wa.map V.str)) ht4
    replace B:=B.same sB
    replace r1:=r1.same sB
    replace r2:=r2.same sB
    replace r3:=r3.same sB
    replace hxB:=sB _ _ hxB
    generalize upd HB t4 (HO.tup (d.wa.map V.str))=HC at B hxB r1 r2 r3 r4 ⊢
    refine rd_set hxB T.kd_Draft.cl T.na_Draft_warp (by show 5<1000;decide) ?_
    generalize ef:putF "warp" (V.ref t4) _=fC
    replace r1:=r1.ins (o:=HO.ins c.Draft dx fC) hxB
    replace r2:=r2.ins (o:=HO.ins c.Draft dx fC) hxB
    replace r3:=r3.ins (o:=HO.ins c.Draft dx fC) hxB
    replace r4:=r4.ins (o:=HO.ins c.Draft dx fC) hxB
    replace B:=B.put (o:=HO.ins c.Draft dx fC)
    have hxD:upd HC x (HO.ins c.Draft dx fC) x=_:=upd_same
    generalize upd HC x (HO.ins c.Draft dx fC)=HD at B hxD r1 r2 r3 r4 ⊢
    subst ef
    walk_at "w"
    refine rd_tupOf (SqL.of (B _ _ h5 (ne_of h5 hx (by intro z;cases z)))) fun t5 ht5=> ?_
    walk_at "w"
    have r5:Rp (upd HD t5 (HO.tup (d.we.map V.str))) FT 1 (.ref t5) (dST d.we):=rp_ST upd_same (by have:=ok.p2;have:=ok.fl;omega)
    have sD:=same_new (o:=HO.tup (d.we.map V.str)) ht5
    replace B:=B.same sD
    replace r1:=r1.same sD
    replace r2:=r2.same sD
    replace r3:=r3.same sD
    replace r4:=r4.same sD
    replace hxD:=sD _ _ hxD
    generalize upd HD t5 (HO.tup (d.we.map V.str))=HE at B hxD r1 r2 r3 r4 r5 ⊢
    refine rd_set hxD T.kd_Draft.cl T.na_Draft_weft (by show 6<1000;decide) ?_
    generalize ef:putF "weft" (V.ref t5) _=fE
    replace r1:=r1.ins (o:=HO.ins c.Draft dx fE) hxD
    replace r2:=r2.ins (o:=HO.ins c.Draft dx fE) hxD
    replace r3:=r3.ins (o:=HO.ins c.Draft dx fE) hxD
    replace r4:=r4.ins (o:=HO.ins c.Draft dx fE) hxD
    replace r5:=r5.ins (o:=HO.ins c.Draft dx fE) hxD
    replace B:=B.put (o:=HO.ins c.Draft dx fE)
    have hxF:upd HD x (HO.ins c.Draft dx fE) x=_:=upd_same
    walk_at "w"
    subst ef
    exact k _ B ⟨dx,_,_,_,_,_,upd_same,r1,r2,r3,r4,r5⟩
theorem dr_make {c:Cs} {H:Hp} {Q:VK} {d:Dr} {ws:List V} (ps:Parts H d ws) (ok:DrOk d) (h:∀ H' x,Same H H'→H x=none→DrAt c.Draft H' x d→Q (.ref x) H'):
    ∀ x dx,H x=none→H dx=none→dx≠x→sp_Draft___init__ c (.ref x::ws) (upd (upd H dx (.own x)) x (.ins c.Draft dx [])) (fun v H2=>v= .non∧Q (.ref x) H2) E0:=by
  intro x dx hx hdx ne
  have s0:=same_obj (o:=HO.ins c.Draft dx []) (u:= .own x) hx hdx
  exact ⟨x,dx,ws,d,rfl,upd_same,ps.same s0,ok,fun H' B at'=>⟨rfl,h H' x (fun b o e=>B b o (s0 b o e) (ne_of_none e hx)) hx at'⟩⟩
def dDr (d:Dr):Dt:= .tup [dN d.sh,dN d.tr,dL d.th,dLL d.ti,dLL d.td,dS d.wa,dS d.we]
end
end K17
open L2
namespace K17
open PySem L2 PySem.Spec PyProof.Rows
seal L2.PE L2.PT L2.PW L2.PA L2.PS L2.PSs L2.PI L2.PG L2.PTs L2.PGs
section
variable {P:Program} {w:World} {K:PySem.W.Frag} {mg:Str→Option Value} {base:Heap} {c:Cs}
def sp_Draft_told (c:Cs):Sp:=fun vs H Q _=>∃ x d,vs=[.ref x]∧DrAt c.Draft H x d∧∀ H' p,Same H H'→H p=none→Rp H' (FN H) 3 (.ref p) (dDr d)→Q (.ref p) H'
abbrev s_Draft_told:Stmt:=inClass (top 38) 1
theorem sc_Draft_told:FnScope ["self"] ["self"] (defScope s_Draft_told):=⟨rfl,rfl,rfl,by decide +kernel,rfl,by decide +kernel,by decide +kernel⟩
theorem ok_Draft_told {f:Addr} {fd:FuncData} (F:Fun K "told" "Draft.told" s_Draft_told f fd) (T:Txt K mg c):FnOk P w K mg base CX0 1 f fd ["self"] (sp_Draft_told c):=by
  refine F.ok sc_Draft_told (fun vs H Q E h=> ?_) (fun cdv A outer s H vs Q E hr h=> ?_)
  · obtain ⟨x,d,rfl,_⟩:=h
    rfl
  · obtain ⟨x,d,rfl,⟨dx,v1,v2,v3,v4,v5,h0,h1,h2,h3,h4,h5⟩,k⟩:=h
    obtain ⟨a1,rfl,e1,b1⟩:=dT_of h1
    obtain ⟨m2,a2,vs2,em2,rfl,e2,l2,b2,el2⟩:=tup_of h2
    cases em2
    obtain ⟨m3,a3,vs3,em3,rfl,e3,l3,b3,el3⟩:=tup_of h3
    cases em3
    obtain ⟨a4,rfl,e4,b4⟩:=dST_of h4
    obtain ⟨a5,rfl,e5,b5⟩:=dST_of h5
    rw [List.length_map] at l2 l3
    refine ⟨_,(pss_one (ps_ret (pe_tup (pa_cons (k_fld (K:=K) (pv 0) rfl) (pa_cons (k_fld (K:=K) (pv 0) rfl) (pa_cons (pe_callTy (k_list (K:=K)) rfl (T.own _ (by decide)) boot_list' (pa_cons (k_fld (K:=K) (pv 0) rfl) pa_nil)) (pa_cons (pe_comp1 (k_pit (K:=K) (k_fld (K:=K) (pv 0) rfl)) (fun _ _ _ _=>pts_nil) (fun _ _ _ _=>(pe_callTy (k_list (K:=K)) rfl (T.own _ (by decide)) boot_list' (pa_cons (pv 0) pa_nil)))) (pa_cons (pe_comp1 (k_pit (K:=K) (k_fld (K:=K) (pv 0) rfl)) (fun _ _ _ _=>pts_nil) (fun _ _ _ _=>(pe_callTy (k_list (K:=K)) rfl (T.own _ (by decide)) boot_list' (pa_cons (pv 0) pa_nil)))) (pa_cons (pe_callTy (k_list (K:=K)) rfl (T.own _ (by decide)) boot_list' (pa_cons (k_fld (K:=K) (pv 0) rfl) pa_nil)) (pa_cons (pe_callTy (k_list (K:=K)) rfl (T.own _ (by decide)) boot_list' (pa_cons (k_fld (K:=K) (pv 0) rfl) pa_nil)) pa_nil)))))))))),?_⟩
    walk_at "w"
    refine ⟨_,_,_,_,_,rfl,h0,T.kd_Draft.cl,T.na_Draft_shafts,rfl,?_⟩
    walk_at "w"
    refine ⟨_,_,_,_,_,rfl,h0,T.kd_Draft.cl,T.na_Draft_treadles,rfl,?_⟩
    walk_at "w"
    refine ⟨_,_,_,_,_,rfl,h0,T.kd_Draft.cl,T.na_Draft_threading,rfl,?_⟩
    walk_at "w"
    refine rd_listOfT (SqT.of e1) fun p1 hp1=> ?_
    walk_at "w"
    have s1:=same_new (o:=HO.lst (d.th.map nV)) hp1
    have r1:Rp (upd H p1 (HO.lst (d.th.map nV))) (FN H) 2 (.ref p1) (dL d.th):=rp_L upd_same hp1 b1
    generalize upd H p1 (HO.lst (d.th.map nV))=H1 at s1 r1 ⊢
    refine ⟨_,_,_,_,_,rfl,s1 _ _ h0,T.kd_Draft.cl,T.na_Draft_ties,rfl,?_⟩
    walk_at "w"
    refine ⟨a2,rfl,⟨_,SqT.of (s1 _ _ e2)⟩,fun D2 hD2=> ?_⟩
    refine comp_map (m:=1) (G:=fun i=>dL (d.ti.getD i [])) (src_tup (SqT.of (s1 _ _ e2)) rfl) hD2 b2 ?_ ?_
    · intro i H' R hi s kk
      have hi':i<d.ti.length:=by omega
      have r:=el2 i (by simpa using hi')
      rw [getD_map dT d.ti i .non [] hi'] at r
      obtain ⟨b,eb,hb3,hb4⟩:=dT_of r
      rw [eb]
      walk_at "w"
      exact rd_listOfT (SqT.of (s _ _ (s1 _ _ hb3))) fun q hq=>kk _ _ (same_new hq) (rp_L upd_same hq hb4)
    intro H2 ys2 s2 hl2 r2
    rw [l2,map_L] at r2
    replace r2:Rp H2 (FN H) 2 (.ref D2) (dLL d.ti):=r2.imp fun a ha=>s1.free ha
    have s02:=s1.trans s2
    walk_at "w"
    refine ⟨_,_,_,_,_,rfl,s02 _ _ h0,T.kd_Draft.cl,T.na_Draft_treading,rfl,?_⟩
    walk_at "w"
    refine ⟨a3,rfl,⟨_,SqT.of (s02 _ _ e3)⟩,fun D3 hD3=> ?_⟩
    refine comp_map (m:=1) (G:=fun i=>dL (d.td.getD i [])) (src_tup (SqT.of (s02 _ _ e3)) rfl) hD3 b3 ?_ ?_
    · intro i H' R hi s kk
      have hi':i<d.td.length:=by omega
      have r:=el3 i (by simpa using hi')
      rw [getD_map dT d.td i .non [] hi'] at r
      obtain ⟨b,eb,hb3,hb4⟩:=dT_of r
      rw [eb]
      walk_at "w"
      exact rd_listOfT (SqT.of (s _ _ (s02 _ _ hb3))) fun q hq=>kk _ _ (same_new hq) (rp_L upd_same hq hb4)
    intro H3 ys3 s3 hl3 r3
    rw [l3,map_L] at r3
    replace r3:Rp H3 (FN H) 2 (.ref D3) (dLL d.td):=r3.imp fun a ha=>s02.free ha
    have s03:=s02.trans s3
    walk_at "w"
    refine ⟨_,_,_,_,_,rfl,s03 _ _ h0,T.kd_Draft.cl,T.na_Draft_warp,rfl,?_⟩
    walk_at "w"
    refine rd_listOfT (SqT.of (s03 _ _ e4)) fun p4 hp4=> ?_
    walk_at "w"
    have s4:=same_new (o:=HO.lst (d.wa.map V.str)) hp4
    have r4:Rp (upd H3 p4 (HO.lst (d.wa.map V.str))) (FN H) 2 (.ref p4) (dS d.wa):=rp_S upd_same (s03.free hp4) b4
    generalize upd H3 p4 (HO.lst (d.wa.map V.str))=H4 at s4 r4 ⊢
    have s04:=s03.trans s4
    refine ⟨_,_,_,_,_,rfl,s04 _ _ h0,T.kd_Draft.cl,T.na_Draft_weft,rfl,?_⟩
    walk_at "w"
    refine rd_listOfT (SqT.of (s04 _ _ e5)) fun p5 hp5=> ?_
    walk_at "w"
    have s5:=same_new (o:=HO.lst (d.we.map V.str)) hp5
    have r5:Rp (upd H4 p5 (HO.lst (d.we.map V.str))) (FN H) 2 (.ref p5) (dS d.we):=rp_S upd_same (s04.free hp5) b5
    generalize upd H4 p5 (HO.lst (d.we.map V.str))=H5 at s5 r5 ⊢
    have s05:=s04.trans s5
    intro p hp
    have s6:=same_new (o:=HO.tup [nV d.sh,nV d.tr, .ref p1, .ref D2, .ref D3, .ref p4, .ref p5]) hp
    refine k _ p (s05.trans s6) (s05.free hp) (rp_tup7 upd_same (.int _) (.int _) ?_ ?_ ?_ ?_ ?_)
    · exact (r1.same (s2.trans (s3.trans (s4.trans s5)))).same s6
    · exact (r2.same (s3.trans (s4.trans s5))).same s6
    · exact (r3.same (s4.trans s5)).same s6
    · exact (r4.same s5).same s6
    · exact r5.same s6
def sp_Draft_ends (c:Cs):Sp:=fun vs H Q _=>∃ x d,vs=[.ref x]∧DrAt c.Draft H x d∧Q (nV d.th.length) H
abbrev s_Draft_ends:Stmt:=inClass (top 38) 2
theorem sc_Draft_ends:FnScope ["self"] ["self"] (defScope s_Draft_ends):=⟨rfl,rfl,rfl,by decide +kernel,rfl,by decide +kernel,by decide +kernel⟩
theorem ok_Draft_ends {f:Addr} {fd:FuncData} (F:Fun K "ends" "Draft.ends" s_Draft_ends f fd) (T:Txt K mg c):FnOk P w K mg base CX0 1 f fd ["self"] (sp_Draft_ends c):=by
  refine F.ok sc_Draft_ends (fun vs H Q E h=> ?_) (fun cdv A outer s H vs Q E hr h=> ?_)
  · obtain ⟨x,d,rfl,_⟩:=h
    rfl
  · obtain ⟨x,d,rfl,⟨dx,v1,v2,v3,v4,v5,h0,h1,h2,h3,h4,h5⟩,k⟩:=h
    obtain ⟨a1,rfl,e1,b1⟩:=dT_of h1
    refine ⟨_,(pss_one (ps_ret (pe_callB (k_len (K:=K)) rfl (T.own _ (by decide)) boot_len (pa_cons (k_fld (K:=K) (pv 0) rfl) pa_nil)))),?_⟩
    walk_at "w"
    refine ⟨_,_,_,_,_,rfl,h0,T.kd_Draft.cl,T.na_Draft_threading,rfl,?_⟩
    walk_at "w"
    refine rd_lenT (SqT.of e1) ?_
    rw [List.length_map]
    exact k
end
end K17
open L2
namespace K17
open PySem L2 PySem.Spec PyProof.Rows
seal L2.PE L2.PT L2.PW L2.PA L2.PS L2.PSs L2.PI L2.PG L2.PTs L2.PGs
section
variable {P:Program} {w:World} {K:PySem.W.Frag} {mg:Str→Option Value} {base:Heap} {c:Cs}
def sp_lift_by (K:PySem.W.Frag):Sp:=fun vs H Q _=>∃ (a b:Addr) (tp:Bool) (ts ks:List Nat),vs=[.ref a, .ref b]∧SqL K H a (ts.map nV)∧SqS tp K H b (ks.map nV)∧ks.length≤1000∧(∀ k∈ks,1≤k∧k≤ts.length)∧∀ H',Same H H'→Q (nV (MM.uOf (ks.map fun k=>ts.getD (k - 1) 0))) H'
theorem nats_L {n:Nat} (G:Nat→Nat):((List.range n).map fun i=>((G i:Nat):Int)).map V.int=((List.range n).map G).map nV:=by rw [List.map_map,List.map_map];rfl
abbrev s_lift_by:Stmt:=top 48
theorem sc_lift_by:FnScope ["ties","treadles"] ["ties","treadles"] (defScope s_lift_by):=⟨rfl,rfl,rfl,by decide +kernel,rfl,by decide +kernel,by decide +kernel⟩
theorem ok_lift_by {f:Addr} {fd:FuncData} (F:Fun K "lift_by" "lift_by" s_lift_by f fd) (T:Txt K mg c) (c_union_of:CallF P w K mg base "union_of" 1 ["masks"] (sp_union_of K)):FnOk P w K mg base CX0 2 f fd ["ties","treadles"] (sp_lift_by K):=by
  refine F.ok sc_lift_by (fun vs H Q E h=> ?_) (fun cdv A outer s H vs Q E hr h=> ?_)
  · obtain ⟨a,b,tp,ts,ks,rfl,_⟩:=h
    rfl
  · obtain ⟨a,b,tp,ts,ks,rfl,sa,sb,hl,hk,k⟩:=h
    refine ⟨_,(pss_one (ps_ret (pe_callF c_union_of hr (pa_cons (pe_comp1 (pi_sq (K:=K) (pv 1)) (fun _ _ _ _=>pts_nil) (fun _ _ _ _=>(pe_ix (k_ixl (K:=K)) (pv 1) (pe_op op_sub (pv 0) pe_int) (fun _ _=>rfl)))) pa_nil)))),?_⟩
    walk_at "w"
    refine ⟨tp,b,rfl,⟨_,sb⟩,fun D hD=> ?_⟩
    refine ints_comp (G:=fun i=>((ts.getD (ks.getD i 0 - 1) 0:Nat):Int)) (src_sq sb rfl) hD (by rw [List.length_map];omega) ?_ ?_
    · intro i H' R hi s kk
      have hi':i<ks.length:=by simpa using hi
      have hm:=hk _ (getD_mem (y:=0) hi')
      rw [getD_nat hi]
      walk_at "w"
      refine rd_ixL (SqS.same (tp:=false) sa s) (atI_natV (by omega) (by omega)) ?_
      rw [show (((ks.getD i 0:Nat):Int) - 1).toNat=ks.getD i 0 - 1 by omega]
      exact kk H' (Same.refl _)
    · intro H' s hl2
      rw [nats_L,List.length_map] at hl2
      walk_at "w"
      refine ⟨false,D,_,rfl,SqL.of hl2,fun H2 s2=> ?_⟩
      rw [range_map (fun k=>ts.getD (k - 1) 0) ks 0]
      exact k H2 (s.trans s2)
def liftN (ti:List (List Nat)) (ks:List Nat):Nat:=MM.uOf (ks.map fun k=>(ti.map MM.mOf).getD (k - 1) 0)
theorem Rise.le {m:Nat} {ns:List Nat} (h:Rise m ns):∀ n∈ns,1≤n∧n≤m:=fun n hn=>by
  obtain ⟨i,hi,rfl⟩:=List.getElem_of_mem hn
  have:=h i hi
  rw [show ns.getD i 0=ns[i] by simp [List.getD_eq_getElem?_getD,hi]] at this
  omega
theorem Rise.len {m:Nat}:∀ {ns:List Nat},Rise m ns→ns.length≤m:=by
  intro ns h
  have:∀ i,i<ns.length→i+1≤ns.getD i 0:=by
    intro i
    induction i with
    | zero=>intro hi;have:=h 0 hi;omega
    | succ i ih=>
      intro hi
      have h1:=ih (by omega)
      have h2:=h (i+1) hi
      have e:(0::ns).getD (i+1) 0=ns.getD i 0:=rfl
      omega
  rcases Nat.eq_zero_or_pos ns.length with z | z
  · omega
  · have h1:=this (ns.length - 1) (by omega)
    have h2:=h (ns.length - 1) (by omega)
    omega
def sp_lifts_of (c:Cs):Sp:=fun vs H Q _=>∃ x d,vs=[.ref x]∧DrAt c.Draft H x d∧DrOk d∧∀ H' p,Same H H'→H p=none→H' p=some (.lst ((d.td.map (liftN d.ti)).map nV))→Q (.ref p) H'
abbrev s_lifts_of:Stmt:=top 49
theorem sc_lifts_of:FnScope ["draft","ties"] ["draft"] (defScope s_lifts_of):=⟨rfl,rfl,rfl,by decide +kernel,rfl,by decide +kernel,by decide +kernel⟩
theorem ok_lifts_of {f:Addr} {fd:FuncData} (F:Fun K "lifts_of" "lifts_of" s_lifts_of f fd) (T:Txt K mg c) (c_mask_of:CallF P w K mg base "mask_of" 2 ["numbers"] (sp_mask_of K)) (c_lift_by:CallF P w K mg base "lift_by" 2 ["ties","treadles"] (sp_lift_by K)):FnOk P w K mg base CX0 3 f fd ["draft"] (sp_lifts_of c):=by
  refine F.ok sc_lifts_of (fun vs H Q E h=> ?_) (fun cdv A outer s H vs Q E hr h=> ?_)
  · obtain ⟨x,d,rfl,_⟩:=h
    rfl
  · obtain ⟨x,d,rfl,⟨dx,v1,v2,v3,v4,v5,h0,h1,h2,h3,h4,h5⟩,ok,k⟩:=h
    obtain ⟨m2,a2,vs2,em2,rfl,e2,l2,b2,el2⟩:=tup_of h2
    cases em2
    obtain ⟨m3,a3,vs3,em3,rfl,e3,l3,b3,el3⟩:=tup_of h3
    cases em3
    rw [List.length_map] at l2 l3
    refine ⟨_,(pss_cons (ps_set (i:=1) sc_lifts_of.nd rfl (Or.inr rfl) (pe_comp1 (k_pit (K:=K) (k_fld (K:=K) (pv 0) rfl)) (fun _ _ _ _=>pts_nil) (fun _ _ _ _=>(pe_callF c_mask_of hr (pa_cons (pv 0) pa_nil)))))
      (pss_one (ps_ret (pe_comp1 (k_pit (K:=K) (k_fld (K:=K) (pv 0) rfl)) (fun _ _ _ _=>pts_nil) (fun _ _ _ _=>(pe_callF c_lift_by hr (pa_cons (pv 1) (pa_cons (pv 0) pa_nil)))))))),?_⟩
    walk_at "w"
    refine ⟨_,_,_,_,_,rfl,h0,T.kd_Draft.cl,T.na_Draft_ties,rfl,?_⟩
    walk_at "w"
    refine ⟨a2,rfl,⟨_,SqT.of e2⟩,fun D2 hD2=> ?_⟩
    refine ints_comp (G:=fun i=>((MM.mOf (d.ti.getD i []):Nat):Int)) (src_tup (SqT.of e2) rfl) hD2 b2 ?_ ?_
    · intro i H' R hi s kk
      have hi':i<d.ti.length:=by omega
      have r:=el2 i (by simpa using hi')
      rw [getD_map dT d.ti i .non [] hi'] at r
      obtain ⟨b,eb,hb3,hb4⟩:=dT_of r
      rw [eb]
      walk_at "w"
      have hm:=(ok.ir _ (getD_mem (y:=[]) hi')).le
      exact ⟨true,b,_,rfl,SqT.of (s _ _ hb3),fun n hn=>⟨(hm n hn).1,by have:=hm n hn;have:=ok.s2;omega⟩,fun H3 s3=>kk H3 s3⟩
    intro H1 s1 hl1
    rw [nats_L,l2,range_map MM.mOf d.ti []] at hl1
    walk_at "w"
    refine ⟨_,_,_,_,_,rfl,s1 _ _ h0,T.kd_Draft.cl,T.na_Draft_treading,rfl,?_⟩
    walk_at "w"
    refine ⟨a3,rfl,⟨_,SqT.of (s1 _ _ e3)⟩,fun D3 hD3=> ?_⟩
    refine ints_comp (G:=fun i=>((liftN d.ti (d.td.getD i []):Nat):Int)) (src_tup (SqT.of (s1 _ _ e3)) rfl) hD3 b3 ?_ ?_
    · intro i H' R hi s kk
      have hi':i<d.td.length:=by omega
      have r:=el3 i (by simpa using hi')
      rw [getD_map dT d.td i .non [] hi'] at r
      obtain ⟨b,eb,hb3,hb4⟩:=dT_of r
      rw [eb]
      walk_at "w"
      have hR:=ok.pr _ (getD_mem (y:=[]) hi')
      have hm:=hR.le
      have hln:=hR.len
      exact ⟨D2,b,true,_,_,rfl,SqL.of (s _ _ hl1),SqT.of (s _ _ (s1 _ _ hb3)),by have:=ok.t2;omega,fun n hn=>⟨(hm n hn).1,by have:=hm n hn;have:=ok.il;rw [List.length_map];omega⟩,fun H3 s3=>kk H3 s3⟩
    intro H2 s2 hl2
    rw [nats_L,l3,range_map (liftN d.ti) d.td []] at hl2
    walk_at "w"
    exact k H2 D3 (s1.trans s2) (s1.free hD3) hl2
def thrN (th:List Nat) (s:Nat):Nat:=MM.ofB (fun e=>decide (th.getD e 0=s)) th.length
theorem mOf_pl (f:Nat→Bool) (w:Nat):MM.mOf (((List.range w).filter f).map (· + 1))=MM.ofB f w:=by
  refine Nat.eq_of_testBit_eq fun i=> ?_
  rw [MM.mOf_bit,MM.ofB_bit,Bool.eq_iff_iff,List.any_eq_true]
  constructor
  · rintro ⟨n,hn,e⟩
    obtain ⟨k,hk,rfl⟩:=List.mem_map.mp hn
    obtain ⟨h1,h2⟩:=List.mem_filter.mp hk
    have e:k+1 - 1=i:=of_decide_eq_true e
    have e:k=i:=by omega
    subst e
    simp [List.mem_range.mp h1,h2]
  · intro h
    simp only [Bool.and_eq_true,decide_eq_true_eq] at h
    exact ⟨i+1,List.mem_map.mpr ⟨i,List.mem_filter.mpr ⟨List.mem_range.mpr h.1,h.2⟩,rfl⟩,by simp⟩
def sp_ends_through (K:PySem.W.Frag):Sp:=fun vs H Q _=>∃ (a:Addr) (tp:Bool) (th:List Nat) (s:Nat),vs=[.ref a,nV s]∧SqS tp K H a (th.map nV)∧th.length≤900∧∀ H',Same H H'→Q (nV (thrN th s)) H'
abbrev s_ends_through:Stmt:=top 50
theorem sc_ends_through:FnScope ["threading","shaft"] ["threading","shaft"] (defScope s_ends_through):=⟨rfl,rfl,rfl,by decide +kernel,rfl,by decide +kernel,by decide +kernel⟩
theorem ok_ends_through {f:Addr} {fd:FuncData} (F:Fun K "ends_through" "ends_through" s_ends_through f fd) (T:Txt K mg c) (c_mask_of:CallF P w K mg base "mask_of" 2 ["numbers"] (sp_mask_of K)):FnOk P w K mg base CX0 3 f fd ["threading","shaft"] (sp_ends_through K):=by
  refine F.ok sc_ends_through (fun vs H Q E h=> ?_) (fun cdv A outer s H vs Q E hr h=> ?_)
  · obtain ⟨a,tp,th,s,rfl,_⟩:=h
    rfl
  · obtain ⟨a,tp,th,s,rfl,sa,hl,k⟩:=h
    refine ⟨_,(pss_one (ps_ret (pe_callF c_mask_of hr (pa_cons (pe_comp2 (K:=K) (pi_enumS (K:=K) rfl (T.own _ (by decide)) (pa_cons (pv 0) pa_nil)) (fun _ _ _ _=>(pts_one (pt_cmpR op_eq (pv 1) (pv 2) (nomark _)))) (fun _ _ _ _=>(pv 0))) pa_nil)))),?_⟩
    walk_at "w"
    refine ⟨tp,a,rfl,⟨_,sa⟩,fun D hD=> ?_⟩
    refine ints_compF (p:=fun i=>decide (th.getD i 0=s)) (G:=fun i=>((i+1:Nat):Int)) (src_enumS sa rfl rfl) hD (by rw [List.length_map];omega) ?_ ?_ ?_
    · intro i H' R hi s2 kk
      rw [getD_nat hi]
      walk_at "w"
      rw [show decide (((th.getD i 0:Nat):Int)=(s:Nat))=decide (th.getD i 0=s) by rw [Bool.eq_iff_iff];simp only [decide_eq_true_eq];omega]
      exact kk H' (Same.refl _)
    · intro i H' R hi hp s2 kk
      walk_at "w"
      exact kk H' (Same.refl _)
    · intro H' s2 hl2
      walk_at "w"
      have e:(((List.range (th.map nV).length).filter fun i=>decide (th.getD i 0=s)).map fun i=>((i+1:Nat):Int)).map V.int=(((List.range th.length).filter fun i=>decide (th.getD i 0=s)).map (· + 1)).map nV:=by
        rw [List.length_map,List.map_map,List.map_map]
        rfl
      rw [e] at hl2
      refine ⟨false,D,_,rfl,SqL.of hl2,fun n hn=> ?_,fun H3 s3=> ?_⟩
      · obtain ⟨j,hj,rfl⟩:=List.mem_map.mp hn
        have:=List.mem_range.mp (List.mem_filter.mp hj).1
        omega
      · rw [mOf_pl]
        exact k H3 (s2.trans s3)
def sp_shaft_ends (K:PySem.W.Frag):Sp:=fun vs H Q _=>∃ (a:Addr) (tp:Bool) (th:List Nat) (s:Nat),vs=[.ref a,nV s]∧SqS tp K H a (th.map nV)∧th.length≤900∧s≤900∧∀ H' p,Same H H'→H p=none→H' p=some (.lst (((List.range s).map fun i=>thrN th (i+1)).map nV))→Q (.ref p) H'
abbrev s_shaft_ends:Stmt:=top 51
theorem sc_shaft_ends:FnScope ["threading","shafts"] ["threading","shafts"] (defScope s_shaft_ends):=⟨rfl,rfl,rfl,by decide +kernel,rfl,by decide +kernel,by decide +kernel⟩
theorem ok_shaft_ends {f:Addr} {fd:FuncData} (F:Fun K "shaft_ends" "shaft_ends" s_shaft_ends f fd) (T:Txt K mg c) (c_ends_through:CallF P w K mg base "ends_through" 3 ["threading","shaft"] (sp_ends_through K)):FnOk P w K mg base CX0 4 f fd ["threading","shafts"] (sp_shaft_ends K):=by
  refine F.ok sc_shaft_ends (fun vs H Q E h=> ?_) (fun cdv A outer s H vs Q E hr h=> ?_)
  · obtain ⟨a,tp,th,s,rfl,_⟩:=h
    rfl
  · obtain ⟨a,tp,th,s,rfl,sa,hl,hs,k⟩:=h
    refine ⟨_,(pss_one (ps_ret (pe_comp1 (pi_range2 rfl (T.own _ (by decide)) (pa_cons pe_int (pa_cons (pe_op op_add (pv 1) pe_int) pa_nil))) (fun _ _ _ _=>pts_nil) (fun _ _ _ _=>(pe_callF c_ends_through hr (pa_cons (pv 1) (pa_cons (pv 0) pa_nil))))))),?_⟩
    walk_at "w"
    refine ⟨_,_,rfl,⟨by decide,by decide,by omega,by omega⟩,fun D hD=> ?_⟩
    rw [show ((s:Int)+1 - 1).toNat=s by omega]
    refine ints_comp (G:=fun i=>((thrN th (i+1):Nat):Int)) (src_range rfl) hD (by omega) ?_ ?_
    · intro i H' R hi s2 kk
      walk_at "w"
      refine ⟨a,tp,th,i+1,by rw [show (1:Int)+(i:Nat)=((i+1:Nat):Int) by omega],sa.same s2,hl,kk⟩
    · intro H' s2 hl2
      rw [nats_L] at hl2
      exact k H' D s2 hD hl2
def rowN (cs:List Nat) (l:Nat):Nat:=MM.uOf ((MM.nOf l).map fun s=>cs.getD (s - 1) 0)
def sp_row_by (K:PySem.W.Frag):Sp:=fun vs H Q _=>∃ (a:Addr) (cs:List Nat) (l:Nat),vs=[.ref a,nV l]∧SqL K H a (cs.map nV)∧l<2 ^ cs.length∧cs.length≤900∧∀ H',Same H H'→Q (nV (rowN cs l)) H'
abbrev s_row_by:Stmt:=top 52
theorem sc_row_by:FnScope ["carried","lift"] ["carried","lift"] (defScope s_row_by):=⟨rfl,rfl,rfl,by decide +kernel,rfl,by decide +kernel,by decide +kernel⟩
theorem ok_row_by {f:Addr} {fd:FuncData} (F:Fun K "row_by" "row_by" s_row_by f fd) (T:Txt K mg c) (c_numbers_of:CallF P w K mg base "numbers_of" 3 ["mask"] sp_numbers_of) (c_union_of:CallF P w K mg base "union_of" 1 ["masks"] (sp_union_of K)):FnOk P w K mg base CX0 4 f fd ["carried","lift"] (sp_row_by K):=by
  refine F.ok sc_row_by (fun vs H Q E h=> ?_) (fun cdv A outer s H vs Q E hr h=> ?_)
  · obtain ⟨a,cs,l,rfl,_⟩:=h
    rfl
  · obtain ⟨a,cs,l,rfl,sa,hl,hc,k⟩:=h
    refine ⟨_,(pss_one (ps_ret (pe_callF c_union_of (hr.mono (by decide)) (pa_cons (pe_comp1 (k_pil (K:=K) (pe_callF c_numbers_of hr (pa_cons (pv 1) pa_nil))) (fun _ _ _ _=>pts_nil) (fun _ _ _ _=>(pe_ix (k_ixl (K:=K)) (pv 1) (pe_op op_sub (pv 0) pe_int) (fun _ _=>rfl)))) pa_nil)))),?_⟩
    walk_at "w"
    refine ⟨l,rfl,Nat.lt_of_lt_of_le hl (Nat.pow_le_pow_right (Nat.zero_lt_two) hc),fun H1 p s1 hp h1=> ?_⟩
    walk_at "w"
    refine ⟨p,rfl,⟨_,SqL.of h1⟩,fun D hD=> ?_⟩
    have hn:=MM.nOf_len hl
    refine ints_comp (G:=fun i=>((cs.getD ((MM.nOf l).getD i 0 - 1) 0:Nat):Int)) (src_list (SqL.of h1) rfl) hD (by rw [List.length_map];omega) ?_ ?_
    · intro i H' R hi s kk
      have hi':i<(MM.nOf l).length:=by simpa using hi
      obtain ⟨m1,m2⟩:=(MM.nOf_mem l _).mp (getD_mem (y:=0) hi')
      have m3:(MM.nOf l).getD i 0 - 1<cs.length:=by
        rcases Nat.lt_or_ge ((MM.nOf l).getD i 0 - 1) cs.length with z | z
        · exact z
        · rw [Nat.testBit_lt_two_pow (Nat.lt_of_lt_of_le hl (Nat.pow_le_pow_right (by decide) z))] at m2
          cases m2
      rw [getD_nat hi]
      walk_at "w"
      refine rd_ixL (SqS.same (tp:=false) (SqS.same (tp:=false) sa s1) s) (atI_natV (by omega) (by omega)) ?_
      rw [show ((((MM.nOf l).getD i 0:Nat):Int) - 1).toNat=(MM.nOf l).getD i 0 - 1 by omega]
      exact kk H' (Same.refl _)
    · intro H' s hl2
      rw [nats_L,List.length_map] at hl2
      walk_at "w"
      refine ⟨false,D,_,rfl,SqL.of hl2,fun H2 s2=> ?_⟩
      rw [range_map (fun s=>cs.getD (s - 1) 0) (MM.nOf l) 0]
      exact k H2 (s1.trans (s.trans s2))
def wovN (d:Dr):List Nat:=d.td.map fun ks=>rowN ((List.range d.sh).map fun i=>thrN d.th (i+1)) (liftN d.ti ks)
theorem liftN_bit (ti:List (List Nat)) (ks:List Nat) (i:Nat):(liftN ti ks).testBit i=ks.any fun k=>((ti.map MM.mOf).getD (k - 1) 0).testBit i:=by
  unfold liftN
  rw [MM.uOf_bit,List.any_map]
  rfl
theorem liftN_lt {d:Dr} (ok:DrOk d) (ks:List Nat):liftN d.ti ks<2 ^ d.sh:=by
  refine Nat.lt_pow_two_of_testBit _ fun i hi=> ?_
  rw [liftN_bit,List.any_eq_false]
  intro k _
  by_cases h:k - 1<d.ti.length
  · rw [getD_map MM.mOf d.ti (k - 1) 0 [] h]
    have hr:=(ok.ir _ (getD_mem (y:=[]) h)).le
    rw [Nat.testBit_lt_two_pow (Nat.lt_of_lt_of_le (MM.mOf_lt (w:=d.sh) fun n hn=>by have:=hr n hn;omega) (Nat.pow_le_pow_right (by decide) hi))]
    simp
  · rw [List.getD_eq_getElem?_getD,List.getElem?_eq_none (by simp;omega)]
    simp
theorem rowN_lt {th:List Nat} {s l:Nat} (hl:l<2 ^ s):rowN ((List.range s).map fun i=>thrN th (i+1)) l<2 ^ th.length:=by
  refine Nat.lt_pow_two_of_testBit _ fun i hi=> ?_
  unfold rowN
  rw [MM.uOf_bit,List.any_eq_false]
  intro n hn
  obtain ⟨k,hk,rfl⟩:=List.mem_map.mp hn
  by_cases h:k - 1<s
  · rw [getD_map (fun i=>thrN th (i+1)) (List.range s) (k - 1) 0 0 (by simpa using h)]
    unfold thrN
    rw [Nat.testBit_lt_two_pow (Nat.lt_of_lt_of_le (MM.ofB_lt _ _) (Nat.pow_le_pow_right (by decide) hi))]
    simp
  · rw [List.getD_eq_getElem?_getD,List.getElem?_eq_none (by simp;omega)]
    simp
theorem wov_ok {d:Dr} (ok:DrOk d):ClOk d.th.length (wovN d) where
  n1:=ok.h1
  n2:=ok.h2
  p1:=by unfold wovN;rw [List.length_map];exact ok.p1
  p2:=by unfold wovN;rw [List.length_map];exact ok.p2
  lt:=fun r hr=>by
    unfold wovN at hr
    obtain ⟨ks,hk,rfl⟩:=List.mem_map.mp hr
    exact rowN_lt (liftN_lt ok ks)
def sp_woven (c:Cs):Sp:=fun vs H Q _=>∃ x d,vs=[.ref x]∧DrAt c.Draft H x d∧DrOk d∧∀ H' y,Same H H'→H y=none→ClAt c.Cloth H' y d.th.length (wovN d)→Q (.ref y) H'
abbrev s_woven:Stmt:=top 53
theorem sc_woven:FnScope ["draft","carried"] ["draft"] (defScope s_woven):=⟨rfl,rfl,rfl,by decide +kernel,rfl,by decide +kernel,by decide +kernel⟩
theorem ok_woven {f:Addr} {fd:FuncData} (F:Fun K "woven" "woven" s_woven f fd) (T:Txt K mg c) (c_shaft_ends:CallF P w K mg base "shaft_ends" 4 ["threading","shafts"] (sp_shaft_ends K)) (d_Draft_ends:MethF P w K mg base c.Draft "ends" 1 ["self"] (sp_Draft_ends c)) (c_row_by:CallF P w K mg base "row_by" 4 ["carried","lift"] (sp_row_by K)) (c_lifts_of:CallF P w K mg base "lifts_of" 3 ["draft"] (sp_lifts_of c)) (m_Cloth:MakeE P w K mg base "Cloth" c.Cloth 4 ["self","ends","rows"] (sp_Cloth___init__ K c)):FnOk P w K mg base CX0 6 f fd ["draft"] (sp_woven c):=by
  refine F.ok sc_woven (fun vs H Q E h=> ?_) (fun cdv A outer s H vs Q E hr h=> ?_)
  · obtain ⟨x,d,rfl,_⟩:=h
    rfl
  · obtain ⟨x,d,rfl,D0,ok,k⟩:=h
    have D1:=D0
    obtain ⟨dx,v1,v2,v3,v4,v5,h0,h1,h2,h3,h4,h5⟩:=D0
    obtain ⟨a1,rfl,e1,b1⟩:=dT_of h1
    refine ⟨_,(pss_cons (ps_set (i:=1) sc_woven.nd rfl (Or.inr rfl) (pe_callF c_shaft_ends (hr.mono (by decide)) (pa_cons (k_fld (K:=K) (pv 0) rfl) (pa_cons (k_fld (K:=K) (pv 0) rfl) pa_nil))))
      (pss_one (ps_ret (pe_makeE m_Cloth hr passN (pa_cons (pe_methF0 (pv 0) d_Draft_ends (hr.mono (by decide))) (pa_cons (pe_comp1 (k_pil (K:=K) (pe_callF c_lifts_of (hr.mono (by decide)) (pa_cons (pv 0) pa_nil))) (fun _ _ _ _=>pts_nil) (fun _ _ _ _=>(pe_callF c_row_by (hr.mono (by decide)) (pa_cons (pv 1) (pa_cons (pv 0) pa_nil))))) pa_nil)))))),?_⟩
    walk_at "w"
    refine ⟨_,_,_,_,_,rfl,h0,T.kd_Draft.cl,T.na_Draft_threading,rfl,?_⟩
    walk_at "w"
    refine ⟨_,_,_,_,_,rfl,h0,T.kd_Draft.cl,T.na_Draft_shafts,rfl,?_⟩
    walk_at "w"
    refine ⟨a1,true,d.th,d.sh,rfl,SqT.of e1,by have:=ok.h2;omega,by have:=ok.s2;omega,fun H1 p1 s1 hp1 q1=> ?_⟩
    walk_at "w"
    refine ⟨_,_,_,rfl,s1 _ _ h0,rfl,?_⟩
    walk_at "w"
    refine ⟨x,d,rfl,D1.same s1,?_⟩
    walk_at "w"
    refine ⟨x,d,rfl,D1.same s1,ok,fun H2 p2 s2 hp2 q2=> ?_⟩
    walk_at "w"
    refine ⟨p2,rfl,⟨_,SqL.of q2⟩,fun D hD=> ?_⟩
    have hp2l:d.td.length≤60:=ok.p2
    refine ints_comp (G:=fun i=>((rowN ((List.range d.sh).map fun i=>thrN d.th (i+1)) (liftN d.ti (d.td.getD i [])):Nat):Int)) (src_list (SqL.of q2) rfl) hD (by simp;omega) ?_ ?_
    · intro i H' R hi s kk
      have hi':i<d.td.length:=by simpa using hi
      rw [getD_nat hi,getD_map (liftN d.ti) d.td i 0 [] hi']
      walk_at "w"
      exact ⟨p1,_,_,rfl,SqL.of (s _ _ (s2 _ _ q1)),by rw [List.length_map,List.length_range];exact liftN_lt ok _,by rw [List.length_map,List.length_range];have:=ok.s2;omega,kk⟩
    · intro H3 s3 hl3
      rw [nats_L,List.length_map,List.length_map,range_map (fun ks=>rowN ((List.range d.sh).map fun i=>thrN d.th (i+1)) (liftN d.ti ks)) d.td []] at hl3
      walk_at "w"
      refine cl_make hl3 (wov_ok ok) fun H4 y s4 hy c4=> ?_
      exact k H4 y (s1.trans (s2.trans (s3.trans s4))) (s1.free (s2.free (s3.free hy))) c4
end
end K17
open L2
namespace K17
open PySem L2 PySem.Spec PyProof.Rows
seal L2.PE L2.PT L2.PW L2.PA L2.PS L2.PSs L2.PI L2.PG L2.PTs L2.PGs
section
variable {P:Program} {w:World} {K:PySem.W.Frag} {mg:Str→Option Value} {base:Heap} {c:Cs}
structure KindF (K:PySem.W.Frag) (c:Cs) (C:Addr) (j:Nat):Prop where
  lt:j<8
  xk:HT.ExcKind K C
  k0:PySem.W.kitOne K (.ref C) (.ref c.BadRow)=some (decide (j=0))
  k1:PySem.W.kitOne K (.ref C) (.ref c.BadWord)=some (decide (j=1))
  k2:PySem.W.kitOne K (.ref C) (.ref c.TooMany)=some (decide (j=2))
  k3:PySem.W.kitOne K (.ref C) (.ref c.NotPlain)=some (decide (j=3))
  k4:PySem.W.kitOne K (.ref C) (.ref c.NotGrown)=some (decide (j=4))
  k5:PySem.W.kitOne K (.ref C) (.ref c.BadDraft)=some (decide (j=5))
  k6:PySem.W.kitOne K (.ref C) (.ref c.BadCloth)=some (decide (j=6))
  k7:PySem.W.kitOne K (.ref C) (.ref c.OutOfPlace)=some (decide (j=7))
  kv:PySem.W.kitOne K (.ref C) (.type "ValueError")=some true
def nmK (j:Nat):Str:=[("row":Str),("word":Str),("many":Str),("plain":Str),("grown":Str),("draft":Str),("cloth":Str),("place":Str),("other":Str)].getD j ""
def sp__law_kinds (K:PySem.W.Frag) (c:Cs):Sp:=fun vs H Q _=>∃ a C od j,vs=[.ref a]∧H a=some (excO a C od)∧KindF K c C j∧∀ H' l,Same H H'→H l=none→H' l=some (.lst [.str (nmK j)])→Q (.ref l) H'
theorem one_of (j:Nat) (h:j<8):((List.range 9).filter fun i=>decide (i=j)).map (fun i=>Dt.str (nmK i))=[nmK j].map Dt.str:=by
  match j,h with
  | 0,_=>rfl
  | 1,_=>rfl
  | 2,_=>rfl
  | 3,_=>rfl
  | 4,_=>rfl
  | 5,_=>rfl
  | 6,_=>rfl
  | 7,_=>rfl
abbrev s__law_kinds:Stmt:=top 56
theorem sc__law_kinds:FnScope ["_law_error","_law_kinds_here"] ["_law_error"] (defScope s__law_kinds):=⟨rfl,rfl,rfl,by decide +kernel,rfl,by decide +kernel,by decide +kernel⟩
theorem ok__law_kinds {f:Addr} {fd:FuncData} (F:Fun K "_law_kinds" "_law_kinds" s__law_kinds f fd) (T:Txt K mg c):FnOk P w K mg base CX0 1 f fd ["_law_error"] (sp__law_kinds K c):=by
  refine F.ok sc__law_kinds (fun vs H Q E h=> ?_) (fun cdv A outer s H vs Q E hr h=> ?_)
  · obtain ⟨a,C,od,j,rfl,_⟩:=h
    rfl
  · obtain ⟨a,C,od,j,rfl,ha,F1,k⟩:=h
    refine ⟨_,(pss_cons (ps_set (i:=1) sc__law_kinds.nd rfl (Or.inl rfl) (pe_lst (pa_cons (pe_tup (pa_cons pe_str (pa_cons (pe_callB (k_isinE (K:=K)) rfl (T.own _ (by decide)) boot_isinstance (pa_cons (pv 0) (pa_cons (pe_gC T.g_BadRow) pa_nil))) pa_nil))) (pa_cons (pe_tup (pa_cons pe_str (pa_cons (pe_callB (k_isinE (K:=K)) rfl (T.own _ (by decide)) boot_isinstance (pa_cons (pv 0) (pa_cons (pe_gC T.g_BadWord) pa_nil))) pa_nil))) pa_nil))))
      (pss_cons (ps_set (i:=1) sc__law_kinds.nd rfl (Or.inl rfl) (pe_op (k_cat (K:=K)) (pv 1) (pe_lst (pa_cons (pe_tup (pa_cons pe_str (pa_cons (pe_callB (k_isinE (K:=K)) rfl (T.own _ (by decide)) boot_isinstance (pa_cons (pv 0) (pa_cons (pe_gC T.g_TooMany) pa_nil))) pa_nil))) (pa_cons (pe_tup (pa_cons pe_str (pa_cons (pe_callB (k_isinE (K:=K)) rfl (T.own _ (by decide)) boot_isinstance (pa_cons (pv 0) (pa_cons (pe_gC T.g_NotPlain) pa_nil))) pa_nil))) pa_nil)))))
      (pss_cons (ps_set (i:=1) sc__law_kinds.nd rfl (Or.inl rfl) (pe_op (k_cat (K:=K)) (pv 1) (pe_lst (pa_cons (pe_tup (pa_cons pe_str (pa_cons (pe_callB (k_isinE (K:=K)) rfl (T.own _ (by decide)) boot_isinstance (pa_cons (pv 0) (pa_cons (pe_gC T.g_NotGrown) pa_nil))) pa_nil))) (pa_cons (pe_tup (pa_cons pe_str (pa_cons (pe_callB (k_isinE (K:=K)) rfl (T.own _ (by decide)) boot_isinstance (pa_cons (pv 0) (pa_cons (pe_gC T.g_BadDraft) pa_nil))) pa_nil))) pa_nil)))))
      (pss_cons (ps_set (i:=1) sc__law_kinds.nd rfl (Or.inl rfl) (pe_op (k_cat (K:=K)) (pv 1) (pe_lst (pa_cons (pe_tup (pa_cons pe_str (pa_cons (pe_callB (k_isinE (K:=K)) rfl (T.own _ (by decide)) boot_isinstance (pa_cons (pv 0) (pa_cons (pe_gC T.g_BadCloth) pa_nil))) pa_nil))) (pa_cons (pe_tup (pa_cons pe_str (pa_cons (pe_callB (k_isinE (K:=K)) rfl (T.own _ (by decide)) boot_isinstance (pa_cons (pv 0) (pa_cons (pe_gC T.g_OutOfPlace) pa_nil))) pa_nil))) pa_nil)))))
      (pss_cons (ps_set (i:=1) sc__law_kinds.nd rfl (Or.inl rfl) (pe_op (k_cat (K:=K)) (pv 1) (pe_lst (pa_cons (pe_tup (pa_cons pe_str (pa_cons (pe_not (pe_callB (k_isinE (K:=K)) rfl (T.own _ (by decide)) boot_isinstance (pa_cons (pv 0) (pa_cons (pe_ty rfl (T.own _ (by decide)) boot_ValueError) pa_nil)))) pa_nil))) pa_nil))))
      (pss_one (ps_ret (pe_comp2 (K:=K) (k_pil (K:=K) (pv 1)) (fun _ _ _ _=>(pts_one (pt_val (pv 1)))) (fun _ _ _ _=>(pv 0)))))))))),?_⟩
    walk_at "w"
    refine rd_isinE ((Same.refl H) _ _ ha) F1.xk F1.k0 ?_
    walk_at "w"
    intro t_row ht_row
    have z1:=same_new (o:=HO.tup [V.str "row",V.bl (decide (j=0))]) ht_row
    have g_t_row:upd H t_row (HO.tup [V.str "row",V.bl (decide (j=0))]) t_row=_:=upd_same
    generalize upd H t_row (HO.tup [V.str "row",V.bl (decide (j=0))])=H1 at z1 g_t_row ⊢
    have y1:Same H H1:=(Same.refl H).trans z1
    walk_at "w"
    refine rd_isinE (y1 _ _ ha) F1.xk F1.k1 ?_
    walk_at "w"
    intro t_word ht_word
    have z2:=same_new (o:=HO.tup [V.str "word",V.bl (decide (j=1))]) ht_word
    have g_t_word:upd H1 t_word (HO.tup [V.str "word",V.bl (decide (j=1))]) t_word=_:=upd_same
    generalize upd H1 t_word (HO.tup [V.str "word",V.bl (decide (j=1))])=H2 at z2 g_t_word ⊢
    have y2:Same H H2:=y1.trans z2
    walk_at "w"
    intro l0 hl0
    have z3:=same_new (o:=HO.lst [V.ref t_row,V.ref t_word]) hl0
    have g_l0:upd H2 l0 (HO.lst [V.ref t_row,V.ref t_word]) l0=_:=upd_same
    generalize upd H2 l0 (HO.lst [V.ref t_row,V.ref t_word])=H3 at z3 g_l0 ⊢
    have y3:Same H H3:=y2.trans z3
    walk_at "w"
    refine rd_isinE (y3 _ _ ha) F1.xk F1.k2 ?_
    walk_at "w"
    intro t_many ht_many
    have z4:=same_new (o:=HO.tup [V.str "many",V.bl (decide (j=2))]) ht_many
    have g_t_many:upd H3 t_many (HO.tup [V.str "many",V.bl (decide (j=2))]) t_many=_:=upd_same
    generalize upd H3 t_many (HO.tup [V.str "many",V.bl (decide (j=2))])=H4 at z4 g_t_many ⊢
    have y4:Same H H4:=y3.trans z4
    walk_at "w"
    refine rd_isinE (y4 _ _ ha) F1.xk F1.k3 ?_
    walk_at "w"
    intro t_plain ht_plain
    have z5:=same_new (o:=HO.tup [V.str "plain",V.bl (decide (j=3))]) ht_plain
    have g_t_plain:upd H4 t_plain (HO.tup [V.str "plain",V.bl (decide (j=3))]) t_plain=_:=upd_same
    generalize upd H4 t_plain (HO.tup [V.str "plain",V.bl (decide (j=3))])=H5 at z5 g_t_plain ⊢
    have y5:Same H H5:=y4.trans z5
    walk_at "w"
    intro l1 hl1
    have z6:=same_new (o:=HO.lst [V.ref t_many,V.ref t_plain]) hl1
    have g_l1:upd H5 l1 (HO.lst [V.ref t_many,V.ref t_plain]) l1=_:=upd_same
    generalize upd H5 l1 (HO.lst [V.ref t_many,V.ref t_plain])=H6 at z6 g_l1 ⊢
    have y6:Same H H6:=y5.trans z6
    walk_at "w"
    refine rd_cat (SqL.of (z6 _ _ (z5 _ _ (z4 _ _ g_l0)))) (SqL.of g_l1) (by simp) fun m1 hm1=> ?_
    have z7:=same_new (o:=HO.lst ([V.ref t_row,V.ref t_word]++[V.ref t_many,V.ref t_plain])) hm1
    have g_m1:upd H6 m1 (HO.lst ([V.ref t_row,V.ref t_word]++[V.ref t_many,V.ref t_plain])) m1=some (.lst [V.ref t_row,V.ref t_word,V.ref t_many,V.ref t_plain]):=upd_same
    generalize upd H6 m1 (HO.lst ([V.ref t_row,V.ref t_word]++[V.ref t_many,V.ref t_plain]))=H7 at z7 g_m1 ⊢
    have y7:Same H H7:=y6.trans z7
    walk_at "w"
    refine rd_isinE (y7 _ _ ha) F1.xk F1.k4 ?_
    walk_at "w"
    intro t_grown ht_grown
    have z8:=same_new (o:=HO.tup [V.str "grown",V.bl (decide (j=4))]) ht_grown
    have g_t_grown:upd H7 t_grown (HO.tup [V.str "grown",V.bl (decide (j=4))]) t_grown=_:=upd_same
    generalize upd H7 t_grown (HO.tup [V.str "grown",V.bl (decide (j=4))])=H8 at z8 g_t_grown ⊢
    have y8:Same H H8:=y7.trans z8
    walk_at "w"
    refine rd_isinE (y8 _ _ ha) F1.xk F1.k5 ?_
    walk_at "w"
    intro t_draft ht_draft
    have z9:=same_new (o:=HO.tup [V.str "draft",V.bl (decide (j=5))]) ht_draft
    have g_t_draft:upd H8 t_draft (HO.tup [V.str "draft",V.bl (decide (j=5))]) t_draft=_:=upd_same
    generalize upd H8 t_draft (HO.tup [V.str "draft",V.bl (decide (j=5))])=H9 at z9 g_t_draft ⊢
    have y9:Same H H9:=y8.trans z9
    walk_at "w"
    intro l2 hl2
    have z10:=same_new (o:=HO.lst [V.ref t_grown,V.ref t_draft]) hl2
    have g_l2:upd H9 l2 (HO.lst [V.ref t_grown,V.ref t_draft]) l2=_:=upd_same
    generalize upd H9 l2 (HO.lst [V.ref t_grown,V.ref t_draft])=H10 at z10 g_l2 ⊢
    have y10:Same H H10:=y9.trans z10
    walk_at "w"
    refine rd_cat (SqL.of (z10 _ _ (z9 _ _ (z8 _ _ g_m1)))) (SqL.of g_l2) (by simp) fun m2 hm2=> ?_
    have z11:=same_new (o:=HO.lst ([V.ref t_row,V.ref t_word,V.ref t_many,V.ref t_plain]++[V.ref t_grown,V.ref t_draft])) hm2
    have g_m2:upd H10 m2 (HO.lst ([V.ref t_row,V.ref t_word,V.ref t_many,V.ref t_plain]++[V.ref t_grown,V.ref t_draft])) m2=some (.lst [V.ref t_row,V.ref t_word,V.ref t_many,V.ref t_plain,V.ref t_grown,V.ref t_draft]):=upd_same
    generalize upd H10 m2 (HO.lst ([V.ref t_row,V.ref t_word,V.ref t_many,V.ref t_plain]++[V.ref t_grown,V.ref t_draft]))=H11 at z11 g_m2 ⊢
    have y11:Same H H11:=y10.trans z11
    walk_at "w"
    refine rd_isinE (y11 _ _ ha) F1.xk F1.k6 ?_
    walk_at "w"
    intro t_cloth ht_cloth
    have z12:=same_new (o:=HO.tup [V.str "cloth",V.bl (decide (j=6))]) ht_cloth
    have g_t_cloth:upd H11 t_cloth (HO.tup [V.str "cloth",V.bl (decide (j=6))]) t_cloth=_:=upd_same
    generalize upd H11 t_cloth (HO.tup [V.str "cloth",V.bl (decide (j=6))])=H12 at z12 g_t_cloth ⊢
    have y12:Same H H12:=y11.trans z12
    walk_at "w"
    refine rd_isinE (y12 _ _ ha) F1.xk F1.k7 ?_
    walk_at "w"
    intro t_place ht_place
    have z13:=same_new (o:=HO.tup [V.str "place",V.bl (decide (j=7))]) ht_place
    have g_t_place:upd H12 t_place (HO.tup [V.str "place",V.bl (decide (j=7))]) t_place=_:=upd_same
    generalize upd H12 t_place (HO.tup [V.str "place",V.bl (decide (j=7))])=H13 at z13 g_t_place ⊢
    have y13:Same H H13:=y12.trans z13
    walk_at "w"
    intro l3 hl3
    have z14:=same_new (o:=HO.lst [V.ref t_cloth,V.ref t_place]) hl3
    have g_l3:upd H13 l3 (HO.lst [V.ref t_cloth,V.ref t_place]) l3=_:=upd_same
    generalize upd H13 l3 (HO.lst [V.ref t_cloth,V.ref t_place])=H14 at z14 g_l3 ⊢
    have y14:Same H H14:=y13.trans z14
    walk_at "w"
    refine rd_cat (SqL.of (z14 _ _ (z13 _ _ (z12 _ _ g_m2)))) (SqL.of g_l3) (by simp) fun m3 hm3=> ?_
    have z15:=same_new (o:=HO.lst ([V.ref t_row,V.ref t_word,V.ref t_many,V.ref t_plain,V.ref t_grown,V.ref t_draft]++[V.ref t_cloth,V.ref t_place])) hm3
    have g_m3:upd H14 m3 (HO.lst ([V.ref t_row,V.ref t_word,V.ref t_many,V.ref t_plain,V.ref t_grown,V.ref t_draft]++[V.ref t_cloth,V.ref t_place])) m3=some (.lst [V.ref t_row,V.ref t_word,V.ref t_many,V.ref t_plain,V.ref t_grown,V.ref t_draft,V.ref t_cloth,V.ref t_place]):=upd_same
    generalize upd H14 m3 (HO.lst ([V.ref t_row,V.ref t_word,V.ref t_many,V.ref t_plain,V.ref t_grown,V.ref t_draft]++[V.ref t_cloth,V.ref t_place]))=H15 at z15 g_m3 ⊢
    have y15:Same H H15:=y14.trans z15
    walk_at "w"
    refine rd_isinET (y15 _ _ ha) F1.xk F1.kv ?_
    walk_at "w"
    intro t_other ht_other
    have z16:=same_new (o:=HO.tup [V.str "other",V.bl (!true)]) ht_other
    have g_t_other:upd H15 t_other (HO.tup [V.str "other",V.bl (!true)]) t_other=some (.tup [V.str "other",V.bl false]):=upd_same
    generalize upd H15 t_other (HO.tup [V.str "other",V.bl (!true)])=H16 at z16 g_t_other ⊢
    have y16:Same H H16:=y15.trans z16
    walk_at "w"
    intro l4 hl4
    have z17:=same_new (o:=HO.lst [V.ref t_other]) hl4
    have g_l4:upd H16 l4 (HO.lst [V.ref t_other]) l4=_:=upd_same
    generalize upd H16 l4 (HO.lst [V.ref t_other])=H17 at z17 g_l4 ⊢
    have y17:Same H H17:=y16.trans z17
    walk_at "w"
    refine rd_cat (SqL.of (z17 _ _ (z16 _ _ g_m3))) (SqL.of g_l4) (by simp) fun m4 hm4=> ?_
    have z18:=same_new (o:=HO.lst ([V.ref t_row,V.ref t_word,V.ref t_many,V.ref t_plain,V.ref t_grown,V.ref t_draft,V.ref t_cloth,V.ref t_place]++[V.ref t_other])) hm4
    have g_m4:upd H17 m4 (HO.lst ([V.ref t_row,V.ref t_word,V.ref t_many,V.ref t_plain,V.ref t_grown,V.ref t_draft,V.ref t_cloth,V.ref t_place]++[V.ref t_other])) m4=some (.lst [V.ref t_row,V.ref t_word,V.ref t_many,V.ref t_plain,V.ref t_grown,V.ref t_draft,V.ref t_cloth,V.ref t_place,V.ref t_other]):=upd_same
    generalize upd H17 m4 (HO.lst ([V.ref t_row,V.ref t_word,V.ref t_many,V.ref t_plain,V.ref t_grown,V.ref t_draft,V.ref t_cloth,V.ref t_place]++[V.ref t_other]))=H18 at z18 g_m4 ⊢
    have y18:Same H H18:=y17.trans z18
    walk_at "w"
    refine ⟨m4,rfl,⟨_,SqL.of g_m4⟩,fun D hD=> ?_⟩
    have pr:∀ i,i<9→∃ b,[V.ref t_row,V.ref t_word,V.ref t_many,V.ref t_plain,V.ref t_grown,V.ref t_draft,V.ref t_cloth,V.ref t_place,V.ref t_other].getD i V.non= .ref b∧H18 b=some (.tup [([(V.str "row",V.bl (decide (j=0))),(V.str "word",V.bl (decide (j=1))),(V.str "many",V.bl (decide (j=2))),(V.str "plain",V.bl (decide (j=3))),(V.str "grown",V.bl (decide (j=4))),(V.str "draft",V.bl (decide (j=5))),(V.str "cloth",V.bl (decide (j=6))),(V.str "place",V.bl (decide (j=7))),(V.str "other",V.bl false)].getD i (V.non,V.non)).1,([(V.str "row",V.bl (decide (j=0))),(V.str "word",V.bl (decide (j=1))),(V.str "many",V.bl (decide (j=2))),(V.str "plain",V.bl (decide (j=3))),(V.str "grown",V.bl (decide (j=4))),(V.str "draft",V.bl (decide (j=5))),(V.str "cloth",V.bl (decide (j=6))),(V.str "place",V.bl (decide (j=7))),(V.str "other",V.bl false)].getD i (V.non,V.non)).2]):=by
      intro i hi
      match i,hi with
      | 0,_=>exact ⟨t_row,rfl,(z18 _ _ (z17 _ _ (z16 _ _ (z15 _ _ (z14 _ _ (z13 _ _ (z12 _ _ (z11 _ _ (z10 _ _ (z9 _ _ (z8 _ _ (z7 _ _ (z6 _ _ (z5 _ _ (z4 _ _ (z3 _ _ (z2 _ _ g_t_row)))))))))))))))))⟩
      | 1,_=>exact ⟨t_word,rfl,(z18 _ _ (z17 _ _ (z16 _ _ (z15 _ _ (z14 _ _ (z13 _ _ (z12 _ _ (z11 _ _ (z10 _ _ (z9 _ _ (z8 _ _ (z7 _ _ (z6 _ _ (z5 _ _ (z4 _ _ (z3 _ _ g_t_word))))))))))))))))⟩
      | 2,_=>exact ⟨t_many,rfl,(z18 _ _ (z17 _ _ (z16 _ _ (z15 _ _ (z14 _ _ (z13 _ _ (z12 _ _ (z11 _ _ (z10 _ _ (z9 _ _ (z8 _ _ (z7 _ _ (z6 _ _ (z5 _ _ g_t_many))))))))))))))⟩
      | 3,_=>exact ⟨t_plain,rfl,(z18 _ _ (z17 _ _ (z16 _ _ (z15 _ _ (z14 _ _ (z13 _ _ (z12 _ _ (z11 _ _ (z10 _ _ (z9 _ _ (z8 _ _ (z7 _ _ (z6 _ _ g_t_plain)))))))))))))⟩
      | 4,_=>exact ⟨t_grown,rfl,(z18 _ _ (z17 _ _ (z16 _ _ (z15 _ _ (z14 _ _ (z13 _ _ (z12 _ _ (z11 _ _ (z10 _ _ (z9 _ _ g_t_grown))))))))))⟩
      | 5,_=>exact ⟨t_draft,rfl,(z18 _ _ (z17 _ _ (z16 _ _ (z15 _ _ (z14 _ _ (z13 _ _ (z12 _ _ (z11 _ _ (z10 _ _ g_t_draft)))))))))⟩
      | 6,_=>exact ⟨t_cloth,rfl,(z18 _ _ (z17 _ _ (z16 _ _ (z15 _ _ (z14 _ _ (z13 _ _ g_t_cloth))))))⟩
      | 7,_=>exact ⟨t_place,rfl,(z18 _ _ (z17 _ _ (z16 _ _ (z15 _ _ (z14 _ _ g_t_place)))))⟩
      | 8,_=>exact ⟨t_other,rfl,(z18 _ _ (z17 _ _ g_t_other))⟩
    have lt:=F1.lt
    refine comp_data (m:=0) (p:=fun i=>decide (i=j)) (G:=fun i=> .str (nmK i)) (src_pairs (ps:=[(V.str "row",V.bl (decide (j=0))),(V.str "word",V.bl (decide (j=1))),(V.str "many",V.bl (decide (j=2))),(V.str "plain",V.bl (decide (j=3))),(V.str "grown",V.bl (decide (j=4))),(V.str "draft",V.bl (decide (j=5))),(V.str "cloth",V.bl (decide (j=6))),(V.str "place",V.bl (decide (j=7))),(V.str "other",V.bl false)]) (SqL.of g_m4) pr rfl rfl) hD (by simp) ?_ ?_ ?_
    · intro i H' R hi s kk
      have hi9:i<9:=hi
      match i,hi9 with
      | 0,_=>walk_at "w";exact ⟨_,rfl,by have e:decide (j=0)=decide (0=j):=decide_eq_decide.mpr eq_comm;rw [e];exact kk H' (Same.refl _)⟩
      | 1,_=>walk_at "w";exact ⟨_,rfl,by have e:decide (j=1)=decide (1=j):=decide_eq_decide.mpr eq_comm;rw [e];exact kk H' (Same.refl _)⟩
      | 2,_=>walk_at "w";exact ⟨_,rfl,by have e:decide (j=2)=decide (2=j):=decide_eq_decide.mpr eq_comm;rw [e];exact kk H' (Same.refl _)⟩
      | 3,_=>walk_at "w";exact ⟨_,rfl,by have e:decide (j=3)=decide (3=j):=decide_eq_decide.mpr eq_comm;rw [e];exact kk H' (Same.refl _)⟩
      | 4,_=>walk_at "w";exact ⟨_,rfl,by have e:decide (j=4)=decide (4=j):=decide_eq_decide.mpr eq_comm;rw [e];exact kk H' (Same.refl _)⟩
      | 5,_=>walk_at "w";exact ⟨_,rfl,by have e:decide (j=5)=decide (5=j):=decide_eq_decide.mpr eq_comm;rw [e];exact kk H' (Same.refl _)⟩
      | 6,_=>walk_at "w";exact ⟨_,rfl,by have e:decide (j=6)=decide (6=j):=decide_eq_decide.mpr eq_comm;rw [e];exact kk H' (Same.refl _)⟩
      | 7,_=>walk_at "w";exact ⟨_,rfl,by have e:decide (j=7)=decide (7=j):=decide_eq_decide.mpr eq_comm;rw [e];exact kk H' (Same.refl _)⟩
      | 8,_=>walk_at "w";exact ⟨_,rfl,by have e:false=decide (8=j):=(decide_eq_false (by omega)).symm;rw [e];exact kk H' (Same.refl _)⟩
    · intro i H' R hi hp s kk
      have hi9:i<9:=hi
      match i,hi9 with
      | 0,_=>walk_at "w";exact kk H' _ (Same.refl _) (.str _)
      | 1,_=>walk_at "w";exact kk H' _ (Same.refl _) (.str _)
      | 2,_=>walk_at "w";exact kk H' _ (Same.refl _) (.str _)
      | 3,_=>walk_at "w";exact kk H' _ (Same.refl _) (.str _)
      | 4,_=>walk_at "w";exact kk H' _ (Same.refl _) (.str _)
      | 5,_=>walk_at "w";exact kk H' _ (Same.refl _) (.str _)
      | 6,_=>walk_at "w";exact kk H' _ (Same.refl _) (.str _)
      | 7,_=>walk_at "w";exact kk H' _ (Same.refl _) (.str _)
      | 8,_=>walk_at "w";exact kk H' _ (Same.refl _) (.str _)
    · intro H' ys s hl r
      have e9:=one_of j lt
      have r:Rp _ _ _ _ (.lst (((List.range 9).filter fun i=>decide (i=j)).map (fun i=>Dt.str (nmK i)))):=r
      rw [e9] at r
      obtain ⟨b,eb,hb,_⟩:=dS_of (zs:=[nmK j]) r
      cases eb
      exact k H' D (y18.trans s) (y18.free hD) hb
end
end K17
open L2
namespace K17
open PySem L2 PySem.Spec PyProof.Rows
seal L2.PE L2.PT L2.PW L2.PA L2.PS L2.PSs L2.PI L2.PG L2.PTs L2.PGs
section
variable {P:Program} {w:World} {K:PySem.W.Frag} {mg:Str→Option Value} {base:Heap} {c:Cs}
def mixV (x k:Int):Int:=(x%1000000007+7919*k+13)*(x%1000000007+7919*k+13)%1000000007*48271%2147483647
theorem mix0 (x k:Int):0≤mixV x k:=Int.emod_nonneg _ (by decide)
theorem mix1 (x k:Int):mixV x k<2147483647:=Int.emod_lt_of_pos _ (by decide)
def sp__law_mixed:Sp:=fun vs H Q _=>∃ x k:Int,vs=[.int x, .int k]∧(0≤k∧k≤1000)∧Q (.int (mixV x k)) H
abbrev s__law_mixed:Stmt:=top 55
theorem sc__law_mixed:FnScope ["_law_cell","_law_k"] ["_law_cell","_law_k"] (defScope s__law_mixed):=⟨rfl,rfl,rfl,by decide +kernel,rfl,by decide +kernel,by decide +kernel⟩
theorem ok__law_mixed {f:Addr} {fd:FuncData} (F:Fun K "_law_mixed" "_law_mixed" s__law_mixed f fd) (T:Txt K mg c):FnOk P w K mg base CX0 1 f fd ["_law_cell","_law_k"] sp__law_mixed:=by
  refine F.ok sc__law_mixed (fun vs H Q E h=> ?_) (fun cdv A outer s H vs Q E hr h=> ?_)
  · obtain ⟨x,k,rfl,_⟩:=h
    rfl
  · obtain ⟨x,k,rfl,hk,q⟩:=h
    refine ⟨_,(pss_cons (ps_set (i:=0) sc__law_mixed.nd rfl (Or.inl rfl) (pe_op op_add (pe_op op_add (pe_op op_mod (pv 0) pe_int) (pe_op op_mul pe_int (pv 1))) pe_int))
      (pss_one (ps_ret (pe_op op_mod (pe_op op_mul (pe_op op_mod (pe_op op_mul (pv 0) (pv 0)) pe_int) pe_int) pe_int)))),?_⟩
    have b1:=Int.emod_nonneg x (show (1000000007:Int)≠0 by decide)
    have b2:=Int.emod_lt_of_pos x (show (0:Int)<1000000007 by decide)
    walk_at "w"
    refine rd_rI (by decide) ?_
    walk_at "w"
    refine rd_rI (.inl ⟨by decide,by decide⟩) ?_
    walk_at "w"
    refine rd_rI (.inl ⟨?_,?_⟩) ?_
    · show -(2 ^ 64)<x%1000000007+7919*k+13
      omega
    · show x%1000000007+7919*k+13<2 ^ 64
      omega
    walk_at "w"
    refine rd_rI (by decide) ?_
    walk_at "w"
    refine rd_rI (.inr ⟨by decide,by decide⟩) ?_
    walk_at "w"
    refine rd_rI (by decide) ?_
    exact q
def sp__law_cells (K:PySem.W.Frag):Sp:=fun vs H Q _=>∃ (a:Addr) (ns:List Int) (f:Int),vs=[.ref a, .int f]∧SqL K H a (ns.map V.int)∧ns.length≤63∧0≤f∧f≤1∧∀ H' p (ms:List Int),Same H H'→H p=none→H' p=some (.lst (ms.map V.int))→1≤ms.length→ms.length≤60∧ms.length≤ns.length+1→Q (.ref p) H'
theorem rs_two {f:Int} {n:Nat} {i:Nat} (f0:0≤f) (h:i<(Builtin.Range.rangeSize f (n:Nat) 2).toNat):f+i*2<n:=by
  unfold Builtin.Range.rangeSize at h
  rw [if_pos (by decide)] at h
  split at h
  · omega
  · simp at h
abbrev s__law_cells:Stmt:=top 58
theorem sc__law_cells:FnScope ["_law_script","_law_first","_law_found"] ["_law_script","_law_first"] (defScope s__law_cells):=⟨rfl,rfl,rfl,by decide +kernel,rfl,by decide +kernel,by decide +kernel⟩
theorem ok__law_cells {f:Addr} {fd:FuncData} (F:Fun K "_law_cells" "_law_cells" s__law_cells f fd) (T:Txt K mg c):FnOk P w K mg base CX0 1 f fd ["_law_script","_law_first"] (sp__law_cells K):=by
  refine F.ok sc__law_cells (fun vs H Q E h=> ?_) (fun cdv A outer s H vs Q E hr h=> ?_)
  · obtain ⟨a,ns,f,rfl,_⟩:=h
    rfl
  · obtain ⟨a,ns,f,rfl,sa,hn,f0,f1,k⟩:=h
    have hu:=hr.units0
    refine ⟨_,(pss_cons (ps_set (i:=2) sc__law_cells.nd rfl (Or.inl rfl) (pe_slice (k_sll (K:=K)) (pe_comp1 (pi_range3 rfl (T.own _ (by decide)) (pa_cons (pv 1) (pa_cons (pe_callB (k_len (K:=K)) rfl (T.own _ (by decide)) boot_len (pa_cons (pv 0) pa_nil)) (pa_cons pe_int pa_nil)))) (fun _ _ _ _=>pts_nil) (fun _ _ _ _=>(pe_ix (k_ixl (K:=K)) (pv 1) (pv 0) (fun _ _=>rfl)))) po_none (po_some pe_int)))
      (pss_one (ps_ret (pe_op (k_cat (K:=K)) (pv 2) (pe_op op_rep (pe_lst (pa_cons (pv 1) pa_nil)) (pe_callTy k_intB rfl (T.own _ (by decide)) boot_int (pa_cons (pe_cmpR (k_eql hu (K:=K)) (pv 2) (pe_lst pa_nil) (nomark _)) pa_nil))))))),?_⟩
    walk_at "w"
    refine rd_lenL sa ?_
    walk_at "w"
    refine ⟨_,_,_,rfl,⟨by omega,by omega⟩,⟨by omega,by rw [List.length_map];omega⟩,⟨by decide,by decide⟩,by decide,fun D hD=> ?_⟩
    rw [List.length_map]
    have hb:∀ i:Nat,i<(Builtin.Range.rangeSize f (ns.length:Nat) 2).toNat→f+i*2<ns.length:=fun i hi=>rs_two f0 hi
    have hsz:(Builtin.Range.rangeSize f (ns.length:Nat) 2).toNat≤63:=by
      have:=rs_le f (ns.length:Nat) 2 (by decide)
      omega
    generalize (Builtin.Range.rangeSize f (ns.length:Nat) 2).toNat=n at hb hsz ⊢
    refine ints_comp (G:=fun i=>ns.getD (f+i*2).toNat 0) (src_rangeC rfl) hD (by omega) ?_ ?_
    · intro i H' R hi s kk
      have:=hb i hi
      walk_at "w"
      refine rd_ixL (SqS.same (tp:=false) sa s) (atI_int (by omega) (by omega)) ?_
      exact kk H' (Same.refl _)
    intro H1 s1 hl1
    have hn1:n≤ns.length:=by
      rcases Nat.eq_zero_or_pos n with z | z
      · omega
      · have:=hb (n - 1) (by omega)
        omega
    have lms:((List.range n).map fun i:Nat=>ns.getD (f+i*2).toNat 0).length≤ns.length:=by simpa using hn1
    generalize (List.range n).map (fun i:Nat=>ns.getD (f+i*2).toNat 0)=ms at hl1 lms
    walk_at "w"
    refine rd_slL (SqL.of hl1) fun q hq=> ?_
    rw [cut_to (by decide), ← List.map_take]
    have s2:=same_new (o:=HO.lst ((ms.take (60:Int).toNat).map V.int)) hq
    have h2:upd H1 q (HO.lst ((ms.take (60:Int).toNat).map V.int)) q=_:=upd_same
    have s12:=s1.trans s2
    generalize upd H1 q (HO.lst ((ms.take (60:Int).toNat).map V.int))=H2 at s12 h2 ⊢
    have hms:(ms.take (60:Int).toNat).length≤60∧(ms.take (60:Int).toNat).length≤ns.length:=by rw [List.length_take];exact ⟨Nat.min_le_left _ _,Nat.le_trans (Nat.min_le_right _ _) lms⟩
    generalize ms.take (60:Int).toNat=ts at h2 hms ⊢
    walk_at "w"
    intro p hp
    walk_at "w"
    have s3:=same_new (o:=HO.lst [V.int f]) hp
    have h3:upd H2 p (HO.lst [V.int f]) p=some (.lst [V.int f]):=upd_same
    have s13:=s12.trans s3
    replace h2:=s3 _ _ h2
    generalize upd H2 p (HO.lst [V.int f])=H3 at s13 h2 h3 ⊢
    intro p4 hp4
    walk_at "w"
    have s4:=same_new (o:=HO.lst []) hp4
    have s14:=s13.trans s4
    replace h2:=s4 _ _ h2
    replace h3:=s4 _ _ h3
    have h4:upd H3 p4 (HO.lst []) p4=_:=upd_same
    generalize upd H3 p4 (HO.lst [])=H4 at s14 h2 h3 h4 ⊢
    refine rd_eqLI (bs:=[]) (SqL.of h2) (SqL.of h4) ?_
    walk_at "w"
    refine ⟨_,rfl,?_⟩
    have hb2:(0:Int)≤(if decide (ts=[])=true then 1 else 0)∧(if decide (ts=[])=true then (1:Int) else 0)≤1:=by split <;> decide
    refine rd_rep h3 hb2.1 (by omega) (by simp) fun p5 hp5=> ?_
    walk_at "w"
    have e5:(List.replicate (if decide (ts=[])=true then (1:Int) else 0).toNat [V.int f]).flatten=(if ts=[] then [f] else []).map V.int:=by
      by_cases z:ts=[]
      · simp [z]
      · simp [z]
    rw [e5]
    have s5:=same_new (o:=HO.lst ((if ts=[] then [f] else []).map V.int)) hp5
    have h5:upd H4 p5 (HO.lst ((if ts=[] then [f] else []).map V.int)) p5=_:=upd_same
    replace h2:=s5 _ _ h2
    have s15:=s14.trans s5
    generalize upd H4 p5 (HO.lst ((if ts=[] then [f] else []).map V.int))=H5 at s15 h2 h5 ⊢
    have hlen:1≤(ts++(if ts=[] then [f] else [])).length∧(ts++(if ts=[] then [f] else [])).length≤60∧(ts++(if ts=[] then [f] else [])).length≤ns.length+1:=by
      by_cases z:ts=[]
      · simp [z]
      · have:1≤ts.length:=by
          cases ts with
          | nil=>exact absurd rfl z
          | cons _ _=>simp
        simp [z]
        omega
    refine rd_cat (SqL.of h2) (SqL.of h5) (by have:=hlen.2.1;rw [List.length_append] at this;simp only [List.length_map];omega) fun p6 hp6=> ?_
    rw [← List.map_append]
    exact k _ p6 _ (s15.trans (same_new hp6)) (s15.free hp6) upd_same hlen.1 hlen.2
def numsM (m w:Nat):List Nat:=((List.range w).filter m.testBit).map (· + 1)
theorem rise_filter (p:Nat→Bool):∀ w,Rise w (((List.range w).filter p).map (· + 1)):=by
  intro w
  have key:∀ w,(∀ n∈((List.range w).filter p).map (· + 1),1≤n∧n≤w)∧(((List.range w).filter p).map (· + 1)).Pairwise (· < ·):=by
    intro w
    refine ⟨fun n hn=> ?_,?_⟩
    · obtain ⟨k,hk,rfl⟩:=List.mem_map.mp hn
      have:=List.mem_range.mp (List.mem_filter.mp hk).1
      omega
    · rw [List.pairwise_map]
      exact ((List.pairwise_lt_range).filter p).imp (fun h=>Nat.succ_lt_succ h)
  obtain ⟨k1,k2⟩:=key w
  generalize ((List.range w).filter p).map (· + 1)=ns at k1 k2
  intro i hi
  have e:ns.getD i 0=ns[i]:=by simp [List.getD_eq_getElem?_getD,hi]
  have m1:=k1 _ (List.getElem_mem hi)
  rw [e]
  refine ⟨?_,m1.2⟩
  cases i with
  | zero=>simpa using m1.1
  | succ i=>
    have e2:(0::ns).getD (i+1) 0=ns[i]:=by
      show ns.getD i 0=ns[i]
      simp [List.getD_eq_getElem?_getD,(show i<ns.length by omega)]
    rw [e2]
    exact (List.pairwise_iff_getElem.mp k2) i (i+1) (by omega) hi (by omega)
def sp__law_numbers:Sp:=fun vs H Q _=>∃ m w:Nat,vs=[nV m,nV w]∧w≤100∧∀ H' p,Same H H'→H p=none→H' p=some (.lst ((numsM m w).map nV))→Q (.ref p) H'
theorem shr_bit (m i:Nat):decide ((((m >>> i) &&& 1:Nat):Int)=1)=m.testBit i:=by
  have h:((m >>> i) &&& 1)=(m.testBit i).toNat:=by
    rw [Nat.and_one_is_mod,Nat.shiftRight_eq_div_pow,MM.bit_div]
  rw [h]
  cases m.testBit i <;> rfl
abbrev s__law_numbers:Stmt:=top 59
theorem sc__law_numbers:FnScope ["_law_mask","_law_most"] ["_law_mask","_law_most"] (defScope s__law_numbers):=⟨rfl,rfl,rfl,by decide +kernel,rfl,by decide +kernel,by decide +kernel⟩
theorem ok__law_numbers {f:Addr} {fd:FuncData} (F:Fun K "_law_numbers" "_law_numbers" s__law_numbers f fd) (T:Txt K mg c):FnOk P w K mg base CX0 1 f fd ["_law_mask","_law_most"] sp__law_numbers:=by
  refine F.ok sc__law_numbers (fun vs H Q E h=> ?_) (fun cdv A outer s H vs Q E hr h=> ?_)
  · obtain ⟨m,w,rfl,_⟩:=h
    rfl
  · obtain ⟨m,w,rfl,hw,k⟩:=h
    refine ⟨_,(pss_one (ps_ret (pe_comp1 (pi_range1 rfl (T.own _ (by decide)) (pa_cons (pv 1) pa_nil)) (fun _ _ _ _=>(pts_one (pt_cmpR op_eq (pe_op op_and (pe_op op_shr (pv 1) (pv 0)) pe_int) pe_int (nomark _)))) (fun _ _ _ _=>(pe_op op_add (pv 0) pe_int))))),?_⟩
    walk_at "w"
    refine ⟨_,rfl,by omega,by omega,fun D hD=> ?_⟩
    rw [Int.toNat_natCast]
    refine ints_compF (p:=m.testBit) (G:=fun i=>(i:Int)+1) (src_range0 rfl) hD (by omega) ?_ ?_ ?_
    · intro i H' R hi s kk
      walk_at "w"
      refine rd_rI (by show (0:Int)≤_;omega) ?_
      walk_at "w"
      have e:((m:Nat):Int) / 2 ^ (((i:Nat):Int)).toNat=((m >>> i:Nat):Int):=by
        rw [Int.toNat_natCast,Nat.shiftRight_eq_div_pow]
        push_cast
        rfl
      rw [e,show (1:Int)=((1:Nat):Int) from rfl,bA]
      walk_at "w"
      rw [show (((1:Nat):Int))=(1:Int) from rfl,shr_bit]
      exact kk H' (Same.refl _)
    · intro i H' R hi hp s kk
      walk_at "w"
      exact kk H' (Same.refl _)
    · intro H' s hl
      refine k H' D s hD ?_
      rw [hl]
      unfold numsM
      rw [List.map_map,List.map_map]
      rfl
def sp__law_copied:Nat→Sp
  | 0=>fun _ _ _ _=>False
  | n+1=>fun vs H Q _=>∃ v d,vs=[v]∧Rp H FT n v d∧∀ H' r,Same H H'→Rp H' (FN H) n r d→Q r H'
abbrev s__law_copied:Stmt:=top 61
theorem sc__law_copied:FnScope ["_law_thing"] ["_law_thing"] (defScope s__law_copied):=⟨rfl,rfl,rfl,by decide +kernel,rfl,by decide +kernel,by decide +kernel⟩
theorem ok1__law_copied {n:Nat} {f:Addr} {fd:FuncData} (F:Fun K "_law_copied" "_law_copied" s__law_copied f fd) (T:Txt K mg c) (c__law_copied:CallF P w K mg base "_law_copied" (n+1) ["_law_thing"] (sp__law_copied n)):FnOk P w K mg base CX0 (n+2) f fd ["_law_thing"] (sp__law_copied (n+1)):=by
  refine F.ok sc__law_copied (fun vs H Q E h=> ?_) (fun cdv A outer s H vs Q E hr h=> ?_)
  · obtain ⟨v,d,rfl,_⟩:=h
    rfl
  · obtain ⟨v,d,rfl,rv,k⟩:=h
    refine ⟨_,(pss_cons (ps_if (pt_val (pe_callB (k_isin (K:=K)) rfl (T.own _ (by decide)) boot_isinstance (pa_cons (pv 0) (pa_cons (pe_ty rfl (T.own _ (by decide)) boot_list') pa_nil)))) (pss_one (ps_ret (pe_comp1 (k_pil (K:=K) (pv 0)) (fun _ _ _ _=>pts_nil) (fun _ _ _ _=>(pe_callF c__law_copied hr (pa_cons (pv 0) pa_nil)))))) pss_nil)
      (pss_cons (ps_if (pt_val (pe_callB (k_isin (K:=K)) rfl (T.own _ (by decide)) boot_isinstance (pa_cons (pv 0) (pa_cons (pe_ty rfl (T.own _ (by decide)) boot_tuple') pa_nil)))) (pss_one (ps_ret (pe_callTy (k_tuple (K:=K)) rfl (T.own _ (by decide)) boot_tuple' (pa_cons (pe_comp1 (k_pit (K:=K) (pv 0)) (fun _ _ _ _=>pts_nil) (fun _ _ _ _=>(pe_callF c__law_copied hr (pa_cons (pv 0) pa_nil)))) pa_nil)))) pss_nil)
      (pss_one (ps_ret (pv 0))))),?_⟩
    walk_at "w"
    refine rd_isin rv.ty (kD_list d) ?_
    walk_at "w"
    refine iteB (fun hc=> ?_) (fun hc=> ?_)
    · obtain ⟨m,a,xs,rfl,rfl,sa,la,ba,ea⟩:=rv.seq (K:=K) (by rw [hc];rfl)
      have ed:d= .lst (itemsD d):=by cases d <;> first | rfl | cases hc
      have et:isTup d=false:=by cases d <;> first | rfl | cases hc
      rw [et] at sa
      walk_at "w"
      refine ⟨a,rfl,⟨_,sa⟩,fun D hD=> ?_⟩
      refine comp_map (m:=m) (G:=fun i=>(itemsD d).getD i .non) (src_list sa rfl) hD ba ?_ ?_
      · intro i H' R hi s1 kk
        walk_at "w"
        have hd:(itemsD d)[i]?=some ((itemsD d).getD i .non):=by
          rw [List.getD_eq_getElem?_getD,List.getElem?_eq_getElem (by omega)];rfl
        have hx:xs[i]?=some (xs.getD i .non):=by
          rw [List.getD_eq_getElem?_getD,List.getElem?_eq_getElem hi];rfl
        exact ⟨_,_,rfl,(ea i _ _ hx hd).same s1,kk⟩
      · intro H' ys s1 hl r
        have e:(List.range xs.length).map (fun i=>(itemsD d).getD i .non)=itemsD d:=by
          rw [la]
          exact (map_range_getD id (itemsD d) .non).trans (List.map_id _)
        rw [e, ← ed] at r
        exact k H' _ s1 r
    · walk_at "w"
      refine rd_isin rv.ty (kD_tuple d) ?_
      walk_at "w"
      refine iteB (fun hc2=> ?_) (fun hc2=> ?_)
      · obtain ⟨m,a,xs,rfl,rfl,sa,la,ba,ea⟩:=rv.seq (K:=K) (by rw [hc2,Bool.or_true])
        have ed:d= .tup (itemsD d):=by cases d <;> first | rfl | cases hc2
        rw [hc2] at sa
        walk_at "w"
        refine ⟨a,rfl,⟨_,sa⟩,fun D hD=> ?_⟩
        refine comp_map (m:=m) (G:=fun i=>(itemsD d).getD i .non) (src_tup sa rfl) hD ba ?_ ?_
        · intro i H' R hi s1 kk
          walk_at "w"
          have hd:(itemsD d)[i]?=some ((itemsD d).getD i .non):=by
            rw [List.getD_eq_getElem?_getD,List.getElem?_eq_getElem (by omega)];rfl
          have hx:xs[i]?=some (xs.getD i .non):=by
            rw [List.getD_eq_getElem?_getD,List.getElem?_eq_getElem hi];rfl
          exact ⟨_,_,rfl,(ea i _ _ hx hd).same s1,kk⟩
        · intro H' ys s1 hl r
          have e:(List.range xs.length).map (fun i=>(itemsD d).getD i .non)=itemsD d:=by
            rw [la]
            exact (map_range_getD id (itemsD d) .non).trans (List.map_id _)
          rw [e] at r
          walk_at "w"
          refine rd_tupOf (SqL.of hl) fun l hl2=> ?_
          have r2:=r.tupd hl hl2
          rw [← ed] at r2
          exact k _ _ (s1.trans (same_new hl2)) r2
      · walk_at "w"
        refine k H v (Same.refl H) ?_
        have hs:(isLst d||isTup d)=false:=by rw [hc,hc2];rfl
        cases rv with
        | non=>exact .non
        | bl b=>exact .bl b
        | int i=>exact .int i
        | str z=>exact .str z
        | lst _ _ _ _ _=>cases hs
        | tup _ _ _ _=>cases hs
theorem ok__law_copied {f:Addr} {fd:FuncData} (D:DefAt K mg "_law_copied" s__law_copied ["_law_thing"] f fd) (T:Txt K mg c):∀ n,FnOk P w K mg base CX0 (n+1) f fd ["_law_thing"] (sp__law_copied n)
  | 0=>⟨fun _ _ _ _ h=>h.elim,fun _ _ _ _ _ _ _ _ _ _ _ _ _ h=>h.elim⟩
  | n+1=>ok1__law_copied D.fn T (D.call (ok__law_copied D T n))
end
end K17
open L2
namespace K17
open PySem L2 PySem.Spec PyProof.Rows
seal L2.PE L2.PT L2.PW L2.PA L2.PS L2.PSs L2.PI L2.PG L2.PTs L2.PGs
section
variable {P:Program} {w:World} {K:PySem.W.Frag} {mg:Str→Option Value} {base:Heap} {c:Cs}
abbrev letS (i:Int):Str:=⟨#[97+i.toNat]⟩
theorem let_at:∀ j:Nat,j<26→("abcdefghijklmnopqrstuvwxyz":Str).cps.toList[j]?=some (97+j):=by decide +kernel
theorem let_atI {i:Int} (h0:0≤i) (h1:i<26):atI ("abcdefghijklmnopqrstuvwxyz":Str).cps.toList i=some (97+i.toNat):=by
  obtain ⟨j,rfl⟩:∃ j:Nat,i=j:=⟨i.toNat,by omega⟩
  rw [Int.toNat_natCast]
  exact atI_nat (let_at j (by omega))
theorem let_col:∀ j:Nat,j<26→((⟨#[97+j]⟩:Str).length == 1&& !(Builtin.Str.occurrences colS ⟨#[97+j]⟩ 0 colS.length 1).isEmpty)=true:=by decide +kernel
theorem let_ok {i:Int} (h0:0≤i) (h1:i<26):colOk (letS i):=by
  have h:=let_col i.toNat (by omega)
  simp only [Bool.and_eq_true,beq_iff_eq] at h
  exact ⟨h.1,h.2⟩
theorem pow_pos' (s:Nat):(0:Int)<1*2 ^ ((s:Nat):Int).toNat:=by
  rw [Int.toNat_natCast,pow_cast]
  have:=Nat.two_pow_pos s
  omega
theorem mod_nat (x:Int) (s:Nat):x%(1*2 ^ ((s:Nat):Int).toNat)=(((x%(2 ^ s:Nat)).toNat:Nat):Int):=by
  rw [Int.toNat_natCast,pow_cast]
  have hp:=Nat.two_pow_pos s
  have:=Int.emod_nonneg x (show ((2 ^ s:Nat):Int)≠0 by omega)
  omega
def sp__law_draft (K:PySem.W.Frag):Sp:=fun vs H Q _=>∃ (a:Addr) (ns:List Int) (m:Nat),vs=[.ref a,nV m]∧SqL K H a (ns.map V.int)∧ns.length≤63∧1≤m∧m≤16∧∀ H' p d,Same H H'→H p=none→Rp H' (FN H) 3 (.ref p) (dDr d)→DrOk d→Q (.ref p) H'
abbrev s__law_draft:Stmt:=top 60
theorem sc__law_draft:FnScope ["_law_script","_law_most","_law_whole","_law_shafts","_law_treadles","_law_letters","_law_ends","_law_picks","_law_ties","_law_treading","_law_warp","_law_weft"] ["_law_script","_law_most"] (defScope s__law_draft):=⟨rfl,rfl,rfl,by decide +kernel,rfl,by decide +kernel,by decide +kernel⟩
theorem ok__law_draft {f:Addr} {fd:FuncData} (F:Fun K "_law_draft" "_law_draft" s__law_draft f fd) (T:Txt K mg c) (c__law_mixed:CallF P w K mg base "_law_mixed" 1 ["_law_cell","_law_k"] sp__law_mixed) (c__law_cells:CallF P w K mg base "_law_cells" 1 ["_law_script","_law_first"] (sp__law_cells K)) (c__law_numbers:CallF P w K mg base "_law_numbers" 1 ["_law_mask","_law_most"] sp__law_numbers):FnOk P w K mg base CX0 2 f fd ["_law_script","_law_most"] (sp__law_draft K):=by
  refine F.ok sc__law_draft (fun vs H Q E h=> ?_) (fun cdv A outer s H vs Q E hr h=> ?_)
  · obtain ⟨a,ns,m,rfl,_⟩:=h
    rfl
  · obtain ⟨a,ns,m,rfl,sa,hn,m1,m2,k⟩:=h
    refine ⟨_,(pss_cons (ps_set (i:=2) sc__law_draft.nd rfl (Or.inr rfl) (pe_callB (k_sum (K:=K)) rfl (T.own _ (by decide)) boot_sum (pa_cons (pe_comp2 (K:=K) (pi_enum (K:=K) rfl (T.own _ (by decide)) (pa_cons (pv 0) pa_nil)) (fun _ _ _ _=>pts_nil) (fun _ _ _ _=>(pe_op op_mul (pe_op op_mod (pv 1) pe_int) (pe_op op_add (pv 0) pe_int)))) pa_nil)))
      (pss_cons (ps_set (i:=3) sc__law_draft.nd rfl (Or.inr rfl) (pe_op op_add pe_int (pe_op op_mod (pe_callF c__law_mixed hr (pa_cons (pv 2) (pa_cons pe_int pa_nil))) (pv 1))))
      (pss_cons (ps_set (i:=4) sc__law_draft.nd rfl (Or.inr rfl) (pe_op op_add pe_int (pe_op op_mod (pe_callF c__law_mixed hr (pa_cons (pv 2) (pa_cons pe_int pa_nil))) (pv 1))))
      (pss_cons (ps_set (i:=5) sc__law_draft.nd rfl (Or.inr rfl) pe_str)
      (pss_cons (ps_set (i:=6) sc__law_draft.nd rfl (Or.inl rfl) (pe_callF c__law_cells hr (pa_cons (pv 0) (pa_cons pe_int pa_nil))))
      (pss_cons (ps_set (i:=7) sc__law_draft.nd rfl (Or.inl rfl) (pe_callF c__law_cells hr (pa_cons (pv 0) (pa_cons pe_int pa_nil))))
      (pss_cons (ps_comp1 (i:=8) sc__law_draft.nd rfl (Or.inl rfl) (pi_range1 rfl (T.own _ (by decide)) (pa_cons (pv 4) pa_nil)) (fun _ _ _ _=>pts_nil) (fun _ _ _ _=>(pe_callF c__law_numbers hr (pa_cons (pe_op op_mod (pe_callF c__law_mixed hr (pa_cons (pv 2) (pa_cons (pe_op op_add pe_int (pv 0)) pa_nil))) (pe_op op_shl pe_int (pv 1))) (pa_cons (pv 1) pa_nil)))))
      (pss_cons (ps_comp1 (i:=9) sc__law_draft.nd rfl (Or.inl rfl) (k_pil (K:=K) (pv 7)) (fun _ _ _ _=>pts_nil) (fun _ _ _ _=>(pe_callF c__law_numbers hr (pa_cons (pe_op op_mod (pv 0) (pe_op op_shl pe_int (pv 1))) (pa_cons (pv 1) pa_nil)))))
      (pss_cons (ps_if (pt_cmpR op_eq (pe_op op_mod (pe_callF c__law_mixed hr (pa_cons (pv 2) (pa_cons pe_int pa_nil))) pe_int) pe_int (nomark _)) (pss_one (ps_comp1 (i:=9) sc__law_draft.nd rfl (Or.inl rfl) (k_pil (K:=K) (pv 7)) (fun _ _ _ _=>pts_nil) (fun _ _ _ _=>(pe_lst (pa_cons (pe_op op_add pe_int (pe_op op_mod (pv 0) (pv 1))) pa_nil))))) pss_nil)
      (pss_cons (ps_comp1 (i:=10) sc__law_draft.nd rfl (Or.inl rfl) (k_pil (K:=K) (pv 6)) (fun _ _ _ _=>pts_nil) (fun _ _ _ _=>(pe_ix ix_str (pv 1) (pe_op op_mod (pe_op op_fdivL (pv 0) pe_int) (pe_op op_add pe_int (pe_op op_mod (pe_callF c__law_mixed hr (pa_cons (pv 2) (pa_cons pe_int pa_nil))) pe_int))) (fun _ _=>rfl))))
      (pss_cons (ps_comp1 (i:=11) sc__law_draft.nd rfl (Or.inl rfl) (k_pil (K:=K) (pv 7)) (fun _ _ _ _=>pts_nil) (fun _ _ _ _=>(pe_ix ix_str (pv 1) (pe_op op_mod (pe_op op_fdivL (pv 0) pe_int) (pe_op op_add pe_int (pe_op op_mod (pe_callF c__law_mixed hr (pa_cons (pv 2) (pa_cons pe_int pa_nil))) pe_int))) (fun _ _=>rfl))))
      (pss_one (ps_ret (pe_tup (pa_cons (pv 3) (pa_cons (pv 4) (pa_cons (pe_comp1 (k_pil (K:=K) (pv 6)) (fun _ _ _ _=>pts_nil) (fun _ _ _ _=>(pe_op op_mod (pv 0) (pe_op op_add (pv 1) pe_int)))) (pa_cons (pv 8) (pa_cons (pv 9) (pa_cons (pv 10) (pa_cons (pv 11) pa_nil))))))))))))))))))))),?_⟩
    walk_at "w"
    refine ⟨a,rfl,⟨_,sa⟩,fun D0 hD0=> ?_⟩
    refine ints_comp (G:=fun i=>ns.getD i 0%1000000007*((i:Int)+1)) (src_enum sa rfl rfl) hD0 (by rw [List.length_map];omega) ?_ ?_
    · intro i H' R hi s kk
      have b1:=Int.emod_nonneg (ns.getD i 0) (show (1000000007:Int)≠0 by decide)
      have b2:=Int.emod_lt_of_pos (ns.getD i 0) (show (0:Int)<1000000007 by decide)
      rw [getD_int hi]
      walk_at "w"
      refine rd_rI (by decide) ?_
      walk_at "w"
      refine rd_rI (.inl ⟨by omega,by omega⟩) ?_
      exact kk H' (Same.refl _)
    intro H1 s1 hl1
    walk_at "w"
    refine rd_sum (SqL.of hl1) ?_
    generalize ((List.range (ns.map V.int).length).map fun i:Nat=>ns.getD i 0%1000000007*((i:Int)+1)).sum=W
    walk_at "w"
    refine ⟨W,1,rfl,⟨by decide,by decide⟩,?_⟩
    walk_at "w"
    refine rd_rI (by show (0:Int)<(m:Nat);omega) ?_
    walk_at "w"
    obtain ⟨sN,es,sN1,sN2⟩:∃ s:Nat,1+mixV W 1%(m:Nat)=(s:Nat)∧1≤s∧s≤16:=by
      have h0:=Int.emod_nonneg (mixV W 1) (show ((m:Nat):Int)≠0 by omega)
      have h1:=Int.emod_lt_of_pos (mixV W 1) (show (0:Int)<(m:Nat) by omega)
      exact ⟨(1+mixV W 1%(m:Nat)).toNat,by omega,by omega,by omega⟩
    rw [es]
    refine ⟨W,2,rfl,⟨by decide,by decide⟩,?_⟩
    walk_at "w"
    refine rd_rI (by show (0:Int)<(m:Nat);omega) ?_
    walk_at "w"
    obtain ⟨tN,et,tN1,tN2⟩:∃ s:Nat,1+mixV W 2%(m:Nat)=(s:Nat)∧1≤s∧s≤16:=by
      have h0:=Int.emod_nonneg (mixV W 2) (show ((m:Nat):Int)≠0 by omega)
      have h1:=Int.emod_lt_of_pos (mixV W 2) (show (0:Int)<(m:Nat) by omega)
      exact ⟨(1+mixV W 2%(m:Nat)).toNat,by omega,by omega,by omega⟩
    rw [et]
    refine ⟨a,ns,0,rfl,s1.seq sa,hn,by decide,by decide,fun H2 pE eE s2 hpE hE lE1 lE2=> ?_⟩
    walk_at "w"
    have s02:=s1.trans s2
    refine ⟨a,ns,1,rfl,s02.seq sa,hn,by decide,by decide,fun H3 pP eP s3 hpP hP lP1 lP2=> ?_⟩
    walk_at "w"
    have s03:=s02.trans s3
    replace hE:=s3 _ _ hE
    refine ⟨_,rfl,by omega,by omega,fun D4 hD4=> ?_⟩
    rw [Int.toNat_natCast]
    refine comp_map (m:=1) (G:=fun i=>dL (numsM (mixV W (3+(i:Int))%(2 ^ sN:Nat)).toNat sN)) (src_range0 rfl) hD4 (by omega) ?_ ?_
    · intro i H' R hi s kk
      walk_at "w"
      refine ⟨W,_,rfl,⟨by omega,by omega⟩,?_⟩
      walk_at "w"
      refine rd_rI ⟨by omega,by omega,by decide⟩ ?_
      walk_at "w"
      refine rd_rI (pow_pos' sN) ?_
      walk_at "w"
      rw [mod_nat]
      exact ⟨_,sN,rfl,by omega,fun H4 p4 s4 hp4 h4=>kk H4 _ s4 (rp_L h4 hp4 (by unfold numsM;rw [List.length_map];exact Nat.le_trans (List.length_filter_le _ _) (by simp;omega)))⟩
    intro H4 ys4 s4 hl4 r4
    rw [dLL_map] at r4
    have s04:=s03.trans s4
    replace r4:Rp H4 (FN H) 2 (.ref D4) _:=r4.imp fun a ha=>s03.free ha
    replace hE:=s4 _ _ hE
    replace hP:=s4 _ _ hP
    generalize eTI:((List.range tN).map fun i:Nat=>numsM (mixV W (3+(i:Int))%(2 ^ sN:Nat)).toNat sN)=TI at r4
    have lTI:TI.length=tN:=by rw [← eTI];simp
    have rTI:∀ l∈TI,Rise sN l:=fun l hl=>by
      rw [← eTI] at hl
      obtain ⟨i,_,rfl⟩:=List.mem_map.mp hl
      exact rise_filter _ sN
    walk_at "w"
    refine ⟨pP,rfl,⟨_,SqL.of hP⟩,fun D5 hD5=> ?_⟩
    refine comp_map (m:=1) (G:=fun i=>dL (numsM (eP.getD i 0%(2 ^ tN:Nat)).toNat tN)) (src_list (SqL.of hP) rfl) hD5 (by rw [List.length_map];omega) ?_ ?_
    · intro i H' R hi s kk
      rw [getD_int hi]
      walk_at "w"
      refine rd_rI ⟨by omega,by omega,by decide⟩ ?_
      walk_at "w"
      refine rd_rI (pow_pos' tN) ?_
      walk_at "w"
      rw [mod_nat]
      exact ⟨_,tN,rfl,by omega,fun H4 p4 s4 hp4 h4=>kk H4 _ s4 (rp_L h4 hp4 (by unfold numsM;rw [List.length_map];exact Nat.le_trans (List.length_filter_le _ _) (by simp;omega)))⟩
    intro H5 ys5 s5 hl5 r5
    rw [List.length_map,dLL_map] at r5
    have s05:=s04.trans s5
    replace r5:Rp H5 (FN H) 2 (.ref D5) _:=r5.imp fun a ha=>s04.free ha
    replace r4:=r4.same s5
    replace hE:=s5 _ _ hE
    replace hP:=s5 _ _ hP
    walk_at "v"
    refine ifJ (fun σ' H6=>∃ v9 TD,σ'=[some (.ref a),some (nV m),some (.int W),some (nV sN),some (nV tN),some (.str "abcdefghijklmnopqrstuvwxyz"),some (.ref pE),some (.ref pP),some (.ref D4),some v9,none,none]∧Same H5 H6∧Rp H6 (FN H) 2 v9 (dLL TD)∧TD.length=eP.length∧∀ l∈TD,Rise tN l) ?_ (fun key=> ?_)
    · rintro σ' H6 ⟨v9,TD,rfl,s6,r9,lTD,rTD⟩
      have s06:=s05.trans s6
      replace r4:=r4.same s6
      replace hE:=s6 _ _ hE
      replace hP:=s6 _ _ hP
      walk_at "w"
      refine ⟨pE,rfl,⟨_,SqL.of hE⟩,fun D7 hD7=> ?_⟩
      have bm:∀ k:Int,(0:Int)<1+mixV W k%26∧1+mixV W k%26≤26:=fun k=>by
        have h0:=Int.emod_nonneg (mixV W k) (show (26:Int)≠0 by decide)
        have h1:=Int.emod_lt_of_pos (mixV W k) (show (0:Int)<26 by decide)
        omega
      have bq:∀ (x k:Int),0≤x%(1+mixV W k%26)∧x%(1+mixV W k%26)<26:=fun x k=>by
        have h:=bm k
        have h0:=Int.emod_nonneg x (show (1+mixV W k%26)≠0 by omega)
        have h1:=Int.emod_lt_of_pos x h.1
        omega
      refine comp_map (m:=0) (G:=fun i=> .str (letS (eE.getD i 0 / 17%(1+mixV W 41%26)))) (src_list (SqL.of hE) rfl) hD7 (by rw [List.length_map];omega) ?_ ?_
      · intro i H' R hi s kk
        rw [getD_int hi]
        walk_at "w"
        refine rd_rI ⟨by decide,by decide⟩ ?_
        walk_at "w"
        refine ⟨W,41,rfl,⟨by decide,by decide⟩,?_⟩
        walk_at "w"
        refine rd_rI (by decide) ?_
        walk_at "w"
        refine rd_rI (bm 41).1 ?_
        have:=bq (eE.getD i 0 / 17) 41
        refine rd_ixS (by decide) (let_atI this.1 this.2) ?_
        exact kk H' _ (Same.refl _) (.str _)
      intro H7 ys7 s7 hl7 r7
      rw [List.length_map,dS_map] at r7
      have s07:=s06.trans s7
      replace r7:Rp H7 (FN H) 2 (.ref D7) _:=(r7.imp fun a ha=>s06.free ha).up (by decide)
      replace r4:=r4.same s7
      replace r9:=r9.same s7
      replace hE:=s7 _ _ hE
      replace hP:=s7 _ _ hP
      walk_at "w"
      refine ⟨pP,rfl,⟨_,SqL.of hP⟩,fun D8 hD8=> ?_⟩
      refine comp_map (m:=0) (G:=fun i=> .str (letS (eP.getD i 0 / 70000%(1+mixV W 42%26)))) (src_list (SqL.of hP) rfl) hD8 (by rw [List.length_map];omega) ?_ ?_
      · intro i H' R hi s kk
        rw [getD_int hi]
        walk_at "w"
        refine rd_rI ⟨by decide,by decide⟩ ?_
        walk_at "w"
        refine ⟨W,42,rfl,⟨by decide,by decide⟩,?_⟩
        walk_at "w"
        refine rd_rI (by decide) ?_
        walk_at "w"
        refine rd_rI (bm 42).1 ?_
        have:=bq (eP.getD i 0 / 70000) 42
        refine rd_ixS (by decide) (let_atI this.1 this.2) ?_
        exact kk H' _ (Same.refl _) (.str _)
      intro H8 ys8 s8 hl8 r8
      rw [List.length_map,dS_map] at r8
      have s08:=s07.trans s8
      replace r8:Rp H8 (FN H) 2 (.ref D8) _:=(r8.imp fun a ha=>s07.free ha).up (by decide)
      replace r4:=r4.same s8
      replace r9:=r9.same s8
      replace r7:=r7.same s8
      replace hE:=s8 _ _ hE
      walk_at "w"
      refine ⟨pE,rfl,⟨_,SqL.of hE⟩,fun DA hDA=> ?_⟩
      refine comp_map (m:=0) (G:=fun i=>dN (eE.getD i 0%((sN+1:Nat):Int)).toNat) (src_list (SqL.of hE) rfl) hDA (by rw [List.length_map];omega) ?_ ?_
      · intro i H' R hi s kk
        rw [getD_int hi]
        walk_at "w"
        refine rd_rI (by show (0:Int)<_;omega) ?_
        have h0:=Int.emod_nonneg (eE.getD i 0) (show ((sN:Nat):Int)+1≠0 by omega)
        have e:eE.getD i 0%(((sN:Nat):Int)+1)=(((eE.getD i 0%((sN+1:Nat):Int)).toNat:Nat):Int):=by
          rw [show ((sN+1:Nat):Int)=((sN:Nat):Int)+1 by omega]
          omega
        rw [e]
        exact kk H' _ (Same.refl _) (.int _)
      intro HA ysA sA hlA rA
      rw [List.length_map,dL_map] at rA
      have s0A:=s08.trans sA
      replace rA:Rp HA (FN H) 2 (.ref DA) _:=(rA.imp fun a ha=>s08.free ha).up (by decide)
      replace r4:=r4.same sA
      replace r9:=r9.same sA
      replace r7:=r7.same sA
      replace r8:=r8.same sA
      walk_at "w"
      intro p hp
      have sB:=same_new (o:=HO.tup [nV sN,nV tN, .ref DA, .ref D4,v9, .ref D7, .ref D8]) hp
      refine k _ p ⟨sN,tN,_,TI,TD,_,_⟩ (s0A.trans sB) (s0A.free hp) (rp_tup7 upd_same (.int _) (.int _) (rA.same sB) (r4.same sB) (r9.same sB) (r7.same sB) (r8.same sB)) ?_
      exact {
        s1:=sN1,s2:=sN2,t1:=tN1,t2:=tN2
        h1:=by simpa using lE1
        h2:=by simpa using lE2.1
        hs:=fun n hn=>by
          obtain ⟨i,_,rfl⟩:=List.mem_map.mp hn
          have h0:=Int.emod_nonneg (eE.getD i 0) (show ((sN+1:Nat):Int)≠0 by omega)
          have h1:=Int.emod_lt_of_pos (eE.getD i 0) (show (0:Int)<((sN+1:Nat):Int) by omega)
          show _≤sN
          omega
        il:=lTI,ir:=rTI
        p1:=by show 1≤TD.length;omega
        p2:=by show TD.length≤60;omega
        pr:=rTD
        wl:=by simp
        wc:=fun z hz=>by
          obtain ⟨i,_,rfl⟩:=List.mem_map.mp hz
          exact let_ok (bq _ 41).1 (bq _ 41).2
        fl:=by simp [lTD]
        fc:=fun z hz=>by
          obtain ⟨i,_,rfl⟩:=List.mem_map.mp hz
          exact let_ok (bq _ 42).1 (bq _ 42).2 }
    · walk_at "w"
      refine ⟨W,40,rfl,⟨by decide,by decide⟩,?_⟩
      walk_at "w"
      refine rd_rI (by decide) ?_
      walk_at "w"
      refine iteP (fun h0=> ?_) (fun h0=> ?_)
      · walk_at "w"
        refine ⟨pP,rfl,⟨_,SqL.of hP⟩,fun D6 hD6=> ?_⟩
        refine comp_map (m:=1) (G:=fun i=>dL [(1+eP.getD i 0%(tN:Nat)).toNat]) (src_list (SqL.of hP) rfl) hD6 (by rw [List.length_map];omega) ?_ ?_
        · intro i H' R hi s kk
          rw [getD_int hi]
          walk_at "w"
          refine rd_rI (by show (0:Int)<(tN:Nat);omega) ?_
          walk_at "w"
          intro q hq
          have h0:=Int.emod_nonneg (eP.getD i 0) (show ((tN:Nat):Int)≠0 by omega)
          refine kk _ _ (same_new hq) (rp_L ?_ hq (by simp))
          rw [upd_same]
          show some (HO.lst [V.int (1+eP.getD i 0%(tN:Nat))])=some (HO.lst [V.int (((1+eP.getD i 0%(tN:Nat)).toNat:Nat):Int)])
          congr 4
          omega
        · intro H6 ys6 s6 hl6 r6
          rw [List.length_map,dLL_map (fun i=>[(1+eP.getD i 0%(tN:Nat)).toNat])] at r6
          refine rd_name ?_
          refine key _ _ ⟨_,_,rfl,s6,r6.imp fun a ha=>s05.free ha,by simp,fun l hl=> ?_⟩
          obtain ⟨i,_,rfl⟩:=List.mem_map.mp hl
          have h0:=Int.emod_nonneg (eP.getD i 0) (show ((tN:Nat):Int)≠0 by omega)
          have h1:=Int.emod_lt_of_pos (eP.getD i 0) (show (0:Int)<(tN:Nat) by omega)
          intro j hj
          have hj:j=0:=by simpa using hj
          subst hj
          show 0+1≤(1+eP.getD i 0%(tN:Nat)).toNat∧(1+eP.getD i 0%(tN:Nat)).toNat≤tN
          omega
      · refine rd_next ?_
        refine key _ _ ⟨_,_,rfl,Same.refl _,r5,by simp,fun l hl=> ?_⟩
        obtain ⟨i,_,rfl⟩:=List.mem_map.mp hl
        exact rise_filter _ tN
def sp__law_made (c:Cs):Sp:=fun vs H Q _=>∃ v d,vs=[v]∧Rp H FT 3 v (dDr d)∧DrOk d∧∀ H' x,Same H H'→H x=none→DrAt c.Draft H' x d→Q (.ref x) H'
abbrev s__law_made:Stmt:=top 62
theorem sc__law_made:FnScope ["_law_due","_law_shafts","_law_treadles","_law_threading","_law_ties","_law_treading","_law_warp","_law_weft"] ["_law_due"] (defScope s__law_made):=⟨rfl,rfl,rfl,by decide +kernel,rfl,by decide +kernel,by decide +kernel⟩
theorem ok__law_made {f:Addr} {fd:FuncData} (F:Fun K "_law_made" "_law_made" s__law_made f fd) (T:Txt K mg c) (c__law_copied:CallF P w K mg base "_law_copied" (4+1) ["_law_thing"] (sp__law_copied 4)) (m_Draft:MakeF P w K mg base "Draft" c.Draft 6 ["self","shafts","treadles","threading","ties","treading","warp","weft"] (sp_Draft___init__ c)):FnOk P w K mg base CX0 8 f fd ["_law_due"] (sp__law_made c):=by
  refine F.ok sc__law_made (fun vs H Q E h=> ?_) (fun cdv A outer s H vs Q E hr h=> ?_)
  · obtain ⟨v,d,rfl,_⟩:=h
    rfl
  · obtain ⟨v,d,rfl,rv,ok,k⟩:=h
    refine ⟨_,(pss_cons (ps_asg (pe_callF c__law_copied (hr.mono (by decide)) (pa_cons (pv 0) pa_nil)) (k_gtup (K:=K) rfl (pgs_cons (pg_name (i:=1) sc__law_made.nd rfl (Or.inl rfl)) (pgs_cons (pg_name (i:=2) sc__law_made.nd rfl (Or.inl rfl)) (pgs_cons (pg_name (i:=3) sc__law_made.nd rfl (Or.inl rfl)) (pgs_cons (pg_name (i:=4) sc__law_made.nd rfl (Or.inl rfl)) (pgs_cons (pg_name (i:=5) sc__law_made.nd rfl (Or.inl rfl)) (pgs_cons (pg_name (i:=6) sc__law_made.nd rfl (Or.inl rfl)) (pgs_cons (pg_name (i:=7) sc__law_made.nd rfl (Or.inl rfl)) pgs_nil)))))))))
      (pss_one (ps_ret (pe_makeF m_Draft hr (pa_cons (pv 1) (pa_cons (pv 2) (pa_cons (pv 3) (pa_cons (pv 4) (pa_cons (pv 5) (pa_cons (pv 6) (pa_cons (pv 7) pa_nil))))))))))),?_⟩
    walk_at "w"
    refine ⟨v,_,rfl,rv,fun H1 r s1 r1=> ?_⟩
    obtain ⟨m,a,v0,v1,v2,v3,v4,v5,v6,em,rfl,ha,q0,q1,q2,q3,q4,q5,q6⟩:=tup7_of r1
    cases em
    cases q0
    cases q1
    obtain ⟨b2,rfl,e2,_,_⟩:=dL_of q2
    obtain ⟨b5,rfl,e5,_,_⟩:=dS_of q5
    obtain ⟨b6,rfl,e6,_,_⟩:=dS_of q6
    walk_at "w"
    refine rd_gtup (SqT.of ha) rfl ?_
    walk_at "w"
    refine dr_make ⟨_,_,_,_,_,rfl,e2,q3.any,q4.any,e5,e6⟩ ok fun H2 x s2 hx D2=> ?_
    exact k H2 x (s1.trans s2) (s1.free hx) D2
end
end K17
open L2
namespace K17
open PySem L2 PySem.Spec PyProof.Rows
seal L2.PE L2.PT L2.PW L2.PA L2.PS L2.PSs L2.PI L2.PG L2.PTs L2.PGs
section
variable {P:Program} {w:World} {K:PySem.W.Frag} {mg:Str→Option Value} {base:Heap} {c:Cs}
theorem due_of {H:Hp} {F:Addr→Prop} {n:Nat} {v:V} {d:Dr} (r:Rp H F n v (dDr d)):∃ m a a2 v3 v4 a5 a6,n=m+1∧v= .ref a∧H a=some (.tup [nV d.sh,nV d.tr, .ref a2,v3,v4, .ref a5, .ref a6])∧H a2=some (.lst (d.th.map nV))∧Rp H F m v3 (dLL d.ti)∧Rp H F m v4 (dLL d.td)∧H a5=some (.lst (d.wa.map V.str))∧H a6=some (.lst (d.we.map V.str)):=by
  obtain ⟨m,a,v0,v1,v2,v3,v4,v5,v6,em,rfl,ha,q0,q1,q2,q3,q4,q5,q6⟩:=tup7_of r
  cases q0
  cases q1
  obtain ⟨b2,rfl,e2,_,_⟩:=dL_of q2
  obtain ⟨b5,rfl,e5,_,_⟩:=dS_of q5
  obtain ⟨b6,rfl,e6,_,_⟩:=dS_of q6
  exact ⟨m,a,b2,v3,v4,b5,b6,em,rfl,ha,e2,q3,q4,e5,e6⟩
theorem rowN_bit {th:List Nat} {s l e:Nat} (hl:l<2 ^ s) (he:e<th.length):(rowN ((List.range s).map fun i=>thrN th (i+1)) l).testBit e=(decide (0<th.getD e 0)&&l.testBit (th.getD e 0 - 1)):=by
  unfold rowN
  rw [MM.uOf_bit,List.any_map,Bool.eq_iff_iff,List.any_eq_true]
  have hb:∀ k∈MM.nOf l,1≤k∧k - 1<s:=fun k hk=>by
    obtain ⟨m1,m2⟩:=(MM.nOf_mem l k).mp hk
    refine ⟨m1,?_⟩
    rcases Nat.lt_or_ge (k - 1) s with z | z
    · exact z
    · rw [Nat.testBit_lt_two_pow (Nat.lt_of_lt_of_le hl (Nat.pow_le_pow_right (by decide) z))] at m2
      cases m2
  have hv:∀ k∈MM.nOf l,(((List.range s).map fun i=>thrN th (i+1)).getD (k - 1) 0).testBit e=decide (th.getD e 0=k):=fun k hk=>by
    have h:=hb k hk
    rw [getD_rmap (fun i=>thrN th (i+1)) h.2]
    unfold thrN
    rw [MM.ofB_bit,show k - 1+1=k by omega]
    simp [he]
  constructor
  · rintro ⟨k,hk,q⟩
    have q:(((List.range s).map fun i=>thrN th (i+1)).getD (k - 1) 0).testBit e=true:=q
    rw [hv k hk] at q
    have q:=of_decide_eq_true q
    obtain ⟨m1,m2⟩:=(MM.nOf_mem l k).mp hk
    rw [q,decide_eq_true (by omega),m2]
    rfl
  · intro q
    simp only [Bool.and_eq_true,decide_eq_true_eq] at q
    have hk:th.getD e 0∈MM.nOf l:=(MM.nOf_mem l _).mpr ⟨q.1,q.2⟩
    refine ⟨_,hk,?_⟩
    show (((List.range s).map fun i=>thrN th (i+1)).getD (th.getD e 0 - 1) 0).testBit e=true
    rw [hv _ hk]
    simp
end
end K17
open L2
namespace K17
open PySem L2 PySem.Spec PyProof.Rows
seal L2.PE L2.PT L2.PW L2.PA L2.PS L2.PSs L2.PI L2.PG L2.PTs L2.PGs
section
variable {P:Program} {w:World} {K:PySem.W.Frag} {mg:Str→Option Value} {base:Heap} {c:Cs}
def sp_Draft_picks (c:Cs):Sp:=fun vs H Q _=>∃ x d,vs=[.ref x]∧DrAt c.Draft H x d∧Q (nV d.td.length) H
abbrev s_Draft_picks:Stmt:=inClass (top 38) 3
theorem sc_Draft_picks:FnScope ["self"] ["self"] (defScope s_Draft_picks):=⟨rfl,rfl,rfl,by decide +kernel,rfl,by decide +kernel,by decide +kernel⟩
theorem ok_Draft_picks {f:Addr} {fd:FuncData} (F:Fun K "picks" "Draft.picks" s_Draft_picks f fd) (T:Txt K mg c):FnOk P w K mg base CX0 1 f fd ["self"] (sp_Draft_picks c):=by
  refine F.ok sc_Draft_picks (fun vs H Q E h=> ?_) (fun cdv A outer s H vs Q E hr h=> ?_)
  · obtain ⟨x,d,rfl,_⟩:=h
    rfl
  · obtain ⟨x,d,rfl,⟨dx,v1,v2,v3,v4,v5,h0,h1,h2,h3,h4,h5⟩,k⟩:=h
    obtain ⟨_,a3,vs3,em,rfl,e3,l3,_,_⟩:=tup_of h3
    refine ⟨_,(pss_one (ps_ret (pe_callB (k_len (K:=K)) rfl (T.own _ (by decide)) boot_len (pa_cons (k_fld (K:=K) (pv 0) rfl) pa_nil)))),?_⟩
    walk_at "w"
    refine ⟨_,_,_,_,_,rfl,h0,T.kd_Draft.cl,T.na_Draft_treading,rfl,?_⟩
    walk_at "w"
    refine rd_lenT (SqT.of e3) ?_
    rw [l3,List.length_map]
    exact k
theorem natsL (n:Nat) (G:Nat→Nat):((List.range n).map fun i=>((G i:Nat):Int)).map V.int=((List.range n).map G).map nV:=by
  rw [List.map_map,List.map_map]
  rfl
def besN (n:Nat) (rs ss:List Nat):List Nat:=(List.range rs.length).map fun i=>rs.getD i 0 ||| (ss.getD i 0*2 ^ n)
def sp_beside (c:Cs):Sp:=fun vs H Q E=>∃ x n rs y m ss,vs=[.ref x, .ref y]∧ClAt c.Cloth H x n rs∧ClAt c.Cloth H y m ss∧ClOk n rs∧ClOk m ss∧
  (rs.length=ss.length→n+m≤60→∀ H' u,Same H H'→H u=none→ClAt c.Cloth H' u (n+m) (besN n rs ss)→Q (.ref u) H')∧(¬ (rs.length=ss.length∧n+m≤60)→∀ H',Same H H'→E (.ref c.BadCloth) none H')
theorem bes_lt {n m a b:Nat} (ha:a<2 ^ n) (hb:b<2 ^ m):a ||| (b*2 ^ n)<2 ^ (n+m):=by
  refine Nat.or_lt_two_pow (Nat.lt_of_lt_of_le ha (Nat.pow_le_pow_right (by decide) (by omega))) ?_
  rw [Nat.pow_add,Nat.mul_comm b]
  exact Nat.mul_lt_mul_of_pos_left hb (Nat.two_pow_pos n)
theorem bad_ends {H:Hp} {n:Nat} {r:V} (h:60<n):ClFit K H (.int n) r false:=by
  refine .ends ⟨_, .int _⟩ ?_
  show (decide ((1:Int)≤(n:Nat))&&decide (((n:Nat):Int)≤60))=false
  rw [Bool.and_eq_false_iff,decide_eq_false_iff_not,decide_eq_false_iff_not]
  omega
abbrev s_beside:Stmt:=top 41
theorem sc_beside:FnScope ["one","other","ends"] ["one","other"] (defScope s_beside):=⟨rfl,rfl,rfl,by decide +kernel,rfl,by decide +kernel,by decide +kernel⟩
theorem ok_beside {f:Addr} {fd:FuncData} (F:Fun K "beside" "beside" s_beside f fd) (T:Txt K mg c) (d_Cloth_picks:MethF P w K mg base c.Cloth "picks" 1 ["self"] (sp_Cloth_picks c)) (d_Cloth_ends:MethF P w K mg base c.Cloth "ends" 1 ["self"] (sp_Cloth_ends c)) (m_Cloth:MakeE P w K mg base "Cloth" c.Cloth 4 ["self","ends","rows"] (sp_Cloth___init__ K c)):FnOk P w K mg base (CXE P w) 6 f fd ["one","other"] (sp_beside c):=by
  refine Fun.okE F sc_beside (fun vs H Q E h=> ?_) (fun cdv A outer s H vs Q E hr h=> ?_)
  · obtain ⟨x,n,rs,y,m,ss,rfl,_⟩:=h
    rfl
  · obtain ⟨x,n,rs,y,m,ss,rfl,cx,cy,okx,oky,kq,ke⟩:=h
    obtain ⟨dx,tx,hx,htx⟩:=id cx
    obtain ⟨dy,ty,hy,hty⟩:=id cy
    have n2:=okx.n2
    have m2:=oky.n2
    have p2:=okx.p2
    have q2:=oky.p2
    refine ⟨_,(pss_cons (ps_if (pt_cmpR op_ne (pe_methF0 (pv 0) d_Cloth_picks (hr.mono (by decide))) (pe_methF0 (pv 1) d_Cloth_picks (hr.mono (by decide))) (nomark _)) (pss_one (ps_raiseK T.g_BadCloth T.xi_BadCloth (pa_cons pe_str pa_nil))) pss_nil)
      (pss_cons (ps_set (i:=2) sc_beside.nd rfl (Or.inr rfl) (pe_methF0 (pv 0) d_Cloth_ends (hr.mono (by decide))))
      (pss_one (ps_ret (pe_makeE m_Cloth hr passE (pa_cons (pe_op op_add (pv 2) (pe_methF0 (pv 1) d_Cloth_ends (hr.mono (by decide)))) (pa_cons (pe_comp2 (K:=K) (pi_zs (K:=K) rfl (T.own _ (by decide)) (pa_cons (k_fld (K:=K) (pv 0) rfl) (pa_cons (k_fld (K:=K) (pv 1) rfl) pa_nil))) (fun _ _ _ _=>pts_nil) (fun _ _ _ _=>(pe_op op_or (pv 0) (pe_op op_shl (pv 1) (pv 2))))) pa_nil))))))),?_⟩
    walk_at "w"
    refine ⟨_,_,_,rfl,hx,rfl,?_⟩
    walk_at "w"
    refine ⟨x,n,rs,rfl,cx,?_⟩
    walk_at "w"
    refine ⟨_,_,_,rfl,hy,rfl,?_⟩
    walk_at "w"
    refine ⟨y,m,ss,rfl,cy,?_⟩
    walk_at "w"
    by_cases e1:rs.length=ss.length
    rotate_left
    · rw [decide_eq_false (by omega)]
      refine iteT ?_
      walk_at "w"
      exact ⟨by decide,ke (fun z=>e1 z.1) H (Same.refl _)⟩
    rw [decide_eq_true (by omega)]
    refine iteF ?_
    walk_at "w"
    refine ⟨_,_,_,rfl,hx,rfl,?_⟩
    walk_at "w"
    refine ⟨x,n,rs,rfl,cx,?_⟩
    walk_at "w"
    refine rd_makeE ?_
    walk_at "w"
    refine ⟨_,_,_,rfl,hy,rfl,?_⟩
    walk_at "w"
    refine ⟨y,m,ss,rfl,cy,?_⟩
    walk_at "w"
    refine ⟨_,_,_,_,_,rfl,hx,T.kd_Cloth.cl,T.na_Cloth_rows,rfl,?_⟩
    walk_at "w"
    refine ⟨_,_,_,_,_,rfl,hy,T.kd_Cloth.cl,T.na_Cloth_rows,rfl,?_⟩
    walk_at "w"
    refine ⟨true,true,tx,ty,rfl,⟨_,SqT.of htx⟩,⟨_,SqT.of hty⟩,fun D hD=> ?_⟩
    refine ints_comp (G:=fun j=>((rs.getD j 0 ||| (ss.getD j 0*2 ^ n):Nat):Int)) (src_zs (t1:=true) (t2:=true) (SqT.of htx) (SqT.of hty) (by simp [e1]) rfl rfl) hD (by rw [List.length_map];omega) ?_ ?_
    · intro j H4 R hj s4 kk
      have hj':j<rs.length:=by simpa using hj
      have lt:=Nat.lt_of_lt_of_le (oky.lt _ (getD_mem (show j<ss.length by omega) (y:=0))) (Nat.pow_le_pow_right (show 0<2 by decide) m2)
      rw [getD_nat hj,getD_nat (ns:=ss) (by simp;omega)]
      walk_at "w"
      refine rd_rI ⟨by omega,by omega,by show ((ss.getD j 0:Nat):Int).natAbs<_;rw [Int.natAbs_natCast];exact Nat.lt_of_lt_of_le lt (by decide)⟩ ?_
      rw [Int.toNat_natCast,show ((ss.getD j 0:Nat):Int)*2 ^ n=((ss.getD j 0*2 ^ n:Nat):Int) by push_cast;rfl]
      walk_at "w"
      rw [bO]
      exact kk H4 (Same.refl _)
    intro H1 s1 g1
    rw [natsL,List.length_map] at g1
    walk_at "w"
    rw [show ((n:Nat):Int)+((m:Nat):Int)=((n+m:Nat):Int) by push_cast;rfl]
    by_cases e2:n+m≤60
    · have okb:ClOk (n+m) (besN n rs ss):=⟨by have:=okx.n1;omega,e2,by unfold besN;rw [List.length_map,List.length_range];exact okx.p1,by unfold besN;rw [List.length_map,List.length_range];exact p2,fun r hr=>by
        unfold besN at hr
        obtain ⟨i,hi,rfl⟩:=List.mem_map.mp hr
        have hi:=List.mem_range.mp hi
        exact bes_lt (okx.lt _ (getD_mem hi)) (oky.lt _ (getD_mem (by omega)))⟩
      exact cl_make g1 okb fun H2 u s2 hu C2=>kq e1 e2 H2 u (s1.trans s2) (s1.free hu) C2
    · exact cl_bad (bad_ends (by omega)) fun H2 s2=>ke (fun z=>e2 z.2) H2 (s1.trans s2)
def sp_below (c:Cs):Sp:=fun vs H Q E=>∃ x n rs y m ss,vs=[.ref x, .ref y]∧ClAt c.Cloth H x n rs∧ClAt c.Cloth H y m ss∧ClOk n rs∧ClOk m ss∧
  (n=m→rs.length+ss.length≤60→∀ H' u,Same H H'→H u=none→ClAt c.Cloth H' u n (rs++ss)→Q (.ref u) H')∧(¬ (n=m∧rs.length+ss.length≤60)→∀ H',Same H H'→E (.ref c.BadCloth) none H')
abbrev s_below:Stmt:=top 42
theorem sc_below:FnScope ["one","other"] ["one","other"] (defScope s_below):=⟨rfl,rfl,rfl,by decide +kernel,rfl,by decide +kernel,by decide +kernel⟩
theorem ok_below {f:Addr} {fd:FuncData} (F:Fun K "below" "below" s_below f fd) (T:Txt K mg c) (d_Cloth_ends:MethF P w K mg base c.Cloth "ends" 1 ["self"] (sp_Cloth_ends c)) (m_Cloth:MakeE P w K mg base "Cloth" c.Cloth 4 ["self","ends","rows"] (sp_Cloth___init__ K c)):FnOk P w K mg base (CXE P w) 6 f fd ["one","other"] (sp_below c):=by
  refine Fun.okE F sc_below (fun vs H Q E h=> ?_) (fun cdv A outer s H vs Q E hr h=> ?_)
  · obtain ⟨x,n,rs,y,m,ss,rfl,_⟩:=h
    rfl
  · obtain ⟨x,n,rs,y,m,ss,rfl,cx,cy,okx,oky,kq,ke⟩:=h
    obtain ⟨dx,tx,hx,htx⟩:=id cx
    obtain ⟨dy,ty,hy,hty⟩:=id cy
    have p1:=okx.p1
    have p2:=okx.p2
    have q2:=oky.p2
    refine ⟨_,(pss_cons (ps_if (pt_cmpR op_ne (pe_methF0 (pv 0) d_Cloth_ends (hr.mono (by decide))) (pe_methF0 (pv 1) d_Cloth_ends (hr.mono (by decide))) (nomark _)) (pss_one (ps_raiseK T.g_BadCloth T.xi_BadCloth (pa_cons pe_str pa_nil))) pss_nil)
      (pss_one (ps_ret (pe_makeE m_Cloth hr passE (pa_cons (pe_methF0 (pv 0) d_Cloth_ends (hr.mono (by decide))) (pa_cons (pe_callTy (k_list (K:=K)) rfl (T.own _ (by decide)) boot_list' (pa_cons (pe_op (k_catT (K:=K)) (k_fld (K:=K) (pv 0) rfl) (k_fld (K:=K) (pv 1) rfl)) pa_nil)) pa_nil)))))),?_⟩
    walk_at "w"
    refine ⟨_,_,_,rfl,hx,rfl,?_⟩
    walk_at "w"
    refine ⟨x,n,rs,rfl,cx,?_⟩
    walk_at "w"
    refine ⟨_,_,_,rfl,hy,rfl,?_⟩
    walk_at "w"
    refine ⟨y,m,ss,rfl,cy,?_⟩
    walk_at "w"
    by_cases e1:n=m
    rotate_left
    · rw [decide_eq_false (by omega)]
      refine iteT ?_
      walk_at "w"
      exact ⟨by decide,ke (fun z=>e1 z.1) H (Same.refl _)⟩
    rw [decide_eq_true (by omega)]
    refine iteF ?_
    walk_at "w"
    refine rd_makeE ?_
    walk_at "w"
    refine ⟨_,_,_,rfl,hx,rfl,?_⟩
    walk_at "w"
    refine ⟨x,n,rs,rfl,cx,?_⟩
    walk_at "w"
    refine ⟨_,_,_,_,_,rfl,hx,T.kd_Cloth.cl,T.na_Cloth_rows,rfl,?_⟩
    walk_at "w"
    refine ⟨_,_,_,_,_,rfl,hy,T.kd_Cloth.cl,T.na_Cloth_rows,rfl,?_⟩
    walk_at "w"
    refine rd_catN (SqT.of htx) (SqT.of hty) (fun z=>by have:=congrArg List.length z;simp at this;rw [this] at p1;simp at p1) (by simp;omega) fun H1 p s1 hp=> ?_
    walk_at "w"
    refine rd_listOfT hp fun l hl=> ?_
    rw [← List.map_append]
    have s2:=same_new (o:=HO.lst ((rs++ss).map nV)) hl
    have g2:upd H1 l (HO.lst ((rs++ss).map nV)) l=_:=upd_same
    generalize upd H1 l (HO.lst ((rs++ss).map nV))=H2 at s2 g2 ⊢
    have s02:=s1.trans s2
    walk_at "w"
    by_cases e2:rs.length+ss.length≤60
    · have okb:ClOk n (rs++ss):=⟨okx.n1,okx.n2,by rw [List.length_append];omega,by rw [List.length_append];omega,fun r hr=>by
        rcases List.mem_append.mp hr with z | z
        · exact okx.lt r z
        · rw [e1];exact oky.lt r z⟩
      exact cl_make g2 okb fun H3 u s3 hu C3=>kq e1 e2 H3 u (s02.trans s3) (s02.free hu) C3
    · exact cl_bad (.many okx.n1 okx.n2 g2 (.inr (by rw [List.length_map,List.length_append];omega))) fun H3 s3=>ke (fun z=>e2 z.2) H3 (s02.trans s3)
end
end K17
open L2
namespace K17
open PySem L2 PySem.Spec PyProof.Rows
seal L2.PE L2.PT L2.PW L2.PA L2.PS L2.PSs L2.PI L2.PG L2.PTs L2.PGs
section
variable {P:Program} {w:World} {K:PySem.W.Frag} {mg:Str→Option Value} {base:Heap} {c:Cs}
def overN (r n a:Nat):Nat:=MM.uOf ((List.range a).map fun e=>r*2 ^ (n*e))
theorem over_one (r n e i:Nat):(r*2 ^ (n*e)).testBit i=(decide (n*e≤i)&&r.testBit (i - n*e)):=by
  rw [Nat.mul_comm,Nat.testBit_two_pow_mul]
theorem over_bit {r n a i:Nat} (hr:r<2 ^ n) (hi:i<n*a):(overN r n a).testBit i=r.testBit (i%n):=by
  have hw:0<n:=by
    rcases Nat.eq_zero_or_pos n with z | z
    · rw [z,Nat.zero_mul] at hi;omega
    · exact z
  unfold overN
  rw [MM.uOf_bit,List.any_map,Bool.eq_iff_iff,List.any_eq_true]
  constructor
  · rintro ⟨e,he,h⟩
    have h:(r*2 ^ (n*e)).testBit i=true:=h
    rw [over_one,Bool.and_eq_true,decide_eq_true_eq] at h
    have lt:i - n*e<n:=by
      rcases Nat.lt_or_ge (i - n*e) n with z | z
      · exact z
      · rw [Nat.testBit_lt_two_pow (Nat.lt_of_lt_of_le hr (Nat.pow_le_pow_right (by decide) z))] at h
        cases h.2
    have e2:i%n=i - n*e:=by
      conv=>lhs;rw [show i=n*e+(i - n*e) by omega]
      rw [Nat.mul_add_mod,Nat.mod_eq_of_lt lt]
    rw [e2]
    exact h.2
  · intro h
    have hd:i / n<a:=by rw [Nat.div_lt_iff_lt_mul hw,Nat.mul_comm];exact hi
    refine ⟨i / n,List.mem_range.mpr hd,?_⟩
    show (r*2 ^ (n*(i / n))).testBit i=true
    have hle:=Nat.mul_div_le i n
    have em:i - n*(i / n)=i%n:=by have:=Nat.div_add_mod i n;omega
    rw [over_one,em,h,decide_eq_true hle]
    rfl
theorem over_lt {r n a:Nat} (hr:r<2 ^ n):overN r n a<2 ^ (n*a):=by
  refine Nat.lt_pow_two_of_testBit _ fun i hi=> ?_
  unfold overN
  rw [MM.uOf_bit,List.any_map,List.any_eq_false]
  intro e he
  have he:=List.mem_range.mp he
  show ¬ (r*2 ^ (n*e)).testBit i=true
  rw [over_one,Bool.and_eq_true,decide_eq_true_eq]
  rintro ⟨h1,h2⟩
  have:n≤i - n*e:=by
    have:n*(e+1)≤n*a:=Nat.mul_le_mul_left n he
    rw [Nat.mul_add,Nat.mul_one] at this
    omega
  rw [Nat.testBit_lt_two_pow (Nat.lt_of_lt_of_le hr (Nat.pow_le_pow_right (by decide) this))] at h2
  cases h2
def sp_row_over (K:PySem.W.Frag):Sp:=fun vs H Q _=>∃ r n a:Nat,vs=[nV r,nV n,nV a]∧r<2 ^ 60∧n≤60∧a≤60∧∀ H',Same H H'→Q (nV (overN r n a)) H'
abbrev s_row_over:Stmt:=top 43
theorem sc_row_over:FnScope ["row","ends","across"] ["row","ends","across"] (defScope s_row_over):=⟨rfl,rfl,rfl,by decide +kernel,rfl,by decide +kernel,by decide +kernel⟩
theorem ok_row_over {f:Addr} {fd:FuncData} (F:Fun K "row_over" "row_over" s_row_over f fd) (T:Txt K mg c) (c_union_of:CallF P w K mg base "union_of" 1 ["masks"] (sp_union_of K)):FnOk P w K mg base CX0 2 f fd ["row","ends","across"] (sp_row_over K):=by
  refine F.ok sc_row_over (fun vs H Q E h=> ?_) (fun cdv A outer s H vs Q E hr h=> ?_)
  · obtain ⟨r,n,a,rfl,_⟩:=h
    rfl
  · obtain ⟨r,n,a,rfl,hr',hn,ha,k⟩:=h
    refine ⟨_,(pss_one (ps_ret (pe_callF c_union_of hr (pa_cons (pe_comp1 (pi_range1 rfl (T.own _ (by decide)) (pa_cons (pv 2) pa_nil)) (fun _ _ _ _=>pts_nil) (fun _ _ _ _=>(pe_op op_shl (pv 2) (pe_op op_mul (pv 1) (pv 0))))) pa_nil)))),?_⟩
    walk_at "w"
    refine ⟨_,rfl,by omega,by omega,fun D hD=> ?_⟩
    rw [Int.toNat_natCast]
    refine ints_comp (G:=fun e=>((r*2 ^ (n*e):Nat):Int)) (src_range0 rfl) hD (by omega) ?_ ?_
    · intro e H' R he s kk
      have hj:((n:Nat):Int)*((e:Nat):Int)=((n*e:Nat):Int):=by push_cast;rfl
      have hjl:n*e≤3600:=Nat.mul_le_mul hn (show e≤60 by omega)
      walk_at "w"
      refine rd_rI (.inl ⟨by omega,by omega⟩) ?_
      rw [hj]
      walk_at "w"
      refine rd_rI ⟨by omega,by omega,by show ((r:Nat):Int).natAbs<_;rw [Int.natAbs_natCast];exact Nat.lt_of_lt_of_le hr' (by decide)⟩ ?_
      rw [Int.toNat_natCast,show ((r:Nat):Int)*2 ^ (n*e)=((r*2 ^ (n*e):Nat):Int) by push_cast;rfl]
      exact kk H' (Same.refl _)
    · intro H' s hl
      rw [natsL] at hl
      walk_at "w"
      exact ⟨false,D,_,rfl,SqL.of hl,fun H2 s2=>k H2 (s.trans s2)⟩
def Sized (c:Cs) (H:Hp) (v:V) (e p:Nat):Prop:=(∃ x n rs,v= .ref x∧ClAt c.Cloth H x n rs∧e=n∧p=rs.length)∨∃ x d,v= .ref x∧DrAt c.Draft H x d∧e=d.th.length∧p=d.td.length
def sp_goes_over (c:Cs):Sp:=fun vs H Q _=>∃ (v:V) (e p a d:Nat),vs=[v,nV a,nV d]∧Sized c H v e p∧e≤60∧p≤60∧a<2 ^ 200∧d<2 ^ 200∧Q (.bl (decide (e*a≤60∧p*d≤60))) H
theorem big9 {a:Nat} (h:a<2 ^ 200):a<2 ^ 900:=Nat.lt_of_lt_of_le h (Nat.pow_le_pow_right (by decide) (by decide))
theorem sm9 {a:Nat} (h:a≤60):a<2 ^ 900:=Nat.lt_of_le_of_lt h (Nat.lt_of_lt_of_le (show 60<2 ^ 6 by decide) (Nat.pow_le_pow_right (by decide) (by decide)))
theorem le60 (m:Nat):decide (((m:Nat):Int)≤60)=decide (m≤60):=decide_eq_decide.mpr (by omega)
abbrev s_goes_over:Stmt:=top 44
theorem sc_goes_over:FnScope ["thing","across","down"] ["thing","across","down"] (defScope s_goes_over):=⟨rfl,rfl,rfl,by decide +kernel,rfl,by decide +kernel,by decide +kernel⟩
theorem ok_goes_over {f:Addr} {fd:FuncData} (F:Fun K "goes_over" "goes_over" s_goes_over f fd) (T:Txt K mg c) (d_Cloth_ends:MethF P w K mg base c.Cloth "ends" 1 ["self"] (sp_Cloth_ends c)) (d_Cloth_picks:MethF P w K mg base c.Cloth "picks" 1 ["self"] (sp_Cloth_picks c)) (d_Draft_ends:MethF P w K mg base c.Draft "ends" 1 ["self"] (sp_Draft_ends c)) (d_Draft_picks:MethF P w K mg base c.Draft "picks" 1 ["self"] (sp_Draft_picks c)):FnOk P w K mg base CX0 2 f fd ["thing","across","down"] (sp_goes_over c):=by
  refine F.ok sc_goes_over (fun vs H Q E h=> ?_) (fun cdv A outer s H vs Q E hr h=> ?_)
  · obtain ⟨v,e,p,a,d,rfl,_⟩:=h
    rfl
  · obtain ⟨v,e,p,a,d,rfl,sz,e6,p6,ha,hd,k⟩:=h
    have c1:CMulN ((e:Nat):Int) ((a:Nat):Int):=⟨e,a,rfl,rfl,sm9 e6,big9 ha⟩
    have c2:CMulN ((p:Nat):Int) ((d:Nat):Int):=⟨p,d,rfl,rfl,sm9 p6,big9 hd⟩
    have j1:((e:Nat):Int)*((a:Nat):Int)=((e*a:Nat):Int):=by push_cast;rfl
    have j2:((p:Nat):Int)*((d:Nat):Int)=((p*d:Nat):Int):=by push_cast;rfl
    rcases sz with ⟨x,n,rs,rfl,cx,rfl,rfl⟩ | ⟨x,dd,rfl,cx,rfl,rfl⟩
    · obtain ⟨dx,tx,hx,_⟩:=id cx
      refine ⟨_,(pss_one (ps_ret (pe_and (pe_cmpR op_le (pe_op op_mulN (pe_methF0 (pv 0) d_Cloth_ends hr) (pv 1)) (pe_gI T.k_MOST_ENDS) (nomark _)) (pe_one (pe_cmpR op_le (pe_op op_mulN (pe_methF0 (pv 0) d_Cloth_picks hr) (pv 2)) (pe_gI T.k_MOST_PICKS) (nomark _)))))),?_⟩
      walk_at "w"
      refine ⟨_,_,_,rfl,hx,rfl,?_⟩
      walk_at "w"
      refine ⟨x,e,rs,rfl,cx,?_⟩
      walk_at "w"
      refine rd_rI c1 ?_
      rw [j1]
      walk_at "w"
      rw [le60]
      by_cases h1:e*a≤60
      · rw [decide_eq_true h1]
        refine iteT ?_
        walk_at "w"
        refine ⟨_,_,_,rfl,hx,rfl,?_⟩
        walk_at "w"
        refine ⟨x,e,rs,rfl,cx,?_⟩
        walk_at "w"
        refine rd_rI c2 ?_
        rw [j2]
        walk_at "w"
        rw [le60]
        rw [show decide (e*a≤60∧rs.length*d≤60)=decide (rs.length*d≤60) from decide_eq_decide.mpr ⟨fun z=>z.2,fun z=>⟨h1,z⟩⟩] at k
        exact k
      · rw [decide_eq_false h1]
        refine iteF ?_
        rw [show decide (e*a≤60∧rs.length*d≤60)=false from decide_eq_false fun z=>h1 z.1] at k
        exact k
    · obtain ⟨dx,v1,v2,v3,v4,v5,hx,_⟩:=id cx
      refine ⟨_,(pss_one (ps_ret (pe_and (pe_cmpR op_le (pe_op op_mulN (pe_methF0 (pv 0) d_Draft_ends hr) (pv 1)) (pe_gI T.k_MOST_ENDS) (nomark _)) (pe_one (pe_cmpR op_le (pe_op op_mulN (pe_methF0 (pv 0) d_Draft_picks hr) (pv 2)) (pe_gI T.k_MOST_PICKS) (nomark _)))))),?_⟩
      walk_at "w"
      refine ⟨_,_,_,rfl,hx,rfl,?_⟩
      walk_at "w"
      refine ⟨x,dd,rfl,cx,?_⟩
      walk_at "w"
      refine rd_rI c1 ?_
      rw [j1]
      walk_at "w"
      rw [le60]
      by_cases h1:dd.th.length*a≤60
      · rw [decide_eq_true h1]
        refine iteT ?_
        walk_at "w"
        refine ⟨_,_,_,rfl,hx,rfl,?_⟩
        walk_at "w"
        refine ⟨x,dd,rfl,cx,?_⟩
        walk_at "w"
        refine rd_rI c2 ?_
        rw [j2]
        walk_at "w"
        rw [le60]
        rw [show decide (dd.th.length*a≤60∧dd.td.length*d≤60)=decide (dd.td.length*d≤60) from decide_eq_decide.mpr ⟨fun z=>z.2,fun z=>⟨h1,z⟩⟩] at k
        exact k
      · rw [decide_eq_false h1]
        refine iteF ?_
        rw [show decide (dd.th.length*a≤60∧dd.td.length*d≤60)=false from decide_eq_false fun z=>h1 z.1] at k
        exact k
def overL (n:Nat) (rs:List Nat) (a d:Nat):List Nat:=(List.replicate d (rs.map fun r=>overN r n a)).flatten
theorem rep_len {α:Type} (d:Nat) (l:List α):(List.replicate d l).flatten.length=d*l.length:=by simp
theorem rep_map {α β:Type} (f:α→β) (d:Nat) (l:List α):(List.replicate d (l.map f)).flatten=(List.replicate d l).flatten.map f:=by
  rw [List.map_flatten,List.map_replicate]
theorem rep_mem {α:Type} {d:Nat} {l:List α} {x:α} (h:x∈(List.replicate d l).flatten):x∈l:=by
  obtain ⟨m,h1,h2⟩:=List.mem_flatten.mp h
  rw [(List.mem_replicate.mp h1).2] at h2
  exact h2
def sp_told_over (c:Cs):Sp:=fun vs H Q E=>∃ x n rs,∃ a d:Nat,vs=[.ref x,nV a,nV d]∧ClAt c.Cloth H x n rs∧ClOk n rs∧1≤a∧1≤d∧a<2 ^ 200∧d<2 ^ 200∧
  (n*a≤60→rs.length*d≤60→∀ H' u,Same H H'→H u=none→ClAt c.Cloth H' u (n*a) (overL n rs a d)→Q (.ref u) H')∧(¬ (n*a≤60∧rs.length*d≤60)→∀ H',Same H H'→E (.ref c.BadCloth) none H')
abbrev s_told_over:Stmt:=top 45
theorem sc_told_over:FnScope ["cloth","across","down","ends"] ["cloth","across","down"] (defScope s_told_over):=⟨rfl,rfl,rfl,by decide +kernel,rfl,by decide +kernel,by decide +kernel⟩
theorem ok_told_over {f:Addr} {fd:FuncData} (F:Fun K "told_over" "told_over" s_told_over f fd) (T:Txt K mg c) (c_goes_over:CallF P w K mg base "goes_over" 2 ["thing","across","down"] (sp_goes_over c)) (c_row_over:CallF P w K mg base "row_over" 2 ["row","ends","across"] (sp_row_over K)) (d_Cloth_ends:MethF P w K mg base c.Cloth "ends" 1 ["self"] (sp_Cloth_ends c)) (m_Cloth:MakeE P w K mg base "Cloth" c.Cloth 4 ["self","ends","rows"] (sp_Cloth___init__ K c)):FnOk P w K mg base (CXE P w) 6 f fd ["cloth","across","down"] (sp_told_over c):=by
  refine Fun.okE F sc_told_over (fun vs H Q E h=> ?_) (fun cdv A outer s H vs Q E hr h=> ?_)
  · obtain ⟨x,n,rs,a,d,rfl,_⟩:=h
    rfl
  · obtain ⟨x,n,rs,a,d,rfl,cx,okx,a1,d1,ha,hd,kq,ke⟩:=h
    obtain ⟨dx,tx,hx,htx⟩:=id cx
    have n1:=okx.n1
    have n2:=okx.n2
    have p1:=okx.p1
    have p2:=okx.p2
    refine ⟨_,(pss_cons (ps_if (pt_not (pt_val (pe_callF c_goes_over (hr.mono (by decide)) (pa_cons (pv 0) (pa_cons (pv 1) (pa_cons (pv 2) pa_nil)))))) (pss_one (ps_raiseK T.g_BadCloth T.xi_BadCloth (pa_cons pe_str pa_nil))) pss_nil)
      (pss_cons (ps_set (i:=3) sc_told_over.nd rfl (Or.inr rfl) (pe_methF0 (pv 0) d_Cloth_ends (hr.mono (by decide))))
      (pss_one (ps_ret (pe_makeE m_Cloth hr passE (pa_cons (pe_op op_mul (pv 3) (pv 1)) (pa_cons (pe_op op_rep (pe_comp1 (k_pit (K:=K) (k_fld (K:=K) (pv 0) rfl)) (fun _ _ _ _=>pts_nil) (fun _ _ _ _=>(pe_callF c_row_over (hr.mono (by decide)) (pa_cons (pv 0) (pa_cons (pv 2) (pa_cons (pv 1) pa_nil)))))) (pv 2)) pa_nil))))))),?_⟩
    walk_at "w"
    refine ⟨.ref x,n,rs.length,a,d,rfl, .inl ⟨x,n,rs,rfl,cx,rfl,rfl⟩,n2,p2,ha,hd,?_⟩
    by_cases h1:n*a≤60∧rs.length*d≤60
    rotate_left
    · rw [decide_eq_false h1]
      refine ⟨false,rfl,?_⟩
      refine iteT ?_
      walk_at "w"
      exact ⟨by decide,ke h1 H (Same.refl _)⟩
    obtain ⟨m1,m2⟩:=id h1
    have aa:a≤60:=Nat.le_trans (Nat.le_mul_of_pos_left _ n1) m1
    have dd:d≤60:=Nat.le_trans (Nat.le_mul_of_pos_left _ p1) m2
    rw [decide_eq_true h1]
    refine ⟨true,rfl,?_⟩
    refine iteF ?_
    walk_at "w"
    refine ⟨_,_,_,rfl,hx,rfl,?_⟩
    walk_at "w"
    refine ⟨x,n,rs,rfl,cx,?_⟩
    walk_at "w"
    refine rd_makeE ?_
    walk_at "w"
    refine rd_rI (.inl ⟨by omega,by omega⟩) ?_
    rw [show ((n:Nat):Int)*((a:Nat):Int)=((n*a:Nat):Int) by push_cast;rfl]
    walk_at "w"
    refine ⟨_,_,_,_,_,rfl,hx,T.kd_Cloth.cl,T.na_Cloth_rows,rfl,?_⟩
    walk_at "w"
    refine ⟨tx,rfl,⟨_,SqT.of htx⟩,fun D hD=> ?_⟩
    refine ints_comp (G:=fun i=>((overN (rs.getD i 0) n a:Nat):Int)) (src_tup (SqT.of htx) rfl) hD (by rw [List.length_map];omega) ?_ ?_
    · intro i H4 R hi s4 kk
      have hi':i<rs.length:=by simpa using hi
      have lt:=Nat.lt_of_lt_of_le (okx.lt _ (getD_mem hi' (y:=0))) (Nat.pow_le_pow_right (show 0<2 by decide) n2)
      rw [getD_nat hi]
      walk_at "w"
      exact ⟨_,n,a,rfl,lt,n2,aa,fun H5 s5=>kk H5 s5⟩
    intro H1 s1 g1
    rw [natsL,List.length_map,map_range_getD (fun r=>overN r n a) rs 0] at g1
    walk_at "w"
    refine rd_rep g1 (by omega) (by omega) (by simp;omega) fun l hl=> ?_
    rw [Int.toNat_natCast,rep_map]
    have s2:=same_new (o:=HO.lst ((overL n rs a d).map nV)) hl
    have g2:upd H1 l (HO.lst ((overL n rs a d).map nV)) l=_:=upd_same
    show _
    have okb:ClOk (n*a) (overL n rs a d):=⟨Nat.mul_pos n1 a1,m1,by unfold overL;rw [rep_len,List.length_map];exact Nat.mul_pos d1 p1,by unfold overL;rw [rep_len,List.length_map,Nat.mul_comm];exact m2,fun r hr=>by
      obtain ⟨z,hz,rfl⟩:=List.mem_map.mp (rep_mem hr)
      exact over_lt (okx.lt _ hz)⟩
    walk_at "w"
    exact cl_make g2 okb fun H3 u s3 hu C3=>kq m1 m2 H3 u (s1.trans (s2.trans s3)) ((s1.trans s2).free hu) C3
end
end K17
open L2
namespace K17
open PySem L2 PySem.Spec PyProof.Rows
seal L2.PE L2.PT L2.PW L2.PA L2.PS L2.PSs L2.PI L2.PG L2.PTs L2.PGs
section
variable {P:Program} {w:World} {K:PySem.W.Frag} {mg:Str→Option Value} {base:Heap} {c:Cs}
def pK:List Key:=[.inr "shafts", .inr "treadles", .inr "threading", .inr "ties", .inr "treading", .inr "warp", .inr "weft"]
structure Turns (H:Hp) (d:Dr) (more:List (Key × V)) (d':Dr):Prop where
  few:more.length≤15
  to:∀ (H1:Hp) (w0 w1 w2 w3 w4 w5 w6:V),Same H H1→Parts H1 d [w0,w1,w2,w3,w4,w5,w6]→∃ u0 u1 u2 u3 u4 u5 u6,Parts H1 d' [u0,u1,u2,u3,u4,u5,u6]∧
    ∀ j u,[u0,u1,u2,u3,u4,u5,u6][j]?=some u→valV (mergeK (mergeK [] (pK.zip [w0,w1,w2,w3,w4,w5,w6])) more) (pK.getD j (.inr ""))=some u
def sp_changed_draft (c:Cs):Sp:=fun vs H Q _=>∃ x d b more d',vs=[.ref x, .ref b]∧DrAt c.Draft H x d∧DrOk d∧H b=some (.dK more)∧Turns H d more d'∧DrOk d'∧∀ H' y,Same H H'→H y=none→DrAt c.Draft H' y d'→Q (.ref y) H'
abbrev s_changed_draft:Stmt:=top 39
theorem sc_changed_draft:FnScope ["draft","changes","parts"] ["draft","changes"] (defScope s_changed_draft):=⟨rfl,rfl,rfl,by decide +kernel,rfl,by decide +kernel,by decide +kernel⟩
theorem ok_changed_draft {f:Addr} {fd:FuncData} (F:Fun K "changed_draft" "changed_draft" s_changed_draft f fd) (T:Txt K mg c) (d_Draft_told:MethF P w K mg base c.Draft "told" 1 ["self"] (sp_Draft_told c)) (m_Draft:MakeF P w K mg base "Draft" c.Draft 6 ["self","shafts","treadles","threading","ties","treading","warp","weft"] (sp_Draft___init__ c)):FnOk P w K mg base CX0 8 f fd ["draft","changes"] (sp_changed_draft c):=by
  refine F.ok sc_changed_draft (fun vs H Q E h=> ?_) (fun cdv A outer s H vs Q E hr h=> ?_)
  · obtain ⟨x,d,b,more,d',rfl,_⟩:=h
    rfl
  · obtain ⟨x,d,b,more,d',rfl,cx,ok,hb,tu,ok',k⟩:=h
    obtain ⟨dx,v1,v2,v3,v4,v5,hx,_⟩:=id cx
    have hu1:=hr.units1
    have few:=tu.few
    refine ⟨_,(pss_cons (ps_set (i:=2) sc_changed_draft.nd rfl (Or.inl rfl) (pe_dictZip (K:=K) rfl (T.own _ (by decide)) rfl (T.own _ (by decide)) (pa_cons (pe_gC T.g_PARTS) (pa_cons (pe_methF0 (pv 0) d_Draft_told (hr.mono (by decide))) pa_nil))))
      (pss_cons (ps_expr (kx_bm (K:=K) PySem.F.plainAttrs_dict PySem.F.slot_dict_update PySem.F.type_dict_update mt_update (pv 2) (pa_cons (pv 1) pa_nil)))
      (pss_one (ps_ret (pe_makeF m_Draft hr (pa_cons (pe_dget hu1 (pv 2) pe_str (fun _ _=>rfl)) (pa_cons (pe_dget hu1 (pv 2) pe_str (fun _ _=>rfl)) (pa_cons (pe_dget hu1 (pv 2) pe_str (fun _ _=>rfl)) (pa_cons (pe_dget hu1 (pv 2) pe_str (fun _ _=>rfl)) (pa_cons (pe_dget hu1 (pv 2) pe_str (fun _ _=>rfl)) (pa_cons (pe_dget hu1 (pv 2) pe_str (fun _ _=>rfl)) (pa_cons (pe_dget hu1 (pv 2) pe_str (fun _ _=>rfl)) pa_nil)))))))))))),?_⟩
    walk_at "w"
    refine rd_dictZip ?_
    walk_at "w"
    refine ⟨_,_,_,rfl,hx,rfl,?_⟩
    walk_at "w"
    refine ⟨x,d,rfl,cx,fun H1 p s1 hp r1=> ?_⟩
    obtain ⟨m,a,w0,w1,w2,w3,w4,w5,w6,em,ep,ha,q0,q1,q2,q3,q4,q5,q6⟩:=tup7_of r1
    cases em
    cases ep
    walk_at "w"
    refine ⟨true,true,c.PARTS,p,pK,[w0,w1,w2,w3,w4,w5,w6],rfl,T.t_PARTS _,SqT.of ha,rfl,by decide,fun H2 D s2 hD gD=> ?_⟩
    cases q0
    cases q1
    obtain ⟨b2,rfl,e2,_,_⟩:=dL_of q2
    obtain ⟨b5,rfl,e5,_,_⟩:=dS_of q5
    obtain ⟨b6,rfl,e6,_,_⟩:=dS_of q6
    have P1:Parts H1 d [nV d.sh,nV d.tr, .ref b2,w3,w4, .ref b5, .ref b6]:=⟨_,_,_,_,_,rfl,e2,q3.any,q4.any,e5,e6⟩
    obtain ⟨u0,u1,u2,u3,u4,u5,u6,P2,val⟩:=tu.to H1 _ _ _ _ _ _ _ s1 P1
    have hb2:=s2 _ _ (s1 _ _ hb)
    have nDb:D≠b:=fun z=>by
      have:=s1 _ _ hb
      rw [← z,hD] at this
      cases this
    walk_at "w"
    refine ⟨.inr (.inr (.inl ⟨rfl, .inl ⟨_,gD⟩⟩)),?_⟩
    walk_at "w"
    refine rd_upd nDb gD hb2 (Nat.le_trans (Nat.add_le_add_right (Nat.le_trans (length_mergeK _ []) (show _≤7 by simp [pK])) _) (by omega)) ?_
    have s3:Same H1 (upd H2 D (.dK (mergeK (mergeK [] (pK.zip [nV d.sh,nV d.tr, .ref b2,w3,w4, .ref b5, .ref b6])) more))):=fun q o e=>by
      rw [upd_ne (ne_of_none e hD)]
      exact s2 _ _ e
    have g3:upd H2 D (.dK (mergeK (mergeK [] (pK.zip [nV d.sh,nV d.tr, .ref b2,w3,w4, .ref b5, .ref b6])) more)) D=_:=upd_same
    generalize upd H2 D (.dK (mergeK (mergeK [] (pK.zip [nV d.sh,nV d.tr, .ref b2,w3,w4, .ref b5, .ref b6])) more))=H3 at s3 g3 ⊢
    have get:∀ j u,[u0,u1,u2,u3,u4,u5,u6][j]?=some u→DGet H3 D (kV (pK.getD j (.inr ""))) (some u):=fun j u e=>by
      rw [← val j u e]
      exact DGet.k g3
    walk_at "w"
    refine ⟨D,u0,rfl,get 0 u0 rfl,?_⟩
    walk_at "w"
    refine ⟨D,u1,rfl,get 1 u1 rfl,?_⟩
    walk_at "w"
    refine ⟨D,u2,rfl,get 2 u2 rfl,?_⟩
    walk_at "w"
    refine ⟨D,u3,rfl,get 3 u3 rfl,?_⟩
    walk_at "w"
    refine ⟨D,u4,rfl,get 4 u4 rfl,?_⟩
    walk_at "w"
    refine ⟨D,u5,rfl,get 5 u5 rfl,?_⟩
    walk_at "w"
    refine ⟨D,u6,rfl,get 6 u6 rfl,?_⟩
    walk_at "w"
    refine dr_make (P2.same s3) ok' fun H4 y s4 hy D4=> ?_
    exact k H4 y (s1.trans (s3.trans s4)) (s1.free (s3.free hy)) D4
end
end K17
open L2
namespace K17
open PySem L2 PySem.Spec PyProof.Rows
seal L2.PE L2.PT L2.PW L2.PA L2.PS L2.PSs L2.PI L2.PG L2.PTs L2.PGs
section
variable {P:Program} {w:World} {K:PySem.W.Frag} {mg:Str→Option Value} {base:Heap} {c:Cs}
def repL {α:Type} (n:Nat) (l:List α):List α:=(List.replicate n l).flatten
def overD (d:Dr) (a k:Nat):Dr:={ d with th:=repL a d.th,td:=repL k d.td,wa:=repL a d.wa,we:=repL k d.we }
theorem overD_ok {d:Dr} {a k:Nat} (ok:DrOk d) (a1:1≤a) (k1:1≤k) (h1:d.th.length*a≤60) (h2:d.td.length*k≤60):DrOk (overD d a k) where
  s1:=ok.s1
  s2:=ok.s2
  t1:=ok.t1
  t2:=ok.t2
  h1:=by show 1≤(repL a d.th).length;unfold repL;rw [rep_len];exact Nat.mul_pos a1 ok.h1
  h2:=by show (repL a d.th).length≤60;unfold repL;rw [rep_len,Nat.mul_comm];exact h1
  hs:=fun n hn=>ok.hs n (rep_mem hn)
  il:=ok.il
  ir:=ok.ir
  p1:=by show 1≤(repL k d.td).length;unfold repL;rw [rep_len];exact Nat.mul_pos k1 ok.p1
  p2:=by show (repL k d.td).length≤60;unfold repL;rw [rep_len,Nat.mul_comm];exact h2
  pr:=fun l hl=>ok.pr l (rep_mem hl)
  wl:=by show (repL a d.wa).length=(repL a d.th).length;unfold repL;rw [rep_len,rep_len,ok.wl]
  wc:=fun z hz=>ok.wc z (rep_mem hz)
  fl:=by show (repL k d.we).length=(repL k d.td).length;unfold repL;rw [rep_len,rep_len,ok.fl]
  fc:=fun z hz=>ok.fc z (rep_mem hz)
theorem two_app {P:V→Dt→Prop} {vs ws:List V} {ds es:List Dt} (l:vs.length=ds.length) (h:∀ (i:Nat) v d,vs[i]?=some v→ds[i]?=some d→P v d) (h2:∀ (i:Nat) v d,ws[i]?=some v→es[i]?=some d→P v d):∀ (i:Nat) v d,(vs++ws)[i]?=some v→(ds++es)[i]?=some d→P v d:=fun i v d e1 e2=>by
  by_cases hi:i<vs.length
  · rw [List.getElem?_append_left hi] at e1
    rw [List.getElem?_append_left (by omega)] at e2
    exact h i v d e1 e2
  · rw [List.getElem?_append_right (by omega)] at e1
    rw [List.getElem?_append_right (by omega), ← l] at e2
    exact h2 _ v d e1 e2
theorem two_rep {P:V→Dt→Prop} {vs:List V} {ds:List Dt} (l:vs.length=ds.length) (h:∀ (i:Nat) v d,vs[i]?=some v→ds[i]?=some d→P v d):∀ (n i:Nat) v d,(repL n vs)[i]?=some v→(repL n ds)[i]?=some d→P v d
  | 0,i,v,d,e,_=>by simp [repL] at e
  | n+1,i,v,d,e1,e2=>by
    unfold repL at e1 e2
    rw [List.replicate_succ,List.flatten_cons] at e1 e2
    exact two_app l h (two_rep l h n) i v d e1 e2
theorem rp_rep {H H':Hp} {a b:Addr} {n k:Nat} {vs:List V} {ds:List Dt} (r:Rp H FT (n+1) (.ref a) (.lst ds)) (ha:H a=some (.lst vs)) (s:Same H H') (hb:H' b=some (.lst (repL k vs))) (hl:k*vs.length≤100000):Rp H' FT (n+1) (.ref b) (.lst (repL k ds)):=by
  cases r with
  | lst h f bb l e=>
    rw [ha] at h
    cases h
    refine .lst hb trivial (by unfold repL;rw [rep_len];exact hl) (by unfold repL;rw [rep_len,rep_len,l]) ?_
    exact two_rep l (fun i v d h1 h2=>(e i v d h1 h2).same s) k
theorem rp_only {H H':Hp} {F:Addr→Prop} {n:Nat} {v:V} {d:Dt} (r:Rp H F n v d) (k:∀ a xs,(H a=some (.lst xs)→H' a=some (.lst xs))∧(H a=some (.tup xs)→H' a=some (.tup xs))):Rp H' F n v d:=by
  induction r with
  | non=>exact .non
  | bl b=>exact .bl b
  | int i=>exact .int i
  | str z=>exact .str z
  | lst h f b l e ih=>exact .lst ((k _ _).1 h) f b l ih
  | tup h b l e ih=>exact .tup ((k _ _).2 h) b l ih
def sp_draft_told_over (c:Cs):Sp:=fun vs H Q E=>∃ x d,∃ a k:Nat,vs=[.ref x,nV a,nV k]∧DrAt c.Draft H x d∧DrOk d∧1≤a∧1≤k∧a<2 ^ 200∧k<2 ^ 200∧
  (d.th.length*a≤60→d.td.length*k≤60→∀ H' y,Same H H'→H y=none→DrAt c.Draft H' y (overD d a k)→Q (.ref y) H')∧(¬ (d.th.length*a≤60∧d.td.length*k≤60)→∀ H',Same H H'→E (.ref c.BadDraft) none H')
theorem four_is (v1 v2 v3 v4:V):mergeK [] [((.inr "threading":Key),v1),(.inr "treading",v2),(.inr "warp",v3),(.inr "weft",v4)]=[((.inr "threading":Key),v1),(.inr "treading",v2),(.inr "warp",v3),(.inr "weft",v4)]:=by kernel_rfl
theorem four_to {H:Hp} {d:Dr} {a k:Nat} {l1 l2 l3 l4:Addr} (g1:H l1=some (.lst ((repL a d.th).map nV))) (g2:Rp H FT 2 (.ref l2) (dLL (repL k d.td))) (g3:H l3=some (.lst ((repL a d.wa).map V.str))) (g4:H l4=some (.lst ((repL k d.we).map V.str))):
    Turns H d [((.inr "threading":Key), .ref l1),(.inr "treading", .ref l2),(.inr "warp", .ref l3),(.inr "weft", .ref l4)] (overD d a k):=by
  refine ⟨(show 4≤15 by decide),fun H1 w0 w1 w2 w3 w4 w5 w6 s P=> ?_⟩
  obtain ⟨a1,v2,v3,a4,a5,e,h1,h2,h3,h4,h5⟩:=P.ex
  injection e with e0 e
  injection e with e1 e
  injection e with e2 e
  injection e with e3 e
  subst e0 e1 e3
  refine ⟨_,_, .ref l1,_, .ref l2, .ref l3, .ref l4,⟨_,_,_,_,_,rfl,s _ _ g1,h2,g2.same s,s _ _ g3,s _ _ g4⟩,fun j u e=> ?_⟩
  match j,e with
  | 0,e=>cases e;kernel_rfl
  | 1,e=>cases e;kernel_rfl
  | 2,e=>cases e;kernel_rfl
  | 3,e=>cases e;kernel_rfl
  | 4,e=>cases e;kernel_rfl
  | 5,e=>cases e;kernel_rfl
  | 6,e=>cases e;kernel_rfl
abbrev s_draft_told_over:Stmt:=top 46
theorem sc_draft_told_over:FnScope ["draft","across","down","changes"] ["draft","across","down"] (defScope s_draft_told_over):=⟨rfl,rfl,rfl,by decide +kernel,rfl,by decide +kernel,by decide +kernel⟩
theorem ok_draft_told_over {f:Addr} {fd:FuncData} (F:Fun K "draft_told_over" "draft_told_over" s_draft_told_over f fd) (T:Txt K mg c) (c_goes_over:CallF P w K mg base "goes_over" 2 ["thing","across","down"] (sp_goes_over c)) (c_changed_draft:CallF P w K mg base "changed_draft" 8 ["draft","changes"] (sp_changed_draft c)):FnOk P w K mg base (CXE P w) 9 f fd ["draft","across","down"] (sp_draft_told_over c):=by
  refine Fun.okE F sc_draft_told_over (fun vs H Q E h=> ?_) (fun cdv A outer s H vs Q E hr h=> ?_)
  · obtain ⟨x,d,a,k,rfl,_⟩:=h
    rfl
  · obtain ⟨x,d,a,k0,rfl,cx,ok,a1,k1,ha,hk,kq,ke⟩:=h
    obtain ⟨dx,v1,v2,v3,v4,v5,h0,h1,h2,h3,h4,h5⟩:=id cx
    obtain ⟨b1,rfl,e1,bb1⟩:=dT_of h1
    obtain ⟨m3,b3,vs3,em3,rfl,e3,l3,bb3,el3⟩:=tup_of h3
    cases em3
    obtain ⟨b4,rfl,e4,bb4⟩:=dST_of h4
    obtain ⟨b5,rfl,e5,bb5⟩:=dST_of h5
    rw [List.length_map] at l3
    have t2:=ok.h2
    have q2:=ok.p2
    have wl:=ok.wl
    have fl:=ok.fl
    refine ⟨_,(pss_cons (ps_if (pt_not (pt_val (pe_callF c_goes_over (hr.mono (by decide)) (pa_cons (pv 0) (pa_cons (pv 1) (pa_cons (pv 2) pa_nil)))))) (pss_one (ps_raiseK T.g_BadDraft T.xi_BadDraft (pa_cons pe_str pa_nil))) pss_nil)
      (pss_cons (ps_set (i:=3) sc_draft_told_over.nd rfl (Or.inl rfl) (pe_disp (pps_cons pe_str (pe_op op_rep (pe_callTy (k_list (K:=K)) rfl (T.own _ (by decide)) boot_list' (pa_cons (k_fld (K:=K) (pv 0) rfl) pa_nil)) (pv 1)) (pps_cons pe_str (pe_op op_rep (pe_comp1 (k_pit (K:=K) (k_fld (K:=K) (pv 0) rfl)) (fun _ _ _ _=>pts_nil) (fun _ _ _ _=>(pe_callTy (k_list (K:=K)) rfl (T.own _ (by decide)) boot_list' (pa_cons (pv 0) pa_nil)))) (pv 2)) (pps_cons pe_str (pe_op op_rep (pe_callTy (k_list (K:=K)) rfl (T.own _ (by decide)) boot_list' (pa_cons (k_fld (K:=K) (pv 0) rfl) pa_nil)) (pv 1)) (pps_cons pe_str (pe_op op_rep (pe_callTy (k_list (K:=K)) rfl (T.own _ (by decide)) boot_list' (pa_cons (k_fld (K:=K) (pv 0) rfl) pa_nil)) (pv 2)) pps_nil)))) rfl rfl (by simp) (by decide)))
      (pss_one (ps_ret (pe_callF c_changed_draft hr (pa_cons (pv 0) (pa_cons (pv 3) pa_nil))))))),?_⟩
    walk_at "w"
    refine ⟨.ref x,d.th.length,d.td.length,a,k0,rfl, .inr ⟨x,d,rfl,cx,rfl,rfl⟩,t2,q2,ha,hk,?_⟩
    by_cases hf:d.th.length*a≤60∧d.td.length*k0≤60
    rotate_left
    · rw [decide_eq_false hf]
      refine ⟨false,rfl,?_⟩
      refine iteT ?_
      walk_at "w"
      exact ⟨by decide,ke hf H (Same.refl _)⟩
    obtain ⟨m1,m2⟩:=id hf
    have aa:a≤60:=Nat.le_trans (Nat.le_mul_of_pos_left _ ok.h1) m1
    have kk0:k0≤60:=Nat.le_trans (Nat.le_mul_of_pos_left _ ok.p1) m2
    rw [decide_eq_true hf]
    refine ⟨true,rfl,?_⟩
    refine iteF ?_
    walk_at "w"
    intro p hp
    have s0:=same_new (o:=HO.dK []) hp
    have gp:upd H p (HO.dK []) p=_:=upd_same
    generalize upd H p (HO.dK [])=H0 at s0 gp ⊢
    walk_at "w"
    refine ⟨_,_,_,_,_,rfl,s0 _ _ h0,T.kd_Draft.cl,T.na_Draft_threading,rfl,?_⟩
    walk_at "w"
    refine rd_listOfT (SqT.of (s0 _ _ e1)) fun l1 hl1=> ?_
    have s1:=same_new (o:=HO.lst (d.th.map nV)) hl1
    have g1:upd H0 l1 (HO.lst (d.th.map nV)) l1=_:=upd_same
    generalize upd H0 l1 (HO.lst (d.th.map nV))=H1 at s1 g1 ⊢
    walk_at "w"
    refine rd_rep g1 (by omega) (by omega) (by simp;omega) fun l2 hl2=> ?_
    rw [Int.toNat_natCast,rep_map]
    have s2:=same_new (o:=HO.lst ((List.replicate a d.th).flatten.map nV)) hl2
    have g2:upd H1 l2 (HO.lst ((List.replicate a d.th).flatten.map nV)) l2=some (.lst ((repL a d.th).map nV)):=upd_same
    generalize upd H1 l2 (HO.lst ((List.replicate a d.th).flatten.map nV))=H2 at s2 g2 ⊢
    have s02:=s0.trans (s1.trans s2)
    have gp:=s2 _ _ (s1 _ _ gp)
    walk_at "w"
    refine ⟨_,_,_,_,_,rfl,s02 _ _ h0,T.kd_Draft.cl,T.na_Draft_treading,rfl,?_⟩
    walk_at "w"
    refine ⟨b3,rfl,⟨_,SqT.of (s02 _ _ e3)⟩,fun D3 hD3=> ?_⟩
    refine comp_map (m:=1) (G:=fun i=>dL (d.td.getD i [])) (src_tup (SqT.of (s02 _ _ e3)) rfl) hD3 bb3 ?_ ?_
    · intro i H' R hi s kk
      have hi':i<d.td.length:=by omega
      have r:=el3 i (by simpa using hi')
      rw [getD_map dT d.td i .non [] hi'] at r
      obtain ⟨b,eb,hb3,hb4⟩:=dT_of r
      rw [eb]
      walk_at "w"
      exact rd_listOfT (SqT.of (s _ _ (s02 _ _ hb3))) fun q hq=>kk _ _ (same_new hq) (rp_L upd_same hq hb4)
    intro H3 ys3 s3 hl3 r3
    rw [l3,map_L] at r3
    have r3:Rp H3 FT 2 (.ref D3) (dLL d.td):=r3.any
    have ly:ys3.length=d.td.length:=by
      cases r3 with
      | lst h f b l e=>
        rw [hl3] at h
        cases h
        rw [l,List.length_map]
    walk_at "w"
    refine rd_rep hl3 (by omega) (by omega) (by omega) fun l4 hl4=> ?_
    rw [Int.toNat_natCast]
    have s4:=same_new (o:=HO.lst (List.replicate k0 ys3).flatten) hl4
    have g4:upd H3 l4 (HO.lst (List.replicate k0 ys3).flatten) l4=some (.lst (repL k0 ys3)):=upd_same
    generalize upd H3 l4 (HO.lst (List.replicate k0 ys3).flatten)=H4 at s4 g4 ⊢
    have r4:Rp H4 FT 2 (.ref l4) (dLL (repL k0 d.td)):=by
      have:=rp_rep (k:=k0) r3 hl3 s4 g4 (by rw [ly,Nat.mul_comm];omega)
      unfold dLL
      rw [show (repL k0 d.td).map dL=repL k0 (d.td.map dL) from (rep_map dL k0 d.td).symm]
      exact this
    have s04:=s02.trans (s3.trans s4)
    have gp:=s4 _ _ (s3 _ _ gp)
    walk_at "w"
    refine ⟨_,_,_,_,_,rfl,s04 _ _ h0,T.kd_Draft.cl,T.na_Draft_warp,rfl,?_⟩
    walk_at "w"
    refine rd_listOfT (SqT.of (s04 _ _ e4)) fun l5 hl5=> ?_
    have s5:=same_new (o:=HO.lst (d.wa.map V.str)) hl5
    have g5:upd H4 l5 (HO.lst (d.wa.map V.str)) l5=_:=upd_same
    generalize upd H4 l5 (HO.lst (d.wa.map V.str))=H5 at s5 g5 ⊢
    walk_at "w"
    refine rd_rep g5 (by omega) (by omega) (by simp;omega) fun l6 hl6=> ?_
    rw [Int.toNat_natCast,rep_map]
    have s6:=same_new (o:=HO.lst ((List.replicate a d.wa).flatten.map V.str)) hl6
    have g6:upd H5 l6 (HO.lst ((List.replicate a d.wa).flatten.map V.str)) l6=some (.lst ((repL a d.wa).map V.str)):=upd_same
    generalize upd H5 l6 (HO.lst ((List.replicate a d.wa).flatten.map V.str))=H6 at s6 g6 ⊢
    have s46:=s5.trans s6
    have s06:=s04.trans s46
    have gp:=s46 _ _ gp
    walk_at "w"
    refine ⟨_,_,_,_,_,rfl,s06 _ _ h0,T.kd_Draft.cl,T.na_Draft_weft,rfl,?_⟩
    walk_at "w"
    refine rd_listOfT (SqT.of (s06 _ _ e5)) fun l7 hl7=> ?_
    have s7:=same_new (o:=HO.lst (d.we.map V.str)) hl7
    have g7:upd H6 l7 (HO.lst (d.we.map V.str)) l7=_:=upd_same
    generalize upd H6 l7 (HO.lst (d.we.map V.str))=H7 at s7 g7 ⊢
    walk_at "w"
    refine rd_rep g7 (by omega) (by omega) (by simp;omega) fun l8 hl8=> ?_
    rw [Int.toNat_natCast,rep_map]
    have s8:=same_new (o:=HO.lst ((List.replicate k0 d.we).flatten.map V.str)) hl8
    have g8:upd H7 l8 (HO.lst ((List.replicate k0 d.we).flatten.map V.str)) l8=some (.lst ((repL k0 d.we).map V.str)):=upd_same
    generalize upd H7 l8 (HO.lst ((List.replicate k0 d.we).flatten.map V.str))=H8 at s8 g8 ⊢
    have s68:=s7.trans s8
    have s08:=s06.trans s68
    have gp:=s68 _ _ gp
    walk_at "w"
    refine ⟨gp,[((.inr "threading":Key), .ref l2),(.inr "treading", .ref l4),(.inr "warp", .ref l6),(.inr "weft", .ref l8)],rfl,by simp,?_⟩
    rw [four_is]
    have s9:Same H (upd H8 p (.dK [((.inr "threading":Key), .ref l2),(.inr "treading", .ref l4),(.inr "warp", .ref l6),(.inr "weft", .ref l8)])):=fun q o e=>by
      rw [upd_ne (ne_of_none e hp)]
      exact s08 _ _ e
    have k9:∀ q o,q≠p→H8 q=some o→upd H8 p (.dK [((.inr "threading":Key), .ref l2),(.inr "treading", .ref l4),(.inr "warp", .ref l6),(.inr "weft", .ref l8)]) q=some o:=fun q o n e=>by rw [upd_ne n];exact e
    have g9:upd H8 p (.dK [((.inr "threading":Key), .ref l2),(.inr "treading", .ref l4),(.inr "warp", .ref l6),(.inr "weft", .ref l8)]) p=_:=upd_same
    generalize upd H8 p (.dK [((.inr "threading":Key), .ref l2),(.inr "treading", .ref l4),(.inr "warp", .ref l6),(.inr "weft", .ref l8)])=H9 at s9 k9 g9 ⊢
    have np:∀ {q xs},H8 q=some (.lst xs)→q≠p:=fun {q xs} e z=>by rw [z,gp] at e;cases e
    have r9:Rp H9 FT 2 (.ref l4) (dLL (repL k0 d.td)):=rp_only (r4.same (s46.trans s68)) fun q xs=>⟨fun e=>k9 q _ (fun z=>by rw [z,gp] at e;cases e) e,fun e=>k9 q _ (fun z=>by rw [z,gp] at e;cases e) e⟩
    walk_at "w"
    refine ⟨x,d,p,_,overD d a k0,rfl,cx.same s9,ok,g9,four_to (k9 _ _ (np (s68 _ _ (s46 _ _ (s4 _ _ (s3 _ _ g2))))) (s68 _ _ (s46 _ _ (s4 _ _ (s3 _ _ g2))))) r9 (k9 _ _ (np (s68 _ _ g6)) (s68 _ _ g6)) (k9 _ _ (np g8) g8),overD_ok ok a1 k1 m1 m2,fun H10 y s10 hy D10=> ?_⟩
    exact kq m1 m2 H10 y (s9.trans s10) (s9.free hy) D10
end
end K17
open L2
namespace K17
open PySem L2 PySem.Spec PyProof.Rows
seal L2.PE L2.PT L2.PW L2.PA L2.PS L2.PSs L2.PI L2.PG L2.PTs L2.PGs
section
variable {P:Program} {w:World} {K:PySem.W.Frag} {mg:Str→Option Value} {base:Heap} {c:Cs}
def bitsN (n r:Nat):List Nat:=(List.range n).map fun e=>(r.testBit e).toNat
def sp__law_bits (K:PySem.W.Frag):Sp:=fun vs H Q _=>∃ (n:Nat) (a:Addr) (rs:List Nat),vs=[nV n, .ref a]∧SqL K H a (rs.map nV)∧n≤60∧rs.length≤60∧∀ H' l,Same H H'→H l=none→Rp H' (FN H) 2 (.ref l) (dLL (rs.map (bitsN n)))→Q (.ref l) H'
theorem div_bit (m e:Nat):((m:Nat):Int) / (1*2 ^ ((e:Nat):Int).toNat)%2=(((m.testBit e).toNat:Nat):Int):=by
  rw [Int.one_mul,Int.toNat_natCast, ← MM.bit_div]
  push_cast
  rfl
theorem pw200 {s:Nat} (h:s<200):(1:Int)*2 ^ ((s:Nat):Int).toNat<2 ^ 200:=by
  have e:∀ n:Nat,(2:Int) ^ n=((2 ^ n:Nat):Int):=fun n=>by push_cast;rfl
  rw [Int.one_mul,Int.toNat_natCast,e,e]
  exact Int.ofNat_lt.mpr (Nat.pow_lt_pow_right (by decide) h)
abbrev s__law_bits:Stmt:=top 65
theorem sc__law_bits:FnScope ["_law_wide","_law_masks"] ["_law_wide","_law_masks"] (defScope s__law_bits):=⟨rfl,rfl,rfl,by decide +kernel,rfl,by decide +kernel,by decide +kernel⟩
theorem ok__law_bits {f:Addr} {fd:FuncData} (F:Fun K "_law_bits" "_law_bits" s__law_bits f fd) (T:Txt K mg c):FnOk P w K mg base CX0 1 f fd ["_law_wide","_law_masks"] (sp__law_bits K):=by
  refine F.ok sc__law_bits (fun vs H Q E h=> ?_) (fun cdv A outer s H vs Q E hr h=> ?_)
  · obtain ⟨n,a,rs,rfl,_⟩:=h
    rfl
  · obtain ⟨n,a,rs,rfl,sa,hn,hl,k⟩:=h
    refine ⟨_,(pss_one (ps_ret (pe_compC1 (k_pil (K:=K) (pv 1)) (fun _ _ _ _=>pts_nil) (fun _ _ _ _=>(pe_comp1N (fr:=[("_law_mask",0)]) (pi_range1 rfl (T.own _ (by decide)) (pa_cons (pv 1) pa_nil)) (fun _ _ _ _=>pts_nil) (fun _ _ _ _=>(pe_op op_mod (pe_op op_fdivL (pv 1) (pe_op op_shl pe_int (pv 0))) pe_int))))))),?_⟩
    walk_at "w"
    refine ⟨a,rfl,⟨_,sa⟩,fun D hD=> ?_⟩
    refine comp_map (m:=1) (G:=fun i=>dL (bitsN n (rs.getD i 0))) (src_list sa rfl) hD (by rw [List.length_map];omega) ?_ ?_
    · intro i H' R hi s kk
      rw [getD_nat hi]
      generalize rs.getD i 0=r at kk ⊢
      walk_at "w"
      refine ⟨_,rfl,by omega,by omega,fun D2 hD2=> ?_⟩
      rw [Int.toNat_natCast]
      refine ints_comp (G:=fun e=>(((r.testBit e).toNat:Nat):Int)) (src_range0 rfl) hD2 (by omega) ?_ ?_
      · intro e H2 R2 he s2 kk2
        walk_at "w"
        refine rd_rI ⟨by omega,by omega,by decide⟩ ?_
        walk_at "w"
        refine rd_rI ⟨pow_pos' e,pw200 (by omega)⟩ ?_
        walk_at "w"
        refine rd_rI (by decide) ?_
        rw [div_bit]
        exact kk2 H2 (Same.refl _)
      · intro H2 s2 g2
        rw [natsL] at g2
        exact kk H2 _ s2 (rp_L (ns:=bitsN n r) g2 hD2 (by unfold bitsN;simp;omega))
    · intro H' ys s hl' r
      rw [List.length_map] at r
      have e:(List.range rs.length).map (fun i=>dL (bitsN n (rs.getD i 0)))=(rs.map (bitsN n)).map dL:=by
        rw [List.map_map]
        exact map_range_getD (fun r=>dL (bitsN n r)) rs 0
      rw [e] at r
      exact k H' D s hD r
def sp__law_told (c:Cs):Sp:=fun vs H Q _=>∃ x n rs,vs=[.ref x]∧ClAt c.Cloth H x n rs∧ClOk n rs∧∀ H' l,Same H H'→H l=none→Rp H' (FN H) 2 (.ref l) (dLL (rs.map (bitsN n)))→Q (.ref l) H'
abbrev s__law_told:Stmt:=top 66
theorem sc__law_told:FnScope ["_law_cloth","_law_wide","_law_masks"] ["_law_cloth"] (defScope s__law_told):=⟨rfl,rfl,rfl,by decide +kernel,rfl,by decide +kernel,by decide +kernel⟩
theorem ok__law_told {f:Addr} {fd:FuncData} (F:Fun K "_law_told" "_law_told" s__law_told f fd) (T:Txt K mg c) (d_Cloth_told:MethF P w K mg base c.Cloth "told" 1 ["self"] (sp_Cloth_told c)) (c__law_bits:CallF P w K mg base "_law_bits" 1 ["_law_wide","_law_masks"] (sp__law_bits K)):FnOk P w K mg base CX0 2 f fd ["_law_cloth"] (sp__law_told c):=by
  refine F.ok sc__law_told (fun vs H Q E h=> ?_) (fun cdv A outer s H vs Q E hr h=> ?_)
  · obtain ⟨x,n,rs,rfl,_⟩:=h
    rfl
  · obtain ⟨x,n,rs,rfl,cx,ok,k⟩:=h
    obtain ⟨dx,tx,hx,_⟩:=id cx
    refine ⟨_,(pss_cons (ps_asg (pe_methF0 (pv 0) d_Cloth_told hr) (k_gtup (K:=K) rfl (pgs_cons (pg_name (i:=1) sc__law_told.nd rfl (Or.inl rfl)) (pgs_cons (pg_name (i:=2) sc__law_told.nd rfl (Or.inl rfl)) pgs_nil))))
      (pss_one (ps_ret (pe_callF c__law_bits hr (pa_cons (pv 1) (pa_cons (pv 2) pa_nil)))))),?_⟩
    walk_at "w"
    refine ⟨_,_,_,rfl,hx,rfl,?_⟩
    walk_at "w"
    refine ⟨x,n,rs,rfl,cx,fun H1 p l s1 hp hl gp gl=> ?_⟩
    walk_at "w"
    refine rd_gtup (SqT.of gp) rfl ?_
    walk_at "w"
    exact ⟨n,l,rs,rfl,SqL.of gl,ok.n2,ok.p2,fun H2 q s2 hq r2=>k H2 q (s1.trans s2) (s1.free hq) (r2.imp fun a ha=>s1.free ha)⟩
def sp__law_count:Sp:=fun vs H Q _=>∃ m z:Nat,vs=[nV m,nV z]∧m<2147483647∧1≤z∧z≤60∧∀ H' v,Same H H'→1≤v→v<2 ^ 200→Q (nV v) H'
abbrev s__law_count:Stmt:=top 68
theorem sc__law_count:FnScope ["_law_number","_law_size","_law_fits"] ["_law_number","_law_size"] (defScope s__law_count):=⟨rfl,rfl,rfl,by decide +kernel,rfl,by decide +kernel,by decide +kernel⟩
theorem ok__law_count {f:Addr} {fd:FuncData} (F:Fun K "_law_count" "_law_count" s__law_count f fd) (T:Txt K mg c):FnOk P w K mg base CX0 1 f fd ["_law_number","_law_size"] sp__law_count:=by
  refine F.ok sc__law_count (fun vs H Q E h=> ?_) (fun cdv A outer s H vs Q E hr h=> ?_)
  · obtain ⟨m,z,rfl,_⟩:=h
    rfl
  · obtain ⟨m,z,rfl,hm,z1,z2,k⟩:=h
    have d1:0<60 / z:=by
      rw [Nat.div_pos_iff]
      omega
    have d2:60 / z≤60:=Nat.div_le_self _ _
    refine ⟨_,(pss_cons (ps_set (i:=2) sc__law_count.nd rfl (Or.inl rfl) (pe_op op_fdivL pe_int (pv 1)))
      (pss_one (ps_ret (pe_ix (k_ixl (K:=K)) (pe_lst (pa_cons (pe_op op_add pe_int (pe_op op_mod (pe_op op_fdivL (pv 0) pe_int) pe_int)) (pa_cons (pv 2) (pa_cons (pe_op op_add (pv 2) pe_int) (pa_cons (pe_op op_add (pe_op op_pow pe_int pe_int) (pv 0)) (pa_cons pe_int (pa_cons pe_int pa_nil))))))) (pe_op op_mod (pv 0) pe_int) (fun _ _=>rfl))))),?_⟩
    walk_at "w"
    refine rd_rI ⟨by omega,by omega⟩ ?_
    rw [show (60:Int) / ((z:Nat):Int)=((60 / z:Nat):Int) by push_cast;rfl]
    generalize 60 / z=f at d1 d2
    walk_at "w"
    refine rd_rI ⟨by decide,by decide⟩ ?_
    walk_at "w"
    refine rd_rI (by decide) ?_
    walk_at "w"
    refine rd_rI ⟨by decide,by decide,by decide⟩ ?_
    walk_at "w"
    intro l hl
    walk_at "w"
    refine rd_rI (by decide) ?_
    walk_at "w"
    have e30:(10:Int) ^ (30:Int).toNat=((10 ^ 30:Nat):Int):=by decide +kernel
    have big:(10:Int) ^ (30:Int).toNat+((m:Nat):Int)=((10 ^ 30+m:Nat):Int):=by rw [e30];exact (Int.natCast_add _ _).symm
    have hb:10 ^ 30+m<2 ^ 200:=by
      have:10 ^ 30+2147483647<2 ^ 200:=by decide
      omega
    have h0:=Int.emod_nonneg ((m:Nat):Int) (show (6:Int)≠0 by decide)
    have h6:=Int.emod_lt_of_pos ((m:Nat):Int) (show (0:Int)<6 by decide)
    obtain ⟨j,ej,hj⟩:∃ j:Nat,((m:Nat):Int)%6=(j:Nat)∧j<6:=⟨(((m:Nat):Int)%6).toNat,by omega,by omega⟩
    rw [ej,big]
    have sl:∀ v:Nat,v≤1000→v<2 ^ 200:=fun v hv=>Nat.lt_of_le_of_lt hv (by decide)
    have fin:∀ w,[V.int (1+((m:Nat):Int) / 6%5),nV f, .int (((f:Nat):Int)+1),nV (10 ^ 30+m), .int 1, .int 2][j]?=some w→∃ v:Nat,w=nV v∧1≤v∧v<2 ^ 200:=fun w e=>by
      match j,hj,e with
      | 0,_,e=>cases e;exact ⟨(1+m / 6%5),by show V.int _=V.int _;congr 1,by omega,sl _ (by omega)⟩
      | 1,_,e=>cases e;exact ⟨f,rfl,by omega,sl _ (by omega)⟩
      | 2,_,e=>cases e;exact ⟨f+1,rfl,by omega,sl _ (by omega)⟩
      | 3,_,e=>cases e;exact ⟨10 ^ 30+m,rfl,by omega,hb⟩
      | 4,_,e=>cases e;exact ⟨1,rfl,by omega,sl _ (by omega)⟩
      | 5,_,e=>cases e;exact ⟨2,rfl,by omega,sl _ (by omega)⟩
    obtain ⟨w,ew⟩:∃ w,[V.int (1+((m:Nat):Int) / 6%5),nV f, .int (((f:Nat):Int)+1),nV (10 ^ 30+m), .int 1, .int 2][j]?=some w:=⟨_,List.getElem?_eq_getElem (show j<6 from hj)⟩
    obtain ⟨v,rfl,v1,v2⟩:=fin w ew
    refine rd_ixL (SqL.of upd_same) (atI_nat ew) ?_
    exact k _ v (same_new hl) v1 v2
end
end K17
open L2
namespace K17
open PySem L2 PySem.Spec PyProof.Rows
seal L2.PE L2.PT L2.PW L2.PA L2.PS L2.PSs L2.PI L2.PG L2.PTs L2.PGs
section
variable {P:Program} {w:World} {K:PySem.W.Frag} {mg:Str→Option Value} {base:Heap} {c:Cs}
theorem kf_cloth (T:Txt K mg c):KindF K c c.BadCloth 6:=⟨by decide,T.xk_BadCloth,T.ki_BadCloth_BadRow,T.ki_BadCloth_BadWord,T.ki_BadCloth_TooMany,T.ki_BadCloth_NotPlain,T.ki_BadCloth_NotGrown,T.ki_BadCloth_BadDraft,T.ki_BadCloth_BadCloth,T.ki_BadCloth_OutOfPlace,T.ki_BadCloth_ValueError⟩
theorem kf_draft (T:Txt K mg c):KindF K c c.BadDraft 5:=⟨by decide,T.xk_BadDraft,T.ki_BadDraft_BadRow,T.ki_BadDraft_BadWord,T.ki_BadDraft_TooMany,T.ki_BadDraft_NotPlain,T.ki_BadDraft_NotGrown,T.ki_BadDraft_BadDraft,T.ki_BadDraft_BadCloth,T.ki_BadDraft_OutOfPlace,T.ki_BadDraft_ValueError⟩
inductive Refd (c:Cs) (H:Hp) (x y:Addr) (a k:Nat):Nat→Nat→Prop
  | beside {n:Nat} {rs:List Nat} {m:Nat} {ss:List Nat} (cx:ClAt c.Cloth H x n rs) (cy:ClAt c.Cloth H y m ss) (okx:ClOk n rs) (oky:ClOk m ss) (bad:¬ (rs.length=ss.length∧n+m≤60)):Refd c H x y a k 0 6
  | below {n:Nat} {rs:List Nat} {m:Nat} {ss:List Nat} (cx:ClAt c.Cloth H x n rs) (cy:ClAt c.Cloth H y m ss) (okx:ClOk n rs) (oky:ClOk m ss) (bad:¬ (n=m∧rs.length+ss.length≤60)):Refd c H x y a k 1 6
  | over {n:Nat} {rs:List Nat} (cx:ClAt c.Cloth H x n rs) (okx:ClOk n rs) (a1:1≤a) (k1:1≤k) (ha:a<2 ^ 200) (hk:k<2 ^ 200) (bad:¬ (n*a≤60∧rs.length*k≤60)):Refd c H x y a k 2 6
  | draft {d:Dr} (cx:DrAt c.Draft H x d) (ok:DrOk d) (a1:1≤a) (k1:1≤k) (ha:a<2 ^ 200) (hk:k<2 ^ 200) (bad:¬ (d.th.length*a≤60∧d.td.length*k≤60)):Refd c H x y a k 3 5
def sp__law_refused (c:Cs):Sp:=fun vs H Q _=>∃ (w:Nat) (x y:Addr) (a k j:Nat),vs=[nV w, .ref x, .ref y,nV a,nV k]∧Refd c H x y a k w j∧∀ H' l,Same H H'→H l=none→H' l=some (.lst [.str (nmK j)])→Q (.ref l) H'
abbrev s__law_refused:Stmt:=top 64
theorem sc__law_refused:FnScope ["_law_which","_law_one","_law_other","_law_across","_law_down","_law_error","caught"] ["_law_which","_law_one","_law_other","_law_across","_law_down"] (defScope s__law_refused):=⟨rfl,rfl,rfl,by decide +kernel,rfl,by decide +kernel,by decide +kernel⟩
theorem ok__law_refused {f:Addr} {fd:FuncData} (F:Fun K "_law_refused" "_law_refused" s__law_refused f fd) (T:Txt K mg c) (c_beside:CallE P w K mg base "beside" 6 ["one","other"] (sp_beside c)) (c_below:CallE P w K mg base "below" 6 ["one","other"] (sp_below c)) (c_told_over:CallE P w K mg base "told_over" 6 ["cloth","across","down"] (sp_told_over c)) (c_draft_told_over:CallE P w K mg base "draft_told_over" 9 ["draft","across","down"] (sp_draft_told_over c)) (c__law_kinds:CallF P w K mg base "_law_kinds" 1 ["_law_error"] (sp__law_kinds K c)):FnOk P w K mg base CX0 10 f fd ["_law_which","_law_one","_law_other","_law_across","_law_down"] (sp__law_refused c):=by
  refine F.ok sc__law_refused (fun vs H Q E h=> ?_) (fun cdv A outer s H vs Q E hr h=> ?_)
  · obtain ⟨w,x,y,a,k,j,rfl,_⟩:=h
    rfl
  · obtain ⟨w,x,y,a,k0,j,rfl,rf,k⟩:=h
    refine ⟨_,(pss_cons (ps_set (i:=5) sc__law_refused.nd rfl (Or.inl rfl) pe_non)
      (pss_cons (ps_try (j:=6) rfl rfl T.g_LoomError sc__law_refused.nd rfl rfl (fun _ _ _ hp=>(pss_one (ps_if (pt_cmpR op_eq (pv 0) pe_int (nomark _)) (pss_one (ps_expr (pe_callE c_beside (hr.mono (by decide)) hp (pa_cons (pv 1) (pa_cons (pv 2) pa_nil))))) (pss_one (ps_if (pt_cmpR op_eq (pv 0) pe_int (nomark _)) (pss_one (ps_expr (pe_callE c_below (hr.mono (by decide)) hp (pa_cons (pv 1) (pa_cons (pv 2) pa_nil))))) (pss_one (ps_if (pt_cmpR op_eq (pv 0) pe_int (nomark _)) (pss_one (ps_expr (pe_callE c_told_over (hr.mono (by decide)) hp (pa_cons (pv 1) (pa_cons (pv 3) (pa_cons (pv 4) pa_nil)))))) (pss_one (ps_expr (pe_callE c_draft_told_over hr hp (pa_cons (pv 1) (pa_cons (pv 3) (pa_cons (pv 4) pa_nil))))))))))))) (fun _ _=>(pss_one (ps_set (i:=5) sc__law_refused.nd rfl (Or.inl rfl) (pv 6)))))
      (pss_one (ps_ret (pe_ifExp (pt_cmpR op_isN (pv 5) pe_non (nomark _)) (pe_lst pa_nil) (pe_callF c__law_kinds (hr.mono (by decide)) (pa_cons (pv 5) pa_nil))))))),?_⟩
    walk_at "w"
    refine rd_try ?_
    generalize eE:eTry _ _ _ _ _ _=E'
    have fin:∀ (C:Addr) (H1:Hp),Same H H1→KindF K c C j→PySem.W.exmOne K (.ref C) (.ref c.LoomError)=some true→E' (.ref C) none H1:=fun C H1 s1 kf xm=>by
      rw [← eE]
      refine ⟨_,rfl,xm,fun q σ hq hl=> ?_⟩
      obtain ⟨x0,x1,x2,x3,x4,x5,x6,rfl⟩:∃ x0 x1 x2 x3 x4 x5 x6,σ=[x0,x1,x2,x3,x4,x5,x6]:=by
        match σ,hl with
        | [x0,x1,x2,x3,x4,x5,x6],_=>exact ⟨x0,x1,x2,x3,x4,x5,x6,rfl⟩
      have s2:=same_new (o:=excO q C none) hq
      walk_at "w"
      refine rd_end ?_
      walk_at "w"
      refine ⟨rfl,?_⟩
      walk_at "w"
      refine iteP (fun z=>by cases z) (fun _=> ?_)
      walk_at "w"
      refine ⟨q,C,none,j,rfl,upd_same,kf,fun H2 l s3 hl2 g2=> ?_⟩
      exact k H2 l (s1.trans (s2.trans s3)) (s1.free (s2.free hl2)) g2
    clear k eE
    walk_at "w"
    cases rf with
    | beside cx cy okx oky bad=>
      rw [decide_eq_true (by decide)]
      refine iteT ?_
      walk_at "w"
      exact ⟨_,_,_,_,_,_,rfl,cx,cy,okx,oky,fun e1 e2=>absurd ⟨e1,e2⟩ bad,fun _ H1 s1=>fin _ H1 s1 (kf_cloth T) T.xm_BadCloth_LoomError⟩
    | below cx cy okx oky bad=>
      rw [decide_eq_false (by decide)]
      refine iteF ?_
      walk_at "w"
      rw [decide_eq_true (by decide)]
      refine iteT ?_
      walk_at "w"
      exact ⟨_,_,_,_,_,_,rfl,cx,cy,okx,oky,fun e1 e2=>absurd ⟨e1,e2⟩ bad,fun _ H1 s1=>fin _ H1 s1 (kf_cloth T) T.xm_BadCloth_LoomError⟩
    | over cx okx a1 k1 ha hk bad=>
      rw [decide_eq_false (by decide)]
      refine iteF ?_
      walk_at "w"
      rw [decide_eq_false (by decide)]
      refine iteF ?_
      walk_at "w"
      rw [decide_eq_true (by decide)]
      refine iteT ?_
      walk_at "w"
      exact ⟨_,_,_,_,_,rfl,cx,okx,a1,k1,ha,hk,fun e1 e2=>absurd ⟨e1,e2⟩ bad,fun _ H1 s1=>fin _ H1 s1 (kf_cloth T) T.xm_BadCloth_LoomError⟩
    | draft cx ok a1 k1 ha hk bad=>
      rw [decide_eq_false (by decide)]
      refine iteF ?_
      walk_at "w"
      rw [decide_eq_false (by decide)]
      refine iteF ?_
      walk_at "w"
      rw [decide_eq_false (by decide)]
      refine iteF ?_
      walk_at "w"
      exact ⟨_,_,_,_,rfl,cx,ok,a1,k1,ha,hk,fun e1 e2=>absurd ⟨e1,e2⟩ bad,fun _ H1 s1=>fin _ H1 s1 (kf_draft T) T.xm_BadDraft_LoomError⟩
end
end K17
open L2
namespace K17
open PySem L2 PySem.Spec PyProof.Rows
seal L2.PE L2.PT L2.PW L2.PA L2.PS L2.PSs L2.PI L2.PG L2.PTs L2.PGs
section
variable {P:Program} {w:World} {K:PySem.W.Frag} {mg:Str→Option Value} {base:Heap} {c:Cs}
def sp__law_cloths (K:PySem.W.Frag):Sp:=fun vs H Q _=>∃ (a:Addr) (ns:List Int) (W:Int),vs=[.ref a, .int W]∧SqL K H a (ns.map V.int)∧ns.length≤63∧∀ H' p n rs m ss lr ls,Same H H'→H p=none→H' p=some (.tup [nV n, .ref lr,nV m, .ref ls])→H' lr=some (.lst (rs.map nV))→H' ls=some (.lst (ss.map nV))→ClOk n rs→ClOk m ss→Q (.ref p) H'
theorem pick_int {P:Int→Prop} {xs:List Int} (h:∀ x∈xs,P x) {i:Int} (h0:0≤i) (h1:i<xs.length):∃ w,(xs.map V.int)[i.toNat]?=some (.int w)∧atI (xs.map V.int) i=some (.int w)∧P w:=by
  have hj:i.toNat<xs.length:=by omega
  refine ⟨xs[i.toNat],?_,?_,h _ (List.getElem_mem hj)⟩
  · rw [List.getElem?_map,List.getElem?_eq_getElem hj]
    rfl
  · have:=atI_nat (show (xs.map V.int)[i.toNat]?=some (.int xs[i.toNat]) by rw [List.getElem?_map,List.getElem?_eq_getElem hj];rfl)
    rw [show ((i.toNat:Nat):Int)=i by omega] at this
    exact this
theorem ok_take {n k:Nat} {rs:List Nat} (h:ClOk n rs) (hk:1≤k):ClOk n (rs.take k):=⟨h.n1,h.n2,by rw [List.length_take];have:=h.p1;omega,by rw [List.length_take];have:=h.p2;omega,fun r hr=>h.lt r (List.mem_of_mem_take hr)⟩
theorem ok_over {n k j:Nat} {rs:List Nat} (h:ClOk n rs) (hj:1≤j) (h1:1≤k) (h2:k≤60):ClOk n (((List.replicate j rs).flatten).take k):=⟨h.n1,h.n2,by rw [List.length_take,rep_len];have:=Nat.mul_pos hj h.p1;omega,by rw [List.length_take];omega,fun r hr=>h.lt r (rep_mem (List.mem_of_mem_take hr))⟩
theorem ok_mod (n:Nat) (n1:1≤n) (n2:n≤60) (G:Nat→Int) (k:Nat) (h1:1≤k) (h2:k≤60):ClOk n ((List.range k).map fun i=>(G i%(2 ^ n:Nat)).toNat):=⟨n1,n2,by simpa using h1,by simpa using h2,fun r hr=>by
  obtain ⟨i,_,rfl⟩:=List.mem_map.mp hr
  have h0:=Nat.two_pow_pos n
  have:=Int.emod_lt_of_pos (G i) (show (0:Int)<((2 ^ n:Nat):Int) by omega)
  have:=Int.emod_nonneg (G i) (show ((2 ^ n:Nat):Int)≠0 by omega)
  omega⟩
abbrev s__law_cloths:Stmt:=top 63
theorem sc__law_cloths:FnScope ["_law_script","_law_whole","_law_wide","_law_further","_law_masks","_law_others","_law_least"] ["_law_script","_law_whole"] (defScope s__law_cloths):=⟨rfl,rfl,rfl,by decide +kernel,rfl,by decide +kernel,by decide +kernel⟩
theorem ok__law_cloths {f:Addr} {fd:FuncData} (F:Fun K "_law_cloths" "_law_cloths" s__law_cloths f fd) (T:Txt K mg c) (c__law_mixed:CallF P w K mg base "_law_mixed" 1 ["_law_cell","_law_k"] sp__law_mixed) (c__law_cells:CallF P w K mg base "_law_cells" 1 ["_law_script","_law_first"] (sp__law_cells K)):FnOk P w K mg base CX0 2 f fd ["_law_script","_law_whole"] (sp__law_cloths K):=by
  refine F.ok sc__law_cloths (fun vs H Q E h=> ?_) (fun cdv A outer s H vs Q E hr h=> ?_)
  · obtain ⟨a,ns,W,rfl,_⟩:=h
    rfl
  · obtain ⟨a,ns,W,rfl,sa,hn,k⟩:=h
    refine ⟨_,(pss_cons (ps_set (i:=2) sc__law_cloths.nd rfl (Or.inr rfl) (pe_op op_add pe_int (pe_op op_mod (pe_callF c__law_mixed hr (pa_cons (pv 1) (pa_cons pe_int pa_nil))) (pe_ix (k_ixl (K:=K)) (pe_lst (pa_cons pe_int (pa_cons pe_int (pa_cons pe_int pa_nil)))) (pe_op op_mod (pe_callF c__law_mixed hr (pa_cons (pv 1) (pa_cons pe_int pa_nil))) pe_int) (fun _ _=>rfl)))))
      (pss_cons (ps_set (i:=3) sc__law_cloths.nd rfl (Or.inr rfl) (pe_ix (k_ixl (K:=K)) (pe_lst (pa_cons (pv 2) (pa_cons (pe_op op_add pe_int (pe_op op_mod (pe_callF c__law_mixed hr (pa_cons (pv 1) (pa_cons pe_int pa_nil))) pe_int)) (pa_cons (pe_op op_sub pe_int (pv 2)) (pa_cons (pe_op op_sub pe_int (pv 2)) pa_nil))))) (pe_op op_mod (pe_callF c__law_mixed hr (pa_cons (pv 1) (pa_cons pe_int pa_nil))) pe_int) (fun _ _=>rfl)))
      (pss_cons (ps_set (i:=3) sc__law_cloths.nd rfl (Or.inr rfl) (pe_callB k_max2 rfl (T.own _ (by decide)) boot_max' (pa_cons pe_int (pa_cons (pv 3) pa_nil))))
      (pss_cons (ps_comp1 (i:=4) sc__law_cloths.nd rfl (Or.inl rfl) (k_pil (K:=K) (pe_callF c__law_cells hr (pa_cons (pv 0) (pa_cons pe_int pa_nil)))) (fun _ _ _ _=>pts_nil) (fun _ _ _ _=>(pe_op op_mod (pv 0) (pe_op op_shl pe_int (pv 1)))))
      (pss_cons (ps_comp1 (i:=5) sc__law_cloths.nd rfl (Or.inl rfl) (k_pil (K:=K) (pe_callF c__law_cells hr (pa_cons (pv 0) (pa_cons pe_int pa_nil)))) (fun _ _ _ _=>pts_nil) (fun _ _ _ _=>(pe_op op_mod (pe_op op_fdivL (pv 0) pe_int) (pe_op op_shl pe_int (pv 1)))))
      (pss_cons (ps_if (pt_cmpR op_gt (pe_op op_mod (pe_callF c__law_mixed hr (pa_cons (pv 1) (pa_cons pe_int pa_nil))) pe_int) pe_int (nomark _)) (pss_cons (ps_set (i:=6) sc__law_cloths.nd rfl (Or.inl rfl) (pe_callB k_min2 rfl (T.own _ (by decide)) boot_min' (pa_cons (pe_callB (k_len (K:=K)) rfl (T.own _ (by decide)) boot_len (pa_cons (pv 4) pa_nil)) (pa_cons (pe_callB (k_len (K:=K)) rfl (T.own _ (by decide)) boot_len (pa_cons (pv 5) pa_nil)) pa_nil))))
      (pss_one (ps_par (i:=4) (j:=5) rfl sc__law_cloths.nd rfl rfl (by decide) rfl rfl (pa_cons (pe_slice (k_sll (K:=K)) (pv 4) po_none (po_some (pv 6))) (pa_cons (pe_slice (k_sll (K:=K)) (pv 5) po_none (po_some (pv 6))) pa_nil)) rfl))) pss_nil)
      (pss_cons (ps_if (pt_cmpR op_eq (pe_op op_mod (pe_callF c__law_mixed hr (pa_cons (pv 1) (pa_cons pe_int pa_nil))) pe_int) pe_int (nomark _)) (pss_one (ps_set (i:=4) sc__law_cloths.nd rfl (Or.inl rfl) (pe_slice (k_sll (K:=K)) (pe_op op_rep (pv 4) pe_int) po_none (po_some (pe_op op_add pe_int (pe_op op_mod (pe_callF c__law_mixed hr (pa_cons (pv 1) (pa_cons pe_int pa_nil))) pe_int)))))) pss_nil)
      (pss_one (ps_ret (pe_tup (pa_cons (pv 2) (pa_cons (pv 4) (pa_cons (pv 3) (pa_cons (pv 5) pa_nil)))))))))))))),?_⟩
    walk_at "w"
    refine ⟨W,50,rfl,⟨by decide,by decide⟩,?_⟩
    walk_at "w"
    intro l hl
    walk_at "w"
    refine ⟨W,51,rfl,⟨by decide,by decide⟩,?_⟩
    walk_at "w"
    refine rd_rI (by decide) ?_
    obtain ⟨w1,_,ew1,w11,w12⟩:=pick_int (P:=fun x=>1≤x∧x≤60) (xs:=[30,60,8]) (by decide) (Int.emod_nonneg (mixV W 51) (show (3:Int)≠0 by decide)) (Int.emod_lt_of_pos (mixV W 51) (show (0:Int)<3 by decide))
    refine rd_ixL (SqL.of upd_same) ew1 ?_
    have s1:=same_new (o:=HO.lst [V.int 30,V.int 60,V.int 8]) hl
    generalize upd H l _=H1 at s1 ⊢
    walk_at "w"
    refine rd_rI (show (0:Int)<w1 by omega) ?_
    obtain ⟨n,en,n1,n2⟩:∃ n:Nat,1+mixV W 50%w1=(n:Nat)∧1≤n∧n≤60:=by
      have h0:=Int.emod_nonneg (mixV W 50) (show w1≠0 by omega)
      have h1:=Int.emod_lt_of_pos (mixV W 50) (show (0:Int)<w1 by omega)
      exact ⟨(1+mixV W 50%w1).toNat,by omega,by omega,by omega⟩
    walk_at "w"
    rw [en]
    refine ⟨W,52,rfl,⟨by decide,by decide⟩,?_⟩
    walk_at "w"
    refine rd_rI (by decide) ?_
    walk_at "w"
    intro l2 hl2
    walk_at "w"
    refine ⟨W,53,rfl,⟨by decide,by decide⟩,?_⟩
    walk_at "w"
    refine rd_rI (by decide) ?_
    have b0:=Int.emod_nonneg (mixV W 52) (show (40:Int)≠0 by decide)
    have b1:=Int.emod_lt_of_pos (mixV W 52) (show (0:Int)<40 by decide)
    obtain ⟨w2,_,ew2,w21⟩:=pick_int (P:=fun x=>x≤60) (xs:=[((n:Nat):Int),1+mixV W 52%40,60 - ((n:Nat):Int),61 - ((n:Nat):Int)]) (by simp only [List.mem_cons,List.not_mem_nil,or_false];omega) (Int.emod_nonneg (mixV W 53) (show (4:Int)≠0 by decide)) (Int.emod_lt_of_pos (mixV W 53) (show (0:Int)<4 by decide))
    refine rd_ixL (SqL.of upd_same) ew2 ?_
    have s2:=same_new (o:=HO.lst [V.int ((n:Nat):Int),V.int (1+mixV W 52%40),V.int (60 - ((n:Nat):Int)),V.int (61 - ((n:Nat):Int))]) hl2
    have s02:=s1.trans s2
    generalize upd H1 l2 _=H2 at s02 ⊢
    walk_at "w"
    obtain ⟨m,em,m1,m2⟩:∃ m:Nat,(if w2>1 then w2 else 1)=(m:Nat)∧1≤m∧m≤60:=⟨(if w2>1 then w2 else 1).toNat,by split <;> omega,by split <;> omega,by split <;> omega⟩
    rw [em]
    walk_at "w"
    refine ⟨a,ns,0,rfl,s02.seq sa,hn,by decide,by decide,fun H3 pE eE s3 hpE hE lE1 lE2=> ?_⟩
    walk_at "w"
    refine ⟨pE,rfl,⟨_,SqL.of hE⟩,fun D4 hD4=> ?_⟩
    refine ints_comp (G:=fun i=>(((eE.getD i 0%(2 ^ n:Nat)).toNat:Nat):Int)) (src_list (SqL.of hE) rfl) hD4 (by rw [List.length_map];omega) ?_ ?_
    · intro i H' R hi s kk
      rw [getD_int hi]
      walk_at "w"
      refine rd_rI ⟨by omega,by omega,by decide⟩ ?_
      walk_at "w"
      refine rd_rI (pow_pos' n) ?_
      rw [mod_nat]
      exact kk H' (Same.refl _)
    intro H4 s4 g4
    rw [natsL,List.length_map] at g4
    have okr:=ok_mod n n1 n2 (fun i=>eE.getD i 0) eE.length lE1 lE2.1
    generalize (List.range eE.length).map (fun i=>(eE.getD i 0%(2 ^ n:Nat)).toNat)=rs at g4 okr
    have s04:=s02.trans (s3.trans s4)
    walk_at "w"
    refine ⟨a,ns,1,rfl,s04.seq sa,hn,by decide,by decide,fun H5 pF eF s5 hpF hF lF1 lF2=> ?_⟩
    walk_at "w"
    refine ⟨pF,rfl,⟨_,SqL.of hF⟩,fun D6 hD6=> ?_⟩
    refine ints_comp (G:=fun i=>(((eF.getD i 0 / 3%(2 ^ m:Nat)).toNat:Nat):Int)) (src_list (SqL.of hF) rfl) hD6 (by rw [List.length_map];omega) ?_ ?_
    · intro i H' R hi s kk
      rw [getD_int hi]
      walk_at "w"
      refine rd_rI ⟨by decide,by decide⟩ ?_
      walk_at "w"
      refine rd_rI ⟨by omega,by omega,by decide⟩ ?_
      walk_at "w"
      refine rd_rI (pow_pos' m) ?_
      rw [mod_nat]
      exact kk H' (Same.refl _)
    intro H6 s6 g6
    rw [natsL,List.length_map] at g6
    have oks:=ok_mod m m1 m2 (fun i=>eF.getD i 0 / 3) eF.length lF1 lF2.1
    generalize (List.range eF.length).map (fun i=>(eF.getD i 0 / 3%(2 ^ m:Nat)).toNat)=ss at g6 oks
    have s06:=s04.trans (s5.trans s6)
    replace g4:=s6 _ _ (s5 _ _ g4)
    walk_at "v"
    refine ifJ (fun σ' H7=>∃ (lr ls:Addr) (rs ss:List Nat) (u:Option V),σ'=[some (.ref a),some (.int W),some (nV n),some (nV m),some (.ref lr),some (.ref ls),u]∧Same H H7∧H7 lr=some (.lst (rs.map nV))∧H7 ls=some (.lst (ss.map nV))∧ClOk n rs∧ClOk m ss) ?_ (fun key=> ?_)
    rotate_left
    · walk_at "w"
      refine ⟨W,54,rfl,⟨by decide,by decide⟩,?_⟩
      walk_at "w"
      refine rd_rI (by decide) ?_
      walk_at "w"
      refine iteP (fun h0=> ?_) (fun h0=> ?_)
      · walk_at "w"
        refine rd_lenL (SqL.of g4) ?_
        walk_at "w"
        refine rd_lenL (SqL.of g6) ?_
        rw [List.length_map,List.length_map]
        walk_at "w"
        obtain ⟨q,eq,q1⟩:∃ q:Nat,(if ((ss.length:Nat):Int)<((rs.length:Nat):Int) then ((ss.length:Nat):Int) else ((rs.length:Nat):Int))=(q:Nat)∧1≤q:=by
          have:=okr.p1
          have:=oks.p1
          exact ⟨(if ((ss.length:Nat):Int)<((rs.length:Nat):Int) then ((ss.length:Nat):Int) else ((rs.length:Nat):Int)).toNat,by split <;> omega,by split <;> omega⟩
        rw [eq]
        walk_at "w"
        refine rd_slL (SqL.of g4) fun l7 hl7=> ?_
        rw [cut_to (by omega),Int.toNat_natCast, ← List.map_take]
        have s7:=same_new (o:=HO.lst ((rs.take q).map nV)) hl7
        have g7:upd H6 l7 (HO.lst ((rs.take q).map nV)) l7=_:=upd_same
        generalize upd H6 l7 (HO.lst ((rs.take q).map nV))=H7 at s7 g7 ⊢
        walk_at "w"
        refine rd_slL (SqL.of (s7 _ _ g6)) fun l8 hl8=> ?_
        rw [cut_to (by omega),Int.toNat_natCast, ← List.map_take]
        refine rd_nil ?_
        refine rd_two ?_
        have s8:=same_new (o:=HO.lst ((ss.take q).map nV)) hl8
        exact key _ _ ⟨l7,l8,_,_,_,rfl,s06.trans (s7.trans s8),s8 _ _ g7,upd_same,ok_take okr q1,ok_take oks q1⟩
      · refine rd_next ?_
        exact key _ _ ⟨_,_,_,_,_,rfl,s06,g4,g6,okr,oks⟩
    clear g4 g6 okr oks rs ss s06
    rintro σ' H7 ⟨lr,ls,rs,ss,u,rfl,s07,g4,g6,okr,oks⟩
    walk_at "v"
    refine ifJ (fun σ' H8=>∃ (lr ls:Addr) (rs ss:List Nat) (u:Option V),σ'=[some (.ref a),some (.int W),some (nV n),some (nV m),some (.ref lr),some (.ref ls),u]∧Same H H8∧H8 lr=some (.lst (rs.map nV))∧H8 ls=some (.lst (ss.map nV))∧ClOk n rs∧ClOk m ss) ?_ (fun key=> ?_)
    · rintro σ' H8 ⟨lr,ls,rs,ss,u,rfl,s08,g4,g6,okr,oks⟩
      walk_at "w"
      intro p hp
      have s9:=same_new (o:=HO.tup [nV n,V.ref lr,nV m,V.ref ls]) hp
      exact k _ p n rs m ss lr ls (s08.trans s9) (s08.free hp) upd_same (s9 _ _ g4) (s9 _ _ g6) okr oks
    · walk_at "w"
      refine ⟨W,55,rfl,⟨by decide,by decide⟩,?_⟩
      walk_at "w"
      refine rd_rI (by decide) ?_
      walk_at "w"
      refine iteP (fun h0=> ?_) (fun h0=> ?_)
      · walk_at "w"
        have:=okr.p2
        refine rd_rep g4 (by decide) (by decide) (by simp;omega) fun l8 hl8=> ?_
        rw [show (60:Int).toNat=60 from rfl,rep_map]
        have s8:=same_new (o:=HO.lst ((List.replicate 60 rs).flatten.map nV)) hl8
        have g8:upd H7 l8 (HO.lst ((List.replicate 60 rs).flatten.map nV)) l8=_:=upd_same
        generalize upd H7 l8 (HO.lst ((List.replicate 60 rs).flatten.map nV))=H8 at s8 g8 ⊢
        walk_at "w"
        refine ⟨W,56,rfl,⟨by decide,by decide⟩,?_⟩
        walk_at "w"
        refine rd_rI (by decide) ?_
        walk_at "w"
        obtain ⟨q,eq,q1,q2⟩:∃ q:Nat,1+mixV W 56%60=(q:Nat)∧1≤q∧q≤60:=by
          have h0:=Int.emod_nonneg (mixV W 56) (show (60:Int)≠0 by decide)
          have h1:=Int.emod_lt_of_pos (mixV W 56) (show (0:Int)<60 by decide)
          exact ⟨(1+mixV W 56%60).toNat,by omega,by omega,by omega⟩
        rw [eq]
        refine rd_slL (SqL.of g8) fun l9 hl9=> ?_
        rw [cut_to (by omega),Int.toNat_natCast, ← List.map_take]
        refine rd_name ?_
        have s9:=same_new (o:=HO.lst (((List.replicate 60 rs).flatten.take q).map nV)) hl9
        exact key _ _ ⟨l9,ls,_,_,_,rfl,s07.trans (s8.trans s9),upd_same,s9 _ _ (s8 _ _ g6),ok_over okr (by decide) q1 q2,oks⟩
      · refine rd_next ?_
        exact key _ _ ⟨_,_,_,_,_,rfl,s07,g4,g6,okr,oks⟩
end
end K17
open L2
namespace K17
open PySem L2 PySem.Spec PyProof.Rows
seal L2.PE L2.PT L2.PW L2.PA L2.PS L2.PSs L2.PI L2.PG L2.PTs L2.PGs
section
variable {P:Program} {w:World} {K:PySem.W.Frag} {mg:Str→Option Value} {base:Heap} {c:Cs}
theorem bits_bes {n m r s:Nat} (hr:r<2 ^ n):bitsN (n+m) (r ||| (s*2 ^ n))=bitsN n r++bitsN m s:=by
  unfold bitsN
  rw [List.range_add,List.map_append,List.map_map]
  congr 1
  · refine List.map_congr_left fun e he=> ?_
    have he:=List.mem_range.mp he
    rw [Nat.testBit_or,Nat.mul_comm,Nat.testBit_two_pow_mul,decide_eq_false (by omega),Bool.false_and,Bool.or_false]
  · refine List.map_congr_left fun e he=> ?_
    show ((r ||| s*2 ^ n).testBit (n+e)).toNat=_
    rw [Nat.testBit_or,Nat.mul_comm s,Nat.testBit_two_pow_mul,decide_eq_true (by omega),Bool.true_and,Nat.add_sub_cancel_left,Nat.testBit_lt_two_pow (Nat.lt_of_lt_of_le hr (Nat.pow_le_pow_right (by decide) (by omega))),Bool.false_or]
theorem rp_cat {H H':Hp} {a b q:Addr} {n:Nat} {vs ws:List V} {ds es:List Dt} (r:Rp H FT (n+1) (.ref a) (.lst ds)) (r2:Rp H FT (n+1) (.ref b) (.lst es)) (ha:H a=some (.lst vs)) (hb:H b=some (.lst ws)) (s:Same H H') (hq:H' q=some (.lst (vs++ws))) (hl:vs.length+ws.length≤100000):Rp H' FT (n+1) (.ref q) (.lst (ds++es)):=by
  cases r with
  | lst h f bb l e=>
    cases r2 with
    | lst h2 f2 bb2 l2 e2=>
      rw [ha] at h
      cases h
      rw [hb] at h2
      cases h2
      refine .lst hq trivial (by rw [List.length_append];exact hl) (by rw [List.length_append,List.length_append,l,l2]) ?_
      exact two_app l (fun i v d h1 h2=>(e i v d h1 h2).same s) (fun i v d h1 h2=>(e2 i v d h1 h2).same s)
theorem bl_of {H:Hp} {F:Addr→Prop} {n:Nat} {v:V} {ls:List (List Nat)} (r:Rp H F n v (dLL ls)):∃ a us,v= .ref a∧H a=some (.lst us)∧us.length=ls.length∧∀ i,i<ls.length→∃ b,us.getD i .non= .ref b∧H b=some (.lst ((ls.getD i []).map nV)):=by
  obtain ⟨m,a,us,_,e,ha,_,hl,_,el⟩:=lst_of r
  rw [List.length_map] at hl el
  refine ⟨a,us,e,ha,hl,fun i hi=> ?_⟩
  have r:=el i hi
  rw [getD_map dL ls i .non [] hi] at r
  obtain ⟨b,eb,hb,_,_⟩:=dL_of r
  exact ⟨b,eb,hb⟩
theorem rd_neLS {K:PySem.W.Frag} {H:Hp} {Q:VK} {l p:Addr} {as bs:List Str} (c:SqL K H l (as.map V.str)) (d:SqL K H p (bs.map V.str)) (h:Q (.bl (!decide (as=bs))) H):rEqL K true (.ref l) (.ref p) H Q:=
  ⟨l,p,_,_,rfl,rfl,c,d,by simp [flatV],by simp [flatV],by rw [eqVs_strs];exact h⟩
theorem ifK {c:TT} {t u:TS} {D:Ends} {σ:L2.St} {H:Hp} (h2:(∀ H',Same H H'→t D σ H')→tIfS c t u D σ H) (h1:∀ H',Same H H'→t D σ H'):tIfS c t u D σ H:=h2 h1
def dCl (n:Nat) (rs:List Nat):Dt:= .tup [dN n,dL rs]
theorem rp_cl {H:Hp} {F:Addr→Prop} {n:Nat} {p l:Addr} {rs:List Nat} (hp:H p=some (.tup [nV n, .ref l])) (hl:H l=some (.lst (rs.map nV))) (f:F l) (b:rs.length≤100000):Rp H F 2 (.ref p) (dCl n rs):=rp_twoT hp (.int _) (rp_L hl f b)
def sp__law_joined_right:Sp:=fun vs H Q _=>∃ n lr rs m ls ss,vs=[nV n, .ref lr,nV m, .ref ls]∧H lr=some (.lst (rs.map nV))∧H ls=some (.lst (ss.map nV))∧ClOk n rs∧ClOk m ss∧∀ H',Same H H'→Q (.bl true) H'
abbrev s__law_joined_right:Stmt:=top 67
theorem sc__law_joined_right:FnScope ["_law_wide","_law_masks","_law_further","_law_others","_law_one","_law_other","_law_bits_here","_law_more"] ["_law_wide","_law_masks","_law_further","_law_others"] (defScope s__law_joined_right):=⟨rfl,rfl,rfl,by decide +kernel,rfl,by decide +kernel,by decide +kernel⟩
theorem ok__law_joined_right {f:Addr} {fd:FuncData} (F:Fun K "_law_joined_right" "_law_joined_right" s__law_joined_right f fd) (T:Txt K mg c) (m_Cloth:MakeE P w K mg base "Cloth" c.Cloth 4 ["self","ends","rows"] (sp_Cloth___init__ K c)) (c__law_bits:CallF P w K mg base "_law_bits" 1 ["_law_wide","_law_masks"] (sp__law_bits K)) (c__law_refused:CallF P w K mg base "_law_refused" 10 ["_law_which","_law_one","_law_other","_law_across","_law_down"] (sp__law_refused c)) (c__law_same:CallF P w K mg base "_law_same" (4+1) ["_law_found","_law_due"] (sp__law_same 4)) (c__law_told:CallF P w K mg base "_law_told" 2 ["_law_cloth"] (sp__law_told c)) (c_beside:CallE P w K mg base "beside" 6 ["one","other"] (sp_beside c)) (c_below:CallE P w K mg base "below" 6 ["one","other"] (sp_below c)) (d_Cloth_told:MethF P w K mg base c.Cloth "told" 1 ["self"] (sp_Cloth_told c)):FnOk P w K mg base CX0 11 f fd ["_law_wide","_law_masks","_law_further","_law_others"] sp__law_joined_right:=by
  refine F.ok sc__law_joined_right (fun vs H Q E h=> ?_) (fun cdv A outer s H vs Q E hr h=> ?_)
  · obtain ⟨n,lr,rs,m,ls,ss,rfl,_⟩:=h
    rfl
  · obtain ⟨n,lr,rs,m,ls,ss,rfl,glr,gls,okr,oks,k⟩:=h
    have hu:=hr.units0
    have n2:=okr.n2
    have m2:=oks.n2
    have p2:=okr.p2
    have q2:=oks.p2
    refine ⟨_,(pss_cons (ps_set (i:=4) sc__law_joined_right.nd rfl (Or.inl rfl) (pe_makeE m_Cloth (hr.mono (by decide)) passN (pa_cons (pv 0) (pa_cons (pe_callTy (k_list (K:=K)) rfl (T.own _ (by decide)) boot_list' (pa_cons (pv 1) pa_nil)) pa_nil))))
      (pss_cons (ps_set (i:=5) sc__law_joined_right.nd rfl (Or.inl rfl) (pe_makeE m_Cloth (hr.mono (by decide)) passN (pa_cons (pv 2) (pa_cons (pe_callTy (k_list (K:=K)) rfl (T.own _ (by decide)) boot_list' (pa_cons (pv 3) pa_nil)) pa_nil))))
      (pss_cons (ps_par (i:=6) (j:=7) rfl sc__law_joined_right.nd rfl rfl (by decide) rfl rfl (pa_cons (pe_callF c__law_bits (hr.mono (by decide)) (pa_cons (pv 0) (pa_cons (pv 1) pa_nil))) (pa_cons (pe_callF c__law_bits (hr.mono (by decide)) (pa_cons (pv 2) (pa_cons (pv 3) pa_nil))) pa_nil)) rfl)
      (pss_cons (ps_if (PW.pt (pw_or (pt_cmpR op_ne (pe_callB (k_len (K:=K)) rfl (T.own _ (by decide)) boot_len (pa_cons (pv 1) pa_nil)) (pe_callB (k_len (K:=K)) rfl (T.own _ (by decide)) boot_len (pa_cons (pv 3) pa_nil)) (nomark _)) (pw_or1 (pt_cmpR op_gt (pe_op op_add (pv 0) (pv 2)) pe_int (nomark _))))) (pss_one (ps_if (pt_cmpR (k_nel hu (K:=K)) (pe_callF c__law_refused hr (pa_cons pe_int (pa_cons (pv 4) (pa_cons (pv 5) (pa_cons pe_int (pa_cons pe_int pa_nil)))))) (pe_lst (pa_cons pe_str pa_nil)) (nomark _)) (pss_one (ps_ret pe_bl)) pss_nil)) (pss_one (ps_if (pt_not (pt_val (pe_callF c__law_same (hr.mono (by decide)) (pa_cons (pe_callF c__law_told (hr.mono (by decide)) (pa_cons (pe_callE c_beside (hr.mono (by decide)) passN (pa_cons (pv 4) (pa_cons (pv 5) pa_nil))) pa_nil)) (pa_cons (pe_comp2 (K:=K) (pi_zs (K:=K) rfl (T.own _ (by decide)) (pa_cons (pv 6) (pa_cons (pv 7) pa_nil))) (fun _ _ _ _=>pts_nil) (fun _ _ _ _=>(pe_op (k_cat (K:=K)) (pv 0) (pv 1)))) pa_nil))))) (pss_one (ps_ret pe_bl)) pss_nil)))
      (pss_cons (ps_if (PW.pt (pw_or (pt_cmpR op_ne (pv 0) (pv 2) (nomark _)) (pw_or1 (pt_cmpR op_gt (pe_op op_add (pe_callB (k_len (K:=K)) rfl (T.own _ (by decide)) boot_len (pa_cons (pv 1) pa_nil)) (pe_callB (k_len (K:=K)) rfl (T.own _ (by decide)) boot_len (pa_cons (pv 3) pa_nil))) pe_int (nomark _))))) (pss_one (ps_if (pt_cmpR (k_nel hu (K:=K)) (pe_callF c__law_refused hr (pa_cons pe_int (pa_cons (pv 4) (pa_cons (pv 5) (pa_cons pe_int (pa_cons pe_int pa_nil)))))) (pe_lst (pa_cons pe_str pa_nil)) (nomark _)) (pss_one (ps_ret pe_bl)) pss_nil)) (pss_one (ps_if (pt_not (pt_val (pe_callF c__law_same (hr.mono (by decide)) (pa_cons (pe_callF c__law_told (hr.mono (by decide)) (pa_cons (pe_callE c_below (hr.mono (by decide)) passN (pa_cons (pv 4) (pa_cons (pv 5) pa_nil))) pa_nil)) (pa_cons (pe_op (k_cat (K:=K)) (pv 6) (pv 7)) pa_nil))))) (pss_one (ps_ret pe_bl)) pss_nil)))
      (pss_one (ps_ret (pe_callF c__law_same (hr.mono (by decide)) (pa_cons (pe_lst (pa_cons (pe_methF0 (pv 4) d_Cloth_told (hr.mono (by decide))) (pa_cons (pe_methF0 (pv 5) d_Cloth_told (hr.mono (by decide))) pa_nil))) (pa_cons (pe_lst (pa_cons (pe_tup (pa_cons (pv 0) (pa_cons (pv 1) pa_nil))) (pa_cons (pe_tup (pa_cons (pv 2) (pa_cons (pv 3) pa_nil))) pa_nil))) pa_nil)))))))))),?_⟩
    walk_at "w"
    refine rd_listOf (SqL.of glr) fun l1 hl1=> ?_
    have s1:=same_new (o:=HO.lst (rs.map nV)) hl1
    have g1:upd H l1 (HO.lst (rs.map nV)) l1=_:=upd_same
    generalize upd H l1 (HO.lst (rs.map nV))=H1 at s1 g1 ⊢
    walk_at "w"
    refine cl_make (Q:=fun v H=>gName 4 v _ H _) g1 okr fun H2 x s2 hx cx=> ?_
    walk_at "w"
    have s02:=s1.trans s2
    refine rd_listOf (SqL.of (s02 _ _ gls)) fun l3 hl3=> ?_
    have s3:=same_new (o:=HO.lst (ss.map nV)) hl3
    have g3:upd H2 l3 (HO.lst (ss.map nV)) l3=_:=upd_same
    generalize upd H2 l3 (HO.lst (ss.map nV))=H3 at s3 g3 ⊢
    walk_at "w"
    refine cl_make (Q:=fun v H=>gName 5 v _ H _) g3 oks fun H4 y s4 hy cy=> ?_
    have s34:=s3.trans s4
    have s04:=s02.trans s34
    replace cx:=cx.same s34
    walk_at "w"
    refine ⟨n,lr,rs,rfl,SqL.of (s04 _ _ glr),n2,p2,fun H5 b1 s5 hb1 r1=> ?_⟩
    walk_at "w"
    have s05:=s04.trans s5
    refine ⟨m,ls,ss,rfl,SqL.of (s05 _ _ gls),m2,q2,fun H6 b2 s6 hb2 r2=> ?_⟩
    replace r1:Rp H6 FT 2 _ _:=(r1.same s6).any
    replace r2:Rp H6 FT 2 _ _:=r2.any
    have s06:=s05.trans s6
    replace cx:=cx.same (s5.trans s6)
    replace cy:=cy.same (s5.trans s6)
    replace glr:=s06 _ _ glr
    replace gls:=s06 _ _ gls
    clear s05 s5 s6 s04 s34 s3 s4 s02 s1 s2 g1 g3
    walk_at "v"
    refine ifJ (fun σ' H7=>σ'=[some (nV n),some (.ref lr),some (nV m),some (.ref ls),some (.ref x),some (.ref y),some (.ref b1),some (.ref b2)]∧Same H6 H7) ?_ (fun key=> ?_)
    rotate_left
    · by_cases bad:rs.length=ss.length∧n+m≤60
      · walk_at "w"
        refine rd_lenL (SqL.of glr) ?_
        walk_at "w"
        refine rd_lenL (SqL.of gls) ?_
        rw [List.length_map,List.length_map]
        walk_at "w"
        refine iteN (fun q=>by omega) (fun _=> ?_)
        walk_at "w"
        refine iteP (fun q=>by omega) (fun _=> ?_)
        walk_at "w"
        refine ⟨_,_,_,_,_,_,rfl,cx,cy,okr,oks,fun e1 e2 H7 u s7 hu7 cu=> ?_,fun z=>absurd bad z⟩
        walk_at "w"
        have oku:ClOk (n+m) (besN n rs ss):=⟨by have:=okr.n1;omega,e2,by unfold besN;rw [List.length_map,List.length_range];exact okr.p1,by unfold besN;rw [List.length_map,List.length_range];exact p2,fun r hr=>by
          unfold besN at hr
          obtain ⟨i,hi,rfl⟩:=List.mem_map.mp hr
          have hi:=List.mem_range.mp hi
          exact bes_lt (okr.lt _ (getD_mem hi)) (oks.lt _ (getD_mem (by omega)))⟩
        refine ⟨u,_,_,rfl,cu,oku,fun H8 b3 s8 hb3 r3=> ?_⟩
        have s68:=s7.trans s8
        obtain ⟨_,us1,eb1,gb1,lu1,el1⟩:=bl_of (r1.same s68)
        cases eb1
        obtain ⟨_,us2,eb2,gb2,lu2,el2⟩:=bl_of (r2.same s68)
        cases eb2
        rw [List.length_map] at lu1 lu2 el1 el2
        walk_at "w"
        refine ⟨false,false,b1,b2,rfl,⟨_,SqL.of gb1⟩,⟨_,SqL.of gb2⟩,fun D hD=> ?_⟩
        refine comp_map (m:=1) (G:=fun i=>dL (bitsN (n+m) (rs.getD i 0 ||| (ss.getD i 0*2 ^ n)))) (src_zs (t1:=false) (t2:=false) (SqL.of gb1) (SqL.of gb2) (by omega) rfl rfl) hD (by omega) ?_ ?_
        · intro i H' R hi s kk
          obtain ⟨q1,eq1,gq1⟩:=el1 i (by omega)
          obtain ⟨q2',eq2,gq2⟩:=el2 i (by omega)
          rw [eq1,eq2]
          rw [getD_map (bitsN n) rs i [] 0 (by omega)] at gq1
          rw [getD_map (bitsN m) ss i [] 0 (by omega)] at gq2
          walk_at "w"
          refine rd_cat (SqL.of (s _ _ gq1)) (SqL.of (s _ _ gq2)) (by unfold bitsN;simp;omega) fun q hq=> ?_
          rw [← List.map_append, ← bits_bes (okr.lt _ (getD_mem (show i<rs.length by omega)))]
          exact kk _ _ (same_new hq) (rp_L upd_same hq (by unfold bitsN;simp;omega))
        intro H9 ys s9 hl9 r9
        walk_at "w"
        refine ⟨_,_,_,rfl,(r3.same s9).any.up (by decide),?_,fun H10 s10=> ?_⟩
        · have e:(List.range us1.length).map (fun i=>dL (bitsN (n+m) (rs.getD i 0 ||| (ss.getD i 0*2 ^ n))))=((besN n rs ss).map (bitsN (n+m))).map dL:=by
            unfold besN
            rw [lu1,List.map_map,List.map_map]
            rfl
          rw [e] at r9
          exact r9.any.up (by decide)
        · refine ⟨true,rfl,?_⟩
          refine iteF ?_
          refine rd_next ?_
          exact key _ _ ⟨rfl,s68.trans (s9.trans s10)⟩
      · refine ifK (fun kk=> ?_) (fun H7 s7=> ?_)
        · walk_at "w"
          refine rd_lenL (SqL.of glr) ?_
          walk_at "w"
          refine rd_lenL (SqL.of gls) ?_
          rw [List.length_map,List.length_map]
          walk_at "w"
          refine iteN (fun q=>kk _ (Same.refl _)) (fun q=> ?_)
          walk_at "w"
          exact iteP (fun _=>kk _ (Same.refl _)) (fun q=>by omega)
        · walk_at "w"
          refine ⟨0,x,y,1,1,6,rfl, .beside (cx.same s7) (cy.same s7) okr oks bad,fun H8 l s8 hl g8=> ?_⟩
          walk_at "w"
          intro l9 hl9
          walk_at "w"
          refine rd_neLS (as:=[nmK 6]) (bs:=[("cloth":Str)]) (SqL.of (same_new hl9 _ _ g8)) (SqL.of upd_same) ?_
          rw [show (!decide (([nmK 6]:List Str)=[("cloth":Str)]))=false by decide +kernel]
          refine ⟨false,rfl,?_⟩
          refine iteF ?_
          refine rd_next ?_
          exact key _ _ ⟨rfl,s7.trans (s8.trans (same_new hl9))⟩
    rintro σ' H7 ⟨rfl,s7⟩
    replace s06:=s06.trans s7
    replace r1:=r1.same s7
    replace r2:=r2.same s7
    replace cx:=cx.same s7
    replace cy:=cy.same s7
    replace glr:=s7 _ _ glr
    replace gls:=s7 _ _ gls
    clear s7
    walk_at "v"
    refine ifJ (fun σ' H8=>σ'=[some (nV n),some (.ref lr),some (nV m),some (.ref ls),some (.ref x),some (.ref y),some (.ref b1),some (.ref b2)]∧Same H7 H8) ?_ (fun key=> ?_)
    rotate_left
    · by_cases bad:n=m∧rs.length+ss.length≤60
      · walk_at "w"
        refine iteN (fun q=>by omega) (fun _=> ?_)
        walk_at "w"
        refine rd_lenL (SqL.of glr) ?_
        walk_at "w"
        refine rd_lenL (SqL.of gls) ?_
        rw [List.length_map,List.length_map]
        walk_at "w"
        refine iteP (fun q=>by omega) (fun _=> ?_)
        walk_at "w"
        refine ⟨_,_,_,_,_,_,rfl,cx,cy,okr,oks,fun e1 e2 H8 u s8 hu8 cu=> ?_,fun z=>absurd bad z⟩
        walk_at "w"
        have oku:ClOk n (rs++ss):=⟨okr.n1,okr.n2,by rw [List.length_append];have:=okr.p1;omega,by rw [List.length_append];omega,fun r hr=>by
          rcases List.mem_append.mp hr with z | z
          · exact okr.lt r z
          · rw [e1];exact oks.lt r z⟩
        refine ⟨u,_,_,rfl,cu,oku,fun H9 b3 s9 hb3 r3=> ?_⟩
        have s79:=s8.trans s9
        replace r1:=r1.same s79
        replace r2:=r2.same s79
        obtain ⟨_,us1,eb1,gb1,lu1,el1⟩:=bl_of r1
        cases eb1
        obtain ⟨_,us2,eb2,gb2,lu2,el2⟩:=bl_of r2
        cases eb2
        rw [List.length_map] at lu1 lu2
        walk_at "w"
        refine rd_cat (SqL.of gb1) (SqL.of gb2) (by omega) fun q hq=> ?_
        walk_at "w"
        refine ⟨_,_,_,rfl,(r3.same (same_new hq)).any.up (by decide),?_,fun H10 s10=> ?_⟩
        · have:=rp_cat r1 r2 gb1 gb2 (same_new (o:=HO.lst (us1++us2)) hq) upd_same (by omega)
          unfold dLL
          rw [List.map_append,List.map_append]
          rw [← e1] at this
          exact this.up (by decide)
        · refine ⟨true,rfl,?_⟩
          refine iteF ?_
          refine rd_next ?_
          exact key _ _ ⟨rfl,s79.trans ((same_new hq).trans s10)⟩
      · refine ifK (fun kk=> ?_) (fun H8 s8=> ?_)
        · walk_at "w"
          refine iteN (fun q=>kk _ (Same.refl _)) (fun q=> ?_)
          walk_at "w"
          refine rd_lenL (SqL.of glr) ?_
          walk_at "w"
          refine rd_lenL (SqL.of gls) ?_
          rw [List.length_map,List.length_map]
          walk_at "w"
          exact iteP (fun _=>kk _ (Same.refl _)) (fun q=>by omega)
        · walk_at "w"
          refine ⟨1,x,y,1,1,6,rfl, .below (cx.same s8) (cy.same s8) okr oks bad,fun H9 l s9 hl g9=> ?_⟩
          walk_at "w"
          intro l9 hl9
          walk_at "w"
          refine rd_neLS (as:=[nmK 6]) (bs:=[("cloth":Str)]) (SqL.of (same_new hl9 _ _ g9)) (SqL.of upd_same) ?_
          rw [show (!decide (([nmK 6]:List Str)=[("cloth":Str)]))=false by decide +kernel]
          refine ⟨false,rfl,?_⟩
          refine iteF ?_
          refine rd_next ?_
          exact key _ _ ⟨rfl,s8.trans (s9.trans (same_new hl9))⟩
    rintro σ' H8 ⟨rfl,s8⟩
    replace s06:=s06.trans s8
    replace cx:=cx.same s8
    replace cy:=cy.same s8
    replace glr:=s8 _ _ glr
    replace gls:=s8 _ _ gls
    clear s8 r1 r2
    obtain ⟨dx,tx,hx,htx⟩:=id cx
    obtain ⟨dy,ty,hy,hty⟩:=id cy
    walk_at "w"
    refine ⟨_,_,_,rfl,hx,rfl,?_⟩
    walk_at "w"
    refine ⟨x,n,rs,rfl,cx,fun H9 p1 w1 s9 hp1 hw1 gp1 gw1=> ?_⟩
    walk_at "w"
    refine ⟨_,_,_,rfl,s9 _ _ hy,rfl,?_⟩
    walk_at "w"
    refine ⟨y,m,ss,rfl,cy.same s9,fun H10 p2' w2 s10 hp2 hw2 gp2 gw2=> ?_⟩
    walk_at "w"
    intro l11 hl11
    have s11:=same_new (o:=HO.lst [V.ref p1,V.ref p2']) hl11
    have g11:upd H10 l11 (HO.lst [V.ref p1,V.ref p2']) l11=_:=upd_same
    generalize upd H10 l11 (HO.lst [V.ref p1,V.ref p2'])=H11 at s11 g11 ⊢
    have ra:Rp H11 FT 3 (.ref l11) (.lst [dCl n rs,dCl m ss]):=rp_two g11 trivial ((rp_cl gp1 gw1 trivial (by omega)).same (s10.trans s11)) ((rp_cl gp2 gw2 trivial (by omega)).same s11)
    have s8B:=s9.trans (s10.trans s11)
    walk_at "w"
    intro p12 hp12
    have s12:=same_new (o:=HO.tup [nV n,V.ref lr]) hp12
    have g12:upd H11 p12 (HO.tup [nV n,V.ref lr]) p12=_:=upd_same
    generalize upd H11 p12 (HO.tup [nV n,V.ref lr])=H12 at s12 g12 ⊢
    walk_at "w"
    intro p13 hp13
    have s13:=same_new (o:=HO.tup [nV m,V.ref ls]) hp13
    have g13:upd H12 p13 (HO.tup [nV m,V.ref ls]) p13=_:=upd_same
    generalize upd H12 p13 (HO.tup [nV m,V.ref ls])=H13 at s13 g13 ⊢
    walk_at "w"
    intro l14 hl14
    have s14:=same_new (o:=HO.lst [V.ref p12,V.ref p13]) hl14
    have g14:upd H13 l14 (HO.lst [V.ref p12,V.ref p13]) l14=_:=upd_same
    generalize upd H13 l14 (HO.lst [V.ref p12,V.ref p13])=H14 at s14 g14 ⊢
    have sBE:=s12.trans (s13.trans s14)
    have s8E:=s8B.trans sBE
    walk_at "w"
    exact ⟨_,_,_,rfl,ra.same sBE,rp_two g14 trivial (rp_cl (s14 _ _ (s13 _ _ g12)) (s8E _ _ glr) trivial (by omega)) (rp_cl (s14 _ _ g13) (s8E _ _ gls) trivial (by omega)),fun H15 s15=>k _ (s06.trans (s8E.trans s15))⟩
end
end K17
open L2
namespace K17
open PySem L2 PySem.Spec PyProof.Rows
seal L2.PE L2.PT L2.PW L2.PA L2.PS L2.PSs L2.PI L2.PG L2.PTs L2.PGs
section
variable {P:Program} {w:World} {K:PySem.W.Frag} {mg:Str→Option Value} {base:Heap} {c:Cs}
theorem rep_range {α:Type} (f:Nat→α) (n:Nat):∀ a,repL a ((List.range n).map f)=(List.range (n*a)).map fun i=>f (i%n)
  | 0=>by simp [repL]
  | a+1=>by
    have ih:=rep_range f n a
    unfold repL at ih ⊢
    rw [List.replicate_succ',List.flatten_append,ih,Nat.mul_add,Nat.mul_one,List.range_add,List.map_append]
    congr 1
    rw [List.map_map]
    simp only [List.flatten_cons,List.flatten_nil,List.append_nil]
    refine List.map_congr_left fun i hi=> ?_
    show f i=f ((n*a+i)%n)
    rw [Nat.mul_add_mod,Nat.mod_eq_of_lt (List.mem_range.mp hi)]
theorem bits_over {r n a:Nat} (hr:r<2 ^ n):bitsN (n*a) (overN r n a)=repL a (bitsN n r):=by
  unfold bitsN
  rw [rep_range (fun e=>(r.testBit e).toNat)]
  refine List.map_congr_left fun i hi=> ?_
  rw [over_bit hr (List.mem_range.mp hi)]
theorem over_bits {n a k:Nat} {rs:List Nat} (h:∀ r∈rs,r<2 ^ n):(overL n rs a k).map (bitsN (n*a))=repL k (rs.map fun r=>repL a (bitsN n r)):=by
  unfold overL repL
  rw [← rep_map,List.map_map]
  congr 2
  refine List.map_congr_left fun r hr=> ?_
  exact bits_over (h r hr)
theorem rep_getD {α:Type} (a:Nat) (l:List α) (y:α) {i:Nat} (hi:i<l.length*a):(repL a l).getD i y=l.getD (i%l.length) y:=by
  have e:l=(List.range l.length).map fun j=>l.getD j y:=((map_range_getD id l y).trans (List.map_id _)).symm
  have e2:repL a l=(List.range (l.length*a)).map fun i=>l.getD (i%l.length) y:=by
    conv=>lhs;rw [e]
    exact rep_range (fun j=>l.getD j y) l.length a
  rw [e2,List.getD_eq_getElem?_getD,List.getElem?_map,List.getElem?_range hi]
  rfl
theorem row_over_thr {th:List Nat} {s l a:Nat} (hl:l<2 ^ s):rowN ((List.range s).map fun i=>thrN (repL a th) (i+1)) l=overN (rowN ((List.range s).map fun i=>thrN th (i+1)) l) th.length a:=by
  have len:(repL a th).length=th.length*a:=by unfold repL;rw [rep_len,Nat.mul_comm]
  have b1:=rowN_lt (th:=repL a th) hl
  have b2:=rowN_lt (th:=th) hl
  have b3:=over_lt (a:=a) b2
  rw [len] at b1
  refine Nat.eq_of_testBit_eq fun i=> ?_
  by_cases hi:i<th.length*a
  · have hp:0<th.length:=by
      rcases Nat.eq_zero_or_pos th.length with z | z
      · rw [z,Nat.zero_mul] at hi;omega
      · exact z
    rw [rowN_bit hl (by rw [len];exact hi),over_bit b2 hi,rowN_bit hl (Nat.mod_lt _ hp),rep_getD a th 0 hi]
  · rw [Nat.testBit_lt_two_pow (Nat.lt_of_lt_of_le b1 (Nat.pow_le_pow_right (by decide) (by omega))),Nat.testBit_lt_two_pow (Nat.lt_of_lt_of_le b3 (Nat.pow_le_pow_right (by decide) (by omega)))]
theorem wov_over {d:Dr} (ok:DrOk d) (a k:Nat):wovN (overD d a k)=overL d.th.length (wovN d) a k:=by
  unfold wovN overL
  show ((repL k d.td).map fun ks=>rowN ((List.range d.sh).map fun i=>thrN (repL a d.th) (i+1)) (liftN d.ti ks))=_
  unfold repL
  rw [← rep_map,List.map_map]
  congr 2
  refine List.map_congr_left fun ks hk=> ?_
  exact row_over_thr (liftN_lt ok ks)
theorem overN_len {d:Dr} {a k:Nat}:(overD d a k).th.length=d.th.length*a:=by
  show (repL a d.th).length=_
  unfold repL
  rw [rep_len,Nat.mul_comm]
theorem gt60 (m:Nat):decide ((60:Int)<((m:Nat):Int))=decide (60<m):=decide_eq_decide.mpr (by omega)
def sp__law_over_right:Sp:=fun vs H Q _=>∃ n lr rs,∃ a k:Nat,vs=[nV n, .ref lr,nV a,nV k]∧H lr=some (.lst (rs.map nV))∧ClOk n rs∧1≤a∧1≤k∧a<2 ^ 200∧k<2 ^ 200∧∀ H',Same H H'→Q (.bl true) H'
abbrev s__law_over_right:Stmt:=top 69
theorem sc__law_over_right:FnScope ["_law_wide","_law_masks","_law_across","_law_down","_law_cloth","_law_due"] ["_law_wide","_law_masks","_law_across","_law_down"] (defScope s__law_over_right):=⟨rfl,rfl,rfl,by decide +kernel,rfl,by decide +kernel,by decide +kernel⟩
theorem ok__law_over_right {f:Addr} {fd:FuncData} (F:Fun K "_law_over_right" "_law_over_right" s__law_over_right f fd) (T:Txt K mg c) (m_Cloth:MakeE P w K mg base "Cloth" c.Cloth 4 ["self","ends","rows"] (sp_Cloth___init__ K c)) (c__law_refused:CallF P w K mg base "_law_refused" 10 ["_law_which","_law_one","_law_other","_law_across","_law_down"] (sp__law_refused c)) (c__law_bits:CallF P w K mg base "_law_bits" 1 ["_law_wide","_law_masks"] (sp__law_bits K)) (c__law_same:CallF P w K mg base "_law_same" (4+1) ["_law_found","_law_due"] (sp__law_same 4)) (c__law_told:CallF P w K mg base "_law_told" 2 ["_law_cloth"] (sp__law_told c)) (c_told_over:CallE P w K mg base "told_over" 6 ["cloth","across","down"] (sp_told_over c)) (d_Cloth_told:MethF P w K mg base c.Cloth "told" 1 ["self"] (sp_Cloth_told c)):FnOk P w K mg base CX0 11 f fd ["_law_wide","_law_masks","_law_across","_law_down"] sp__law_over_right:=by
  refine F.ok sc__law_over_right (fun vs H Q E h=> ?_) (fun cdv A outer s H vs Q E hr h=> ?_)
  · obtain ⟨n,lr,rs,a,k,rfl,_⟩:=h
    rfl
  · obtain ⟨n,lr,rs,a,k0,rfl,glr,okr,a1,k1,ha,hk,k⟩:=h
    have hu:=hr.units0
    have n1:=okr.n1
    have n2:=okr.n2
    have p1:=okr.p1
    have p2:=okr.p2
    have c1:CMulN ((n:Nat):Int) ((a:Nat):Int):=⟨n,a,rfl,rfl,sm9 n2,big9 ha⟩
    have c2:CMulN ((rs.length:Nat):Int) ((k0:Nat):Int):=⟨rs.length,k0,rfl,rfl,sm9 p2,big9 hk⟩
    have j1:((n:Nat):Int)*((a:Nat):Int)=((n*a:Nat):Int):=by push_cast;rfl
    have j2:((rs.length:Nat):Int)*((k0:Nat):Int)=((rs.length*k0:Nat):Int):=by push_cast;rfl
    refine ⟨_,(pss_cons (ps_set (i:=4) sc__law_over_right.nd rfl (Or.inl rfl) (pe_makeE m_Cloth (hr.mono (by decide)) passN (pa_cons (pv 0) (pa_cons (pe_callTy (k_list (K:=K)) rfl (T.own _ (by decide)) boot_list' (pa_cons (pv 1) pa_nil)) pa_nil))))
      (pss_cons (ps_if (PW.pt (pw_or (pt_cmpR op_gt (pe_op op_mulN (pv 0) (pv 2)) pe_int (nomark _)) (pw_or1 (pt_cmpR op_gt (pe_op op_mulN (pe_callB (k_len (K:=K)) rfl (T.own _ (by decide)) boot_len (pa_cons (pv 1) pa_nil)) (pv 3)) pe_int (nomark _))))) (pss_one (ps_ret (pe_cmpR (k_eql hu (K:=K)) (pe_callF c__law_refused hr (pa_cons pe_int (pa_cons (pv 4) (pa_cons (pv 4) (pa_cons (pv 2) (pa_cons (pv 3) pa_nil)))))) (pe_lst (pa_cons pe_str pa_nil)) (nomark _)))) pss_nil)
      (pss_cons (ps_set (i:=5) sc__law_over_right.nd rfl (Or.inl rfl) (pe_op op_rep (pe_comp1 (k_pil (K:=K) (pe_callF c__law_bits (hr.mono (by decide)) (pa_cons (pv 0) (pa_cons (pv 1) pa_nil)))) (fun _ _ _ _=>pts_nil) (fun _ _ _ _=>(pe_op op_rep (pv 0) (pv 1)))) (pv 3)))
      (pss_one (ps_ret (pe_and (pe_callF c__law_same (hr.mono (by decide)) (pa_cons (pe_callF c__law_told (hr.mono (by decide)) (pa_cons (pe_callE c_told_over (hr.mono (by decide)) passN (pa_cons (pv 4) (pa_cons (pv 2) (pa_cons (pv 3) pa_nil)))) pa_nil)) (pa_cons (pv 5) pa_nil))) (pe_one (pe_cmpR (op_eqD hr.units) (pe_methF0 (pv 4) d_Cloth_told (hr.mono (by decide))) (pe_tup (pa_cons (pv 0) (pa_cons (pv 1) pa_nil))) (nomark _))))))))),?_⟩
    walk_at "w"
    refine rd_listOf (SqL.of glr) fun l1 hl1=> ?_
    have s1:=same_new (o:=HO.lst (rs.map nV)) hl1
    have g1:upd H l1 (HO.lst (rs.map nV)) l1=_:=upd_same
    generalize upd H l1 (HO.lst (rs.map nV))=H1 at s1 g1 ⊢
    walk_at "w"
    refine cl_make (Q:=fun v H=>gName 4 v _ H _) g1 okr fun H2 x s2 hx cx=> ?_
    have s02:=s1.trans s2
    replace glr:=s02 _ _ glr
    walk_at "v"
    by_cases bad:n*a≤60∧rs.length*k0≤60
    rotate_left
    · refine ifK (fun kk=> ?_) (fun H3 s3=> ?_)
      · walk_at "w"
        refine rd_rI c1 ?_
        rw [j1]
        walk_at "w"
        rw [gt60]
        refine iteP (fun q=>kk _ (Same.refl _)) (fun q=> ?_)
        walk_at "w"
        refine rd_lenL (SqL.of glr) ?_
        rw [List.length_map]
        walk_at "w"
        refine rd_rI c2 ?_
        rw [j2]
        walk_at "w"
        rw [gt60]
        exact iteP (fun _=>kk _ (Same.refl _)) (fun q2=>by omega)
      · walk_at "w"
        refine ⟨2,x,x,a,k0,6,rfl, .over (cx.same s3) okr a1 k1 ha hk bad,fun H4 l s4 hl g4=> ?_⟩
        walk_at "w"
        intro l9 hl9
        walk_at "w"
        refine rd_eqLS (as:=[nmK 6]) (bs:=[("cloth":Str)]) (SqL.of (same_new hl9 _ _ g4)) (SqL.of upd_same) ?_
        rw [show (decide (([nmK 6]:List Str)=[("cloth":Str)]))=true by decide +kernel]
        exact k _ (s02.trans (s3.trans (s4.trans (same_new hl9))))
    obtain ⟨m1,m2⟩:=id bad
    have aa:a≤60:=Nat.le_trans (Nat.le_mul_of_pos_left _ n1) m1
    have kk0:k0≤60:=Nat.le_trans (Nat.le_mul_of_pos_left _ p1) m2
    walk_at "w"
    refine rd_rI c1 ?_
    rw [j1]
    walk_at "w"
    rw [gt60]
    refine iteP (fun q=>by omega) (fun q=> ?_)
    walk_at "w"
    refine rd_lenL (SqL.of glr) ?_
    rw [List.length_map]
    walk_at "w"
    refine rd_rI c2 ?_
    rw [j2]
    walk_at "w"
    rw [gt60]
    refine iteP (fun q=>by omega) (fun q=> ?_)
    walk_at "w"
    refine ⟨n,lr,rs,rfl,SqL.of glr,n2,p2,fun H3 b1 s3 hb1 r1=> ?_⟩
    obtain ⟨_,us1,eb1,gb1,lu1,el1⟩:=bl_of r1
    cases eb1
    rw [List.length_map] at lu1 el1
    walk_at "w"
    refine ⟨b1,rfl,⟨_,SqL.of gb1⟩,fun D hD=> ?_⟩
    refine comp_map (m:=1) (G:=fun i=>dL (repL a (bitsN n (rs.getD i 0)))) (src_list (SqL.of gb1) rfl) hD (by omega) ?_ ?_
    · intro i H' R hi s kk
      obtain ⟨q1,eq1,gq1⟩:=el1 i (by omega)
      rw [eq1]
      rw [getD_map (bitsN n) rs i [] 0 (by omega)] at gq1
      walk_at "w"
      refine rd_rep (s _ _ gq1) (by omega) (by omega) (by unfold bitsN;simp;omega) fun q hq=> ?_
      rw [Int.toNat_natCast,rep_map]
      exact kk _ _ (same_new hq) (rp_L upd_same hq (by rw [show (repL a (bitsN n (rs.getD i 0))).length=n*a by unfold repL;rw [rep_len];unfold bitsN;simp [Nat.mul_comm]];omega))
    intro H4 ys s4 hl4 r4
    have e4:(List.range us1.length).map (fun i=>dL (repL a (bitsN n (rs.getD i 0))))=(rs.map fun r=>repL a (bitsN n r)).map dL:=by
      rw [lu1,List.map_map]
      exact map_range_getD (fun r=>dL (repL a (bitsN n r))) rs 0
    rw [e4] at r4
    have r4:Rp H4 FT 2 (.ref D) (dLL (rs.map fun r=>repL a (bitsN n r))):=r4.any
    have ly:ys.length=rs.length:=by
      cases r4 with
      | lst h f b l e=>
        rw [hl4] at h
        cases h
        rw [l,List.length_map,List.length_map]
    walk_at "w"
    refine rd_rep hl4 (by omega) (by omega) (by omega) fun l5 hl5=> ?_
    rw [Int.toNat_natCast]
    have s5:=same_new (o:=HO.lst (List.replicate k0 ys).flatten) hl5
    have g5:upd H4 l5 (HO.lst (List.replicate k0 ys).flatten) l5=some (.lst (repL k0 ys)):=upd_same
    generalize upd H4 l5 (HO.lst (List.replicate k0 ys).flatten)=H5 at s5 g5 ⊢
    have r5:Rp H5 FT 2 (.ref l5) (dLL (repL k0 (rs.map fun r=>repL a (bitsN n r)))):=by
      have:=rp_rep (k:=k0) r4 hl4 s5 g5 (by rw [ly,Nat.mul_comm];omega)
      unfold dLL
      rw [show (repL k0 (rs.map fun r=>repL a (bitsN n r))).map dL=repL k0 ((rs.map fun r=>repL a (bitsN n r)).map dL) from (rep_map dL k0 _).symm]
      exact this
    rw [← over_bits okr.lt] at r5
    have s25:=s3.trans (s4.trans s5)
    replace cx:=cx.same s25
    walk_at "w"
    refine ⟨x,n,rs,a,k0,rfl,cx,okr,a1,k1,ha,hk,fun _ _ H6 u s6 hu6 cu=> ?_,fun z=>absurd bad z⟩
    have oku:ClOk (n*a) (overL n rs a k0):=⟨Nat.mul_pos n1 a1,m1,by unfold overL;rw [rep_len,List.length_map];exact Nat.mul_pos k1 p1,by unfold overL;rw [rep_len,List.length_map,Nat.mul_comm];exact m2,fun r hr=>by
      obtain ⟨z,hz,rfl⟩:=List.mem_map.mp (rep_mem hr)
      exact over_lt (okr.lt _ hz)⟩
    walk_at "w"
    refine ⟨u,_,_,rfl,cu,oku,fun H7 b3 s7 hb3 r3=> ?_⟩
    walk_at "w"
    refine ⟨_,_,_,rfl,r3.any.up (by decide),(r5.same (s6.trans s7)).up (by decide),fun H8 s8=> ?_⟩
    have s28:=s25.trans (s6.trans (s7.trans s8))
    have s58:=s6.trans (s7.trans s8)
    replace cx:=cx.same s58
    obtain ⟨dx,tx,hx,htx⟩:=id cx
    refine ⟨true,rfl,?_⟩
    refine iteT ?_
    walk_at "w"
    refine ⟨_,_,_,rfl,hx,rfl,?_⟩
    walk_at "w"
    refine ⟨x,n,rs,rfl,cx,fun H9 p1 w1 s9 hp1 hw1 gp1 gw1=> ?_⟩
    walk_at "w"
    intro p12 hp12
    have s12:=same_new (o:=HO.tup [nV n,V.ref lr]) hp12
    walk_at "w"
    refine ⟨2,dCl n rs,dCl n rs,by decide,(rp_cl gp1 gw1 trivial (by omega)).same s12,rp_cl upd_same (s12 _ _ (s9 _ _ (s28 _ _ glr))) trivial (by omega),rfl,?_⟩
    rw [eqD_refl]
    exact k _ (s02.trans (s28.trans (s9.trans s12)))
def sp__law_draft_right:Sp:=fun vs H Q _=>∃ (v:V) (d:Dr) (a k:Nat),vs=[v,nV a,nV k]∧Rp H FT 3 v (dDr d)∧DrOk d∧1≤a∧1≤k∧a<2 ^ 200∧k<2 ^ 200∧∀ H',Same H H'→Q (.bl true) H'
abbrev s__law_draft_right:Stmt:=top 70
theorem sc__law_draft_right:FnScope ["_law_due","_law_across","_law_down","_law_draft_here","_law_found","_law_rows","_law_told_here","_law_bits_here"] ["_law_due","_law_across","_law_down"] (defScope s__law_draft_right):=⟨rfl,rfl,rfl,by decide +kernel,rfl,by decide +kernel,by decide +kernel⟩
theorem ok__law_draft_right {f:Addr} {fd:FuncData} (F:Fun K "_law_draft_right" "_law_draft_right" s__law_draft_right f fd) (T:Txt K mg c) (c__law_made:CallF P w K mg base "_law_made" 8 ["_law_due"] (sp__law_made c)) (c__law_refused:CallF P w K mg base "_law_refused" 10 ["_law_which","_law_one","_law_other","_law_across","_law_down"] (sp__law_refused c)) (c_draft_told_over:CallE P w K mg base "draft_told_over" 9 ["draft","across","down"] (sp_draft_told_over c)) (c__law_same:CallF P w K mg base "_law_same" (4+1) ["_law_found","_law_due"] (sp__law_same 4)) (d_Draft_told:MethF P w K mg base c.Draft "told" 1 ["self"] (sp_Draft_told c)) (c__law_told:CallF P w K mg base "_law_told" 2 ["_law_cloth"] (sp__law_told c)) (c_woven:CallF P w K mg base "woven" 6 ["draft"] (sp_woven c)):FnOk P w K mg base CX0 11 f fd ["_law_due","_law_across","_law_down"] sp__law_draft_right:=by
  refine F.ok sc__law_draft_right (fun vs H Q E h=> ?_) (fun cdv A outer s H vs Q E hr h=> ?_)
  · obtain ⟨v,d,a,k,rfl,_⟩:=h
    rfl
  · obtain ⟨v,d,a,k0,rfl,rv,ok,a1,k1,ha,hk,k⟩:=h
    have hu:=hr.units0
    have n1:=ok.h1
    have n2:=ok.h2
    have p1:=ok.p1
    have p2:=ok.p2
    have wl:=ok.wl
    have fl:=ok.fl
    have c1:CMulN ((d.th.length:Nat):Int) ((a:Nat):Int):=⟨_,a,rfl,rfl,sm9 n2,big9 ha⟩
    have c2:CMulN ((d.td.length:Nat):Int) ((k0:Nat):Int):=⟨_,k0,rfl,rfl,sm9 p2,big9 hk⟩
    have j1:((d.th.length:Nat):Int)*((a:Nat):Int)=((d.th.length*a:Nat):Int):=by push_cast;rfl
    have j2:((d.td.length:Nat):Int)*((k0:Nat):Int)=((d.td.length*k0:Nat):Int):=by push_cast;rfl
    refine ⟨_,(pss_cons (ps_set (i:=3) sc__law_draft_right.nd rfl (Or.inl rfl) (pe_callF c__law_made (hr.mono (by decide)) (pa_cons (pv 0) pa_nil)))
      (pss_cons (ps_if (PW.pt (pw_or (pt_cmpR op_gt (pe_op op_mulN (pe_callB (k_len (K:=K)) rfl (T.own _ (by decide)) boot_len (pa_cons (pe_ix (k_ixt (K:=K)) (pv 0) pe_int (fun _ _=>rfl)) pa_nil)) (pv 1)) pe_int (nomark _)) (pw_or1 (pt_cmpR op_gt (pe_op op_mulN (pe_callB (k_len (K:=K)) rfl (T.own _ (by decide)) boot_len (pa_cons (pe_ix (k_ixt (K:=K)) (pv 0) pe_int (fun _ _=>rfl)) pa_nil)) (pv 2)) pe_int (nomark _))))) (pss_one (ps_ret (pe_cmpR (k_eql hu (K:=K)) (pe_callF c__law_refused hr (pa_cons pe_int (pa_cons (pv 3) (pa_cons (pv 3) (pa_cons (pv 1) (pa_cons (pv 2) pa_nil)))))) (pe_lst (pa_cons pe_str pa_nil)) (nomark _)))) pss_nil)
      (pss_cons (ps_set (i:=4) sc__law_draft_right.nd rfl (Or.inl rfl) (pe_callE c_draft_told_over (hr.mono (by decide)) passN (pa_cons (pv 3) (pa_cons (pv 1) (pa_cons (pv 2) pa_nil)))))
      (pss_cons (ps_set (i:=5) sc__law_draft_right.nd rfl (Or.inl rfl) (pe_tup (pa_cons (pe_op op_rep (pe_ix (k_ixt (K:=K)) (pv 0) pe_int (fun _ _=>rfl)) (pv 1)) (pa_cons (pe_ix (k_ixt (K:=K)) (pv 0) pe_int (fun _ _=>rfl)) (pa_cons (pe_op op_rep (pe_ix (k_ixt (K:=K)) (pv 0) pe_int (fun _ _=>rfl)) (pv 2)) pa_nil)))))
      (pss_cons (ps_set (i:=6) sc__law_draft_right.nd rfl (Or.inl rfl) (pe_op (k_catU (K:=K)) (pe_op (k_catU (K:=K)) (pe_slice (k_slt (K:=K)) (pv 0) po_none (po_some pe_int)) (pv 5)) (pe_tup (pa_cons (pe_op op_rep (pe_ix (k_ixt (K:=K)) (pv 0) pe_int (fun _ _=>rfl)) (pv 1)) (pa_cons (pe_op op_rep (pe_ix (k_ixt (K:=K)) (pv 0) pe_int (fun _ _=>rfl)) (pv 2)) pa_nil)))))
      (pss_cons (ps_if (PW.pt (pw_or (pt_not (pt_val (pe_callF c__law_same (hr.mono (by decide)) (pa_cons (pe_methF0 (pv 4) d_Draft_told (hr.mono (by decide))) (pa_cons (pv 6) pa_nil))))) (pw_or1 (pt_not (pt_val (pe_callF c__law_same (hr.mono (by decide)) (pa_cons (pe_methF0 (pv 3) d_Draft_told (hr.mono (by decide))) (pa_cons (pv 0) pa_nil)))))))) (pss_one (ps_ret pe_bl)) pss_nil)
      (pss_cons (ps_set (i:=7) sc__law_draft_right.nd rfl (Or.inl rfl) (pe_op op_rep (pe_comp1 (k_pil (K:=K) (pe_callF c__law_told (hr.mono (by decide)) (pa_cons (pe_callF c_woven (hr.mono (by decide)) (pa_cons (pv 3) pa_nil)) pa_nil))) (fun _ _ _ _=>pts_nil) (fun _ _ _ _=>(pe_op op_rep (pv 0) (pv 1)))) (pv 2)))
      (pss_one (ps_ret (pe_callF c__law_same (hr.mono (by decide)) (pa_cons (pe_callF c__law_told (hr.mono (by decide)) (pa_cons (pe_callF c_woven (hr.mono (by decide)) (pa_cons (pv 4) pa_nil)) pa_nil)) (pa_cons (pv 7) pa_nil)))))))))))),?_⟩
    walk_at "w"
    refine ⟨v,d,rfl,rv,ok,fun H1 x s1 hx cx=> ?_⟩
    replace rv:=rv.same s1
    obtain ⟨m,t,a2,v3,v4,a5,a6,em,rfl,gt,g2,r3,r4,g5,g6⟩:=due_of rv
    cases em
    obtain ⟨b4,us4,rfl,gb4,l4,el4⟩:=bl_of r4
    walk_at "v"
    by_cases bad:d.th.length*a≤60∧d.td.length*k0≤60
    rotate_left
    · refine ifK (fun kk=> ?_) (fun H3 s3=> ?_)
      · walk_at "w"
        refine rd_ixT (SqT.of gt) rfl ?_
        walk_at "w"
        refine rd_lenL (SqL.of g2) ?_
        rw [List.length_map]
        walk_at "w"
        refine rd_rI c1 ?_
        rw [j1]
        walk_at "w"
        rw [gt60]
        refine iteP (fun q=>kk _ (Same.refl _)) (fun q=> ?_)
        walk_at "w"
        refine rd_ixT (SqT.of gt) rfl ?_
        walk_at "w"
        refine rd_lenL (SqL.of gb4) ?_
        rw [l4]
        walk_at "w"
        refine rd_rI c2 ?_
        rw [j2]
        walk_at "w"
        rw [gt60]
        exact iteP (fun _=>kk _ (Same.refl _)) (fun q2=>by omega)
      · walk_at "w"
        refine ⟨3,x,x,a,k0,5,rfl, .draft (cx.same s3) ok a1 k1 ha hk bad,fun H4 l s4 hl g4=> ?_⟩
        walk_at "w"
        intro l9 hl9
        walk_at "w"
        refine rd_eqLS (as:=[nmK 5]) (bs:=[("draft":Str)]) (SqL.of (same_new hl9 _ _ g4)) (SqL.of upd_same) ?_
        rw [show (decide (([nmK 5]:List Str)=[("draft":Str)]))=true by decide +kernel]
        exact k _ (s1.trans (s3.trans (s4.trans (same_new hl9))))
    obtain ⟨m1,m2⟩:=id bad
    have aa:a≤60:=Nat.le_trans (Nat.le_mul_of_pos_left _ n1) m1
    have kk0:k0≤60:=Nat.le_trans (Nat.le_mul_of_pos_left _ p1) m2
    walk_at "w"
    refine rd_ixT (SqT.of gt) rfl ?_
    walk_at "w"
    refine rd_lenL (SqL.of g2) ?_
    rw [List.length_map]
    walk_at "w"
    refine rd_rI c1 ?_
    rw [j1]
    walk_at "w"
    rw [gt60]
    refine iteP (fun q=>by omega) (fun q=> ?_)
    walk_at "w"
    refine rd_ixT (SqT.of gt) rfl ?_
    walk_at "w"
    refine rd_lenL (SqL.of gb4) ?_
    rw [l4]
    walk_at "w"
    refine rd_rI c2 ?_
    rw [j2]
    walk_at "w"
    rw [gt60]
    refine iteP (fun q=>by omega) (fun q=> ?_)
    walk_at "w"
    refine ⟨x,d,a,k0,rfl,cx,ok,a1,k1,ha,hk,fun _ _ H2 y s2 hy cy=> ?_,fun z=>absurd bad z⟩
    have okd:=overD_ok ok a1 k1 m1 m2
    walk_at "w"
    refine rd_ixT (SqT.of (s2 _ _ gt)) rfl ?_
    walk_at "w"
    refine rd_rep (s2 _ _ g2) (by omega) (by omega) (by simp;omega) fun e2 he2=> ?_
    rw [Int.toNat_natCast,rep_map]
    have s3:=same_new (o:=HO.lst ((List.replicate a d.th).flatten.map nV)) he2
    have h2:upd H2 e2 (HO.lst ((List.replicate a d.th).flatten.map nV)) e2=some (.lst ((repL a d.th).map nV)):=upd_same
    generalize upd H2 e2 (HO.lst ((List.replicate a d.th).flatten.map nV))=H3 at s3 h2 ⊢
    have s13:=s2.trans s3
    walk_at "w"
    refine rd_ixT (SqT.of (s13 _ _ gt)) rfl ?_
    walk_at "w"
    refine rd_ixT (SqT.of (s13 _ _ gt)) rfl ?_
    walk_at "w"
    refine rd_rep (s13 _ _ gb4) (by omega) (by omega) (by omega) fun e4 he4=> ?_
    rw [Int.toNat_natCast]
    have s4:=same_new (o:=HO.lst (List.replicate k0 us4).flatten) he4
    have h4:upd H3 e4 (HO.lst (List.replicate k0 us4).flatten) e4=some (.lst (repL k0 us4)):=upd_same
    generalize upd H3 e4 (HO.lst (List.replicate k0 us4).flatten)=H4 at s4 h4 ⊢
    have s14:=s13.trans s4
    have q4:Rp H4 FT 2 (.ref e4) (dLL (repL k0 d.td)):=by
      have:=rp_rep (k:=k0) r4 gb4 s14 h4 (by rw [l4,Nat.mul_comm];omega)
      unfold dLL
      rw [show (repL k0 d.td).map dL=repL k0 (d.td.map dL) from (rep_map dL k0 d.td).symm]
      exact this
    walk_at "w"
    intro e5 he5
    have s5:=same_new (o:=HO.tup [V.ref e2,v3,V.ref e4]) he5
    have h5:upd H4 e5 (HO.tup [V.ref e2,v3,V.ref e4]) e5=_:=upd_same
    generalize upd H4 e5 (HO.tup [V.ref e2,v3,V.ref e4])=H5 at s5 h5 ⊢
    have s15:=s14.trans s5
    walk_at "w"
    refine rd_slN (SqT.of (s15 _ _ gt)) fun H6 e6 s6 h6=> ?_
    rw [cut_to (by decide)] at h6
    have h6:SqT K H6 e6 [nV d.sh,nV d.tr]:=h6
    walk_at "w"
    refine rd_catU h6 (SqT.of (s6 _ _ h5)) (by simp) (by simp) (by simp) fun e7 he7=> ?_
    have s7:=same_new (o:=HO.tup ([nV d.sh,nV d.tr]++[V.ref e2,v3,V.ref e4])) he7
    have h7:upd H6 e7 (HO.tup ([nV d.sh,nV d.tr]++[V.ref e2,v3,V.ref e4])) e7=_:=upd_same
    generalize upd H6 e7 (HO.tup ([nV d.sh,nV d.tr]++[V.ref e2,v3,V.ref e4]))=H7 at s7 h7 ⊢
    have s17:=s15.trans (s6.trans s7)
    walk_at "w"
    refine rd_ixT (SqT.of (s17 _ _ gt)) rfl ?_
    walk_at "w"
    refine rd_rep (s17 _ _ g5) (by omega) (by omega) (by simp;omega) fun e8 he8=> ?_
    rw [Int.toNat_natCast,rep_map]
    have s8:=same_new (o:=HO.lst ((List.replicate a d.wa).flatten.map V.str)) he8
    have h8:upd H7 e8 (HO.lst ((List.replicate a d.wa).flatten.map V.str)) e8=some (.lst ((repL a d.wa).map V.str)):=upd_same
    generalize upd H7 e8 (HO.lst ((List.replicate a d.wa).flatten.map V.str))=H8 at s8 h8 ⊢
    have s18:=s17.trans s8
    walk_at "w"
    refine rd_ixT (SqT.of (s18 _ _ gt)) rfl ?_
    walk_at "w"
    refine rd_rep (s18 _ _ g6) (by omega) (by omega) (by simp;omega) fun e9 he9=> ?_
    rw [Int.toNat_natCast,rep_map]
    have s9:=same_new (o:=HO.lst ((List.replicate k0 d.we).flatten.map V.str)) he9
    have h9:upd H8 e9 (HO.lst ((List.replicate k0 d.we).flatten.map V.str)) e9=some (.lst ((repL k0 d.we).map V.str)):=upd_same
    generalize upd H8 e9 (HO.lst ((List.replicate k0 d.we).flatten.map V.str))=H9 at s9 h9 ⊢
    walk_at "w"
    intro eA heA
    have sA:=same_new (o:=HO.tup [V.ref e8,V.ref e9]) heA
    have hA:upd H9 eA (HO.tup [V.ref e8,V.ref e9]) eA=_:=upd_same
    generalize upd H9 eA (HO.tup [V.ref e8,V.ref e9])=HA at sA hA ⊢
    have s7A:=s8.trans (s9.trans sA)
    walk_at "w"
    refine rd_catU (SqT.of (s7A _ _ h7)) (SqT.of hA) (by simp) (by simp) (by simp) fun eB heB=> ?_
    have sB:=same_new (o:=HO.tup ([nV d.sh,nV d.tr]++[V.ref e2,v3,V.ref e4]++[V.ref e8,V.ref e9])) heB
    have hB:upd HA eB (HO.tup ([nV d.sh,nV d.tr]++[V.ref e2,v3,V.ref e4]++[V.ref e8,V.ref e9])) eB=some (.tup [nV d.sh,nV d.tr,V.ref e2,v3,V.ref e4,V.ref e8,V.ref e9]):=upd_same
    generalize upd HA eB (HO.tup ([nV d.sh,nV d.tr]++[V.ref e2,v3,V.ref e4]++[V.ref e8,V.ref e9]))=HB at sB hB ⊢
    have s4B:=s5.trans (s6.trans (s7.trans (s7A.trans sB)))
    have s1B:=s14.trans s4B
    have rB:Rp HB FT 3 (.ref eB) (dDr (overD d a k0)):=by
      have l1:(repL a d.th).length≤100000:=by unfold repL;rw [rep_len,Nat.mul_comm];omega
      have l2:(repL a d.wa).length≤100000:=by unfold repL;rw [rep_len,wl,Nat.mul_comm];omega
      have l3:(repL k0 d.we).length≤100000:=by unfold repL;rw [rep_len,fl,Nat.mul_comm];omega
      exact rp_tup7 hB (.int _) (.int _) (rp_L (s4B _ _ (s4 _ _ h2)) trivial l1) (r3.same s1B) (q4.same s4B) (rp_S (sB _ _ (sA _ _ (s9 _ _ h8))) trivial l2) (rp_S (sB _ _ (sA _ _ h9)) trivial l3)
    replace cx:=cx.same s1B
    replace cy:=cy.same (s3.trans (s4.trans s4B))
    replace rv:=rv.same s1B
    replace s1:=s1.trans s1B
    clear s1B s4B s7A sB sA s9 s8 s17 s18 s7 s6 s15 s5 s14 s4 s13 s3 s2 r3 r4 q4 hB hA h9 h8 h7 h5 h4 h2 gt g2 g5 g6 gb4 el4 h6
    obtain ⟨dx,w1,w2,w3,w4,w5,hx0,_⟩:=id cx
    obtain ⟨dy,z1,z2,z3,z4,z5,hy0,_⟩:=id cy
    walk_at "w"
    refine ⟨_,_,_,rfl,hy0,rfl,?_⟩
    walk_at "w"
    refine ⟨y,_,rfl,cy,fun HC pC sC hpC rC=> ?_⟩
    walk_at "w"
    refine ⟨_,_,_,rfl,rC.any,rB.same sC,fun HD sD=> ?_⟩
    have sBD:=sC.trans sD
    refine ⟨true,rfl,?_⟩
    refine iteF ?_
    walk_at "w"
    refine ⟨_,_,_,rfl,sBD _ _ hx0,rfl,?_⟩
    walk_at "w"
    refine ⟨x,_,rfl,cx.same sBD,fun HE pE sE hpE rE=> ?_⟩
    walk_at "w"
    refine ⟨_,_,_,rfl,rE.any,rv.same (sBD.trans sE),fun HF sF=> ?_⟩
    have sBF:=sBD.trans (sE.trans sF)
    replace s1:=s1.trans sBF
    replace cx:=cx.same sBF
    replace cy:=cy.same sBF
    refine ⟨true,rfl,?_⟩
    refine iteF ?_
    walk_at "w"
    refine ⟨x,d,rfl,cx,ok,fun HG u sG hu cu=> ?_⟩
    walk_at "w"
    have oku:=wov_ok ok
    have lw:(wovN d).length=d.td.length:=by unfold wovN;rw [List.length_map]
    refine ⟨u,_,_,rfl,cu,oku,fun HH b1 sH hb1 r1=> ?_⟩
    obtain ⟨_,us1,eb1,gb1,lu1,el1⟩:=bl_of r1
    cases eb1
    rw [List.length_map] at lu1 el1
    walk_at "w"
    refine ⟨b1,rfl,⟨_,SqL.of gb1⟩,fun D hD=> ?_⟩
    refine comp_map (m:=1) (G:=fun i=>dL (repL a (bitsN d.th.length ((wovN d).getD i 0)))) (src_list (SqL.of gb1) rfl) hD (by omega) ?_ ?_
    · intro i H' R hi s kk
      obtain ⟨q1,eq1,gq1⟩:=el1 i (by omega)
      rw [eq1]
      rw [getD_map (bitsN d.th.length) (wovN d) i [] 0 (by omega)] at gq1
      walk_at "w"
      refine rd_rep (s _ _ gq1) (by omega) (by omega) (by unfold bitsN;simp;omega) fun q hq=> ?_
      rw [Int.toNat_natCast,rep_map]
      exact kk _ _ (same_new hq) (rp_L upd_same hq (by rw [show (repL a (bitsN d.th.length ((wovN d).getD i 0))).length=d.th.length*a by unfold repL;rw [rep_len];unfold bitsN;simp [Nat.mul_comm]];omega))
    intro HI ys sI hlI rI'
    have e4:(List.range us1.length).map (fun i=>dL (repL a (bitsN d.th.length ((wovN d).getD i 0))))=((wovN d).map fun r=>repL a (bitsN d.th.length r)).map dL:=by
      rw [lu1,List.map_map]
      exact map_range_getD (fun r=>dL (repL a (bitsN d.th.length r))) (wovN d) 0
    rw [e4] at rI'
    have rI2:Rp HI FT 2 (.ref D) (dLL ((wovN d).map fun r=>repL a (bitsN d.th.length r))):=rI'.any
    have ly:ys.length=d.td.length:=by
      cases rI2 with
      | lst h f b l e=>
        rw [hlI] at h
        cases h
        rw [l,List.length_map,List.length_map,lw]
    walk_at "w"
    refine rd_rep hlI (by omega) (by omega) (by omega) fun lJ hlJ=> ?_
    rw [Int.toNat_natCast]
    have sJ:=same_new (o:=HO.lst (List.replicate k0 ys).flatten) hlJ
    have gJ:upd HI lJ (HO.lst (List.replicate k0 ys).flatten) lJ=some (.lst (repL k0 ys)):=upd_same
    generalize upd HI lJ (HO.lst (List.replicate k0 ys).flatten)=HJ at sJ gJ ⊢
    have rJ:Rp HJ FT 2 (.ref lJ) (dLL (repL k0 ((wovN d).map fun r=>repL a (bitsN d.th.length r)))):=by
      have:=rp_rep (k:=k0) rI2 hlI sJ gJ (by rw [ly,Nat.mul_comm];omega)
      unfold dLL
      rw [show (repL k0 ((wovN d).map fun r=>repL a (bitsN d.th.length r))).map dL=repL k0 (((wovN d).map fun r=>repL a (bitsN d.th.length r)).map dL) from (rep_map dL k0 _).symm]
      exact this
    rw [← over_bits oku.lt] at rJ
    have sFJ:=sG.trans (sH.trans (sI.trans sJ))
    walk_at "w"
    refine ⟨y,_,rfl,cy.same sFJ,okd,fun HK u2 sK hu2 cu2=> ?_⟩
    walk_at "w"
    refine ⟨u2,_,_,rfl,cu2,wov_ok okd,fun HL b3 sL hb3 r3=> ?_⟩
    rw [wov_over ok,overN_len] at r3
    walk_at "w"
    exact ⟨_,_,_,rfl,r3.any.up (by decide),(rJ.same (sK.trans sL)).up (by decide),fun HM sM=>k _ (s1.trans (sFJ.trans (sK.trans (sL.trans sM))))⟩
end
end K17
open L2
namespace K17
open PySem L2 PySem.Spec PyProof.Rows
seal L2.PE L2.PT L2.PW L2.PA L2.PS L2.PSs L2.PI L2.PG L2.PTs L2.PGs
section
variable {P:Program} {w:World} {K:PySem.W.Frag} {mg:Str→Option Value} {base:Heap} {c:Cs}
abbrev s_law:Stmt:=top 71
theorem sc_law:FnScope ["_law_script","_law_whole","_law_wide","_law_masks","_law_further","_law_others","_law_due","_law_turn","_law_one","_law_other","_law_across","_law_down"] ["_law_script"] (defScope s_law):=⟨rfl,rfl,rfl,by decide +kernel,rfl,by decide +kernel,by decide +kernel⟩
theorem ok_law {f:Addr} {fd:FuncData} (F:Fun K "law" "law" s_law f fd) (T:Txt K mg c) (c__law_mixed:CallF P w K mg base "_law_mixed" 1 ["_law_cell","_law_k"] sp__law_mixed) (c__law_cloths:CallF P w K mg base "_law_cloths" 2 ["_law_script","_law_whole"] (sp__law_cloths K)) (c__law_joined_right:CallF P w K mg base "_law_joined_right" 11 ["_law_wide","_law_masks","_law_further","_law_others"] sp__law_joined_right) (c__law_draft:CallF P w K mg base "_law_draft" 2 ["_law_script","_law_most"] (sp__law_draft K)) (c__law_count:CallF P w K mg base "_law_count" 1 ["_law_number","_law_size"] sp__law_count) (c__law_over_right:CallF P w K mg base "_law_over_right" 11 ["_law_wide","_law_masks","_law_across","_law_down"] sp__law_over_right) (c__law_draft_right:CallF P w K mg base "_law_draft_right" 11 ["_law_due","_law_across","_law_down"] sp__law_draft_right):FnOk P w K mg base CX0 12 f fd ["_law_script"] (spLaw K):=by
  refine F.ok sc_law (fun vs H Q E h=> ?_) (fun cdv A outer s H vs Q E hr h=> ?_)
  · obtain ⟨a,ns,rfl,_⟩:=h
    rfl
  · obtain ⟨a,ns,rfl,sa,hn,k⟩:=h
    refine ⟨_,(pss_cons (ps_set (i:=1) sc_law.nd rfl (Or.inl rfl) (pe_callB (k_sum (K:=K)) rfl (T.own _ (by decide)) boot_sum (pa_cons (pe_comp2 (K:=K) (pi_enum (K:=K) rfl (T.own _ (by decide)) (pa_cons (pv 0) pa_nil)) (fun _ _ _ _=>pts_nil) (fun _ _ _ _=>(pe_op op_mul (pe_op op_mod (pv 1) pe_int) (pe_op op_add (pv 0) pe_int)))) pa_nil)))
      (pss_cons (ps_asg (pe_callF c__law_cloths (hr.mono (by decide)) (pa_cons (pv 0) (pa_cons (pv 1) pa_nil))) (k_gtup (K:=K) rfl (pgs_cons (pg_name (i:=2) sc_law.nd rfl (Or.inl rfl)) (pgs_cons (pg_name (i:=3) sc_law.nd rfl (Or.inl rfl)) (pgs_cons (pg_name (i:=4) sc_law.nd rfl (Or.inl rfl)) (pgs_cons (pg_name (i:=5) sc_law.nd rfl (Or.inl rfl)) pgs_nil))))))
      (pss_cons (ps_if (pt_not (pt_val (pe_callF c__law_joined_right hr (pa_cons (pv 2) (pa_cons (pv 3) (pa_cons (pv 4) (pa_cons (pv 5) pa_nil))))))) (pss_one (ps_ret pe_bl)) pss_nil)
      (pss_cons (ps_if (pt_not (pt_val (pe_callF c__law_joined_right hr (pa_cons (pv 2) (pa_cons (pv 3) (pa_cons (pv 2) (pa_cons (pv 3) pa_nil))))))) (pss_one (ps_ret pe_bl)) pss_nil)
      (pss_cons (ps_set (i:=6) sc_law.nd rfl (Or.inl rfl) (pe_callF c__law_draft (hr.mono (by decide)) (pa_cons (pv 0) (pa_cons pe_int pa_nil))))
      (pss_cons (ps_for PassesOwn.never rfl (pi_range1 rfl (T.own _ (by decide)) (pa_cons pe_int pa_nil)) (pg_name (i:=7) sc_law.nd rfl (Or.inl rfl)) (pss_cons (ps_set (i:=8) sc_law.nd rfl (Or.inl rfl) (pe_callF c__law_mixed (hr.mono (by decide)) (pa_cons (pv 1) (pa_cons (pe_op op_add pe_int (pv 7)) pa_nil))))
      (pss_cons (ps_set (i:=9) sc_law.nd rfl (Or.inl rfl) (pe_callF c__law_mixed (hr.mono (by decide)) (pa_cons (pv 1) (pa_cons (pe_op op_add pe_int (pv 7)) pa_nil))))
      (pss_cons (ps_set (i:=10) sc_law.nd rfl (Or.inl rfl) (pe_callF c__law_count (hr.mono (by decide)) (pa_cons (pv 8) (pa_cons (pv 2) pa_nil))))
      (pss_cons (ps_set (i:=11) sc_law.nd rfl (Or.inl rfl) (pe_callF c__law_count (hr.mono (by decide)) (pa_cons (pv 9) (pa_cons (pe_callB (k_len (K:=K)) rfl (T.own _ (by decide)) boot_len (pa_cons (pv 3) pa_nil)) pa_nil))))
      (pss_cons (ps_if (pt_not (pt_val (pe_callF c__law_over_right hr (pa_cons (pv 2) (pa_cons (pv 3) (pa_cons (pv 10) (pa_cons (pv 11) pa_nil))))))) (pss_one (ps_ret pe_bl)) pss_nil)
      (pss_cons (ps_set (i:=10) sc_law.nd rfl (Or.inl rfl) (pe_callF c__law_count (hr.mono (by decide)) (pa_cons (pv 8) (pa_cons (pe_callB (k_len (K:=K)) rfl (T.own _ (by decide)) boot_len (pa_cons (pe_ix (k_ixt (K:=K)) (pv 6) pe_int (fun _ _=>rfl)) pa_nil)) pa_nil))))
      (pss_cons (ps_set (i:=11) sc_law.nd rfl (Or.inl rfl) (pe_callF c__law_count (hr.mono (by decide)) (pa_cons (pv 9) (pa_cons (pe_callB (k_len (K:=K)) rfl (T.own _ (by decide)) boot_len (pa_cons (pe_ix (k_ixt (K:=K)) (pv 6) pe_int (fun _ _=>rfl)) pa_nil)) pa_nil))))
      (pss_one (ps_if (pt_not (pt_val (pe_callF c__law_draft_right hr (pa_cons (pv 6) (pa_cons (pv 10) (pa_cons (pv 11) pa_nil)))))) (pss_one (ps_ret pe_bl)) pss_nil))))))))))
      (pss_one (ps_ret (pe_and (pe_callF c__law_draft_right hr (pa_cons (pv 6) (pa_cons pe_int (pa_cons pe_int pa_nil)))) (pe_one (pe_callF c__law_over_right hr (pa_cons (pv 4) (pa_cons (pv 5) (pa_cons pe_int (pa_cons pe_int pa_nil))))))))))))))),?_⟩
    walk_at "w"
    refine ⟨a,rfl,⟨_,sa⟩,fun D0 hD0=> ?_⟩
    refine ints_comp (G:=fun i=>ns.getD i 0%1000000007*((i:Int)+1)) (src_enum sa rfl rfl) hD0 (by rw [List.length_map];omega) ?_ ?_
    · intro i H' R hi s kk
      have b1:=Int.emod_nonneg (ns.getD i 0) (show (1000000007:Int)≠0 by decide)
      have b2:=Int.emod_lt_of_pos (ns.getD i 0) (show (0:Int)<1000000007 by decide)
      rw [getD_int hi]
      walk_at "w"
      refine rd_rI (by decide) ?_
      walk_at "w"
      refine rd_rI (.inl ⟨by omega,by omega⟩) ?_
      exact kk H' (Same.refl _)
    intro H1 s1 hl1
    walk_at "w"
    refine rd_sum (SqL.of hl1) ?_
    generalize ((List.range (ns.map V.int).length).map fun i:Nat=>ns.getD i 0%1000000007*((i:Int)+1)).sum=W
    walk_at "w"
    refine ⟨a,ns,W,rfl,s1.seq sa,hn,fun H2 p n rs m ss lr ls s2 hp gp glr gls okr oks=> ?_⟩
    walk_at "w"
    refine rd_gtup (SqT.of gp) rfl ?_
    have s02:=s1.trans s2
    walk_at "w"
    refine ⟨n,lr,rs,m,ls,ss,rfl,glr,gls,okr,oks,fun H3 s3=> ?_⟩
    refine ⟨true,rfl,?_⟩
    refine iteF ?_
    walk_at "w"
    refine ⟨n,lr,rs,n,lr,rs,rfl,s3 _ _ glr,s3 _ _ glr,okr,okr,fun H4 s4=> ?_⟩
    refine ⟨true,rfl,?_⟩
    refine iteF ?_
    have s24:=s3.trans s4
    walk_at "w"
    refine ⟨a,ns,16,rfl,(s02.trans s24).seq sa,hn,by decide,by decide,fun H5 pt d s5 hpt rd ok=> ?_⟩
    replace rd:Rp H5 FT 3 _ _:=rd.any
    have s25:=s24.trans s5
    replace glr:=s25 _ _ glr
    replace gls:=s25 _ _ gls
    have n1:=okr.n1
    have n2:=okr.n2
    have p1:=okr.p1
    have p2:=okr.p2
    have t1:=ok.h1
    have t2:=ok.h2
    have q1:=ok.p1
    have q2:=ok.p2
    walk_at "w"
    refine ⟨_,rfl,by omega,by omega,?_⟩
    rw [show (3:Int).toNat=3 from rfl]
    refine for_src (fs_range0 (n:=3)) (fun i σ H6=>∃ u1 u2 u3 u4 u5,σ=[some (.ref a),some (.int W),some (nV n),some (.ref lr),some (nV m),some (.ref ls),some (.ref pt),u1,u2,u3,u4,u5]∧Same H5 H6) ⟨_,_,_,_,_,rfl,Same.refl _⟩ (fun i σ H6 ⟨_,_,_,_,_,_,z⟩=>z) ?_ ?_
    · rintro i σ H6 H7 hi ⟨u1,u2,u3,u4,u5,rfl,s6⟩ s7
      have s57:=s6.trans s7
      have mx:∀ j:Int,∃ z:Nat,mixV W j=((z:Nat):Int)∧z<2147483647:=fun j=>by
        have h0:=mix0 W j
        have h1:=mix1 W j
        exact ⟨(mixV W j).toNat,by omega,by omega⟩
      walk_at "w"
      refine ⟨W,_,rfl,⟨by omega,by omega⟩,?_⟩
      obtain ⟨z1,e1,b1⟩:=mx (60+((i:Nat):Int))
      rw [e1]
      walk_at "w"
      refine ⟨W,_,rfl,⟨by omega,by omega⟩,?_⟩
      obtain ⟨z2,e2,b2⟩:=mx (65+((i:Nat):Int))
      rw [e2]
      walk_at "w"
      refine ⟨z1,n,rfl,b1,n1,n2,fun H8 v1 s8 v11 v12=> ?_⟩
      have s58:=s57.trans s8
      walk_at "w"
      refine rd_lenL (SqL.of (s58 _ _ glr)) ?_
      rw [List.length_map]
      walk_at "w"
      refine ⟨z2,rs.length,rfl,b2,p1,p2,fun H9 v2 s9 v21 v22=> ?_⟩
      have s59:=s58.trans s9
      walk_at "w"
      refine ⟨n,lr,rs,v1,v2,rfl,s59 _ _ glr,okr,v11,v21,v12,v22,fun HA sA=> ?_⟩
      have s5A:=s59.trans sA
      refine ⟨true,rfl,?_⟩
      refine iteF ?_
      have rd2:=rd.same s5A
      obtain ⟨m',t,a2,v3,v4,a5,a6,em,et,gt,g2,r3,r4,g5,g6⟩:=due_of rd2
      cases em
      cases et
      obtain ⟨b4,us4,rfl,gb4,l4,el4⟩:=bl_of r4
      walk_at "w"
      refine rd_ixT (SqT.of gt) rfl ?_
      walk_at "w"
      refine rd_lenL (SqL.of g2) ?_
      rw [List.length_map]
      walk_at "w"
      refine ⟨z1,d.th.length,rfl,b1,t1,t2,fun HB v5 sB v51 v52=> ?_⟩
      walk_at "w"
      refine rd_ixT (SqT.of (sB _ _ gt)) rfl ?_
      walk_at "w"
      refine rd_lenL (SqL.of (sB _ _ gb4)) ?_
      rw [l4]
      walk_at "w"
      refine ⟨z2,d.td.length,rfl,b2,q1,q2,fun HC v6 sC v61 v62=> ?_⟩
      have s5C:=s5A.trans (sB.trans sC)
      walk_at "w"
      refine ⟨_,d,v5,v6,rfl,rd.same s5C,ok,v51,v61,v52,v62,fun HD sD=> ?_⟩
      refine ⟨true,rfl,?_⟩
      refine iteF ?_
      refine rd_next ?_
      exact ⟨_,_,_,_,_,rfl,s5C.trans sD⟩
    · rintro σ H6 ⟨u1,u2,u3,u4,u5,rfl,s6⟩
      walk_at "w"
      refine ⟨_,d,1,1,rfl,rd.same s6,ok,by decide,by decide,by decide,by decide,fun H7 s7=> ?_⟩
      refine ⟨true,rfl,?_⟩
      refine iteT ?_
      walk_at "w"
      exact ⟨m,ls,ss,1,1,rfl,s7 _ _ (s6 _ _ gls),oks,by decide,by decide,by decide,by decide,fun H8 s8=>k H8⟩
end
end K17
namespace K17
open PySem L2 PySem.Spec PyProof.Rows
theorem all_mk {l:PySem.W.OpenLaw} {w:World} {K:PySem.W.Frag} {h:Heap} {mg:Str→Option Value} {fa:Addr} (X:K.In h) (G:h.Ns mainGlobals mg) (hfa:mg "law"=some (.ref fa))
    {C_Cloth:Addr}
    {C_Draft:Addr}
    {C_LoomError:Addr}
    {C_BadRow:Addr}
    {C_BadWord:Addr}
    {C_TooMany:Addr}
    {C_NotPlain:Addr}
    {C_NotGrown:Addr}
    {C_BadDraft:Addr}
    {C_BadCloth:Addr}
    {C_OutOfPlace:Addr}
    {C_PARTS:Addr}
    {u_PARTS_0 u_PARTS_1 u_PARTS_2 u_PARTS_3 u_PARTS_4 u_PARTS_5 u_PARTS_6:Tok} {n_PARTS:Nat} {od_PARTS:Option Addr} {sl_PARTS:Array (Option Value)}
    {f0:Addr} {od0 an0:Option Addr} {sl0:Array (Option Value)} {oc0 kV0 dc0 pm0 cd0 ct0:Value}
    {f1:Addr} {od1 an1:Option Addr} {sl1:Array (Option Value)} {oc1 kV1 dc1 pm1 cd1 ct1:Value}
    {f2:Addr} {od2 an2:Option Addr} {sl2:Array (Option Value)} {oc2 kV2 dc2 pm2 cd2 ct2:Value}
    {f3:Addr} {od3 an3:Option Addr} {sl3:Array (Option Value)} {oc3 kV3 dc3 pm3 cd3 ct3:Value}
    {f4:Addr} {od4 an4:Option Addr} {sl4:Array (Option Value)} {oc4 kV4 dc4 pm4 cd4 ct4:Value}
    {f5:Addr} {od5 an5:Option Addr} {sl5:Array (Option Value)} {oc5 kV5 dc5 pm5 cd5 ct5:Value}
    {f6:Addr} {od6 an6:Option Addr} {sl6:Array (Option Value)} {oc6 kV6 dc6 pm6 cd6 ct6:Value}
    {f7:Addr} {od7 an7:Option Addr} {sl7:Array (Option Value)} {oc7 kV7 dc7 pm7 cd7 ct7:Value}
    {f8:Addr} {od8 an8:Option Addr} {sl8:Array (Option Value)} {oc8 kV8 dc8 pm8 cd8 ct8:Value}
    {f9:Addr} {od9 an9:Option Addr} {sl9:Array (Option Value)} {oc9 kV9 dc9 pm9 cd9 ct9:Value}
    {f10:Addr} {od10 an10:Option Addr} {sl10:Array (Option Value)} {oc10 kV10 dc10 pm10 cd10 ct10:Value}
    {f11:Addr} {od11 an11:Option Addr} {sl11:Array (Option Value)} {oc11 kV11 dc11 pm11 cd11 ct11:Value}
    {f12:Addr} {od12 an12:Option Addr} {sl12:Array (Option Value)} {oc12 kV12 dc12 pm12 cd12 ct12:Value}
    {f13:Addr} {od13 an13:Option Addr} {sl13:Array (Option Value)} {oc13 kV13 dc13 pm13 cd13 ct13:Value}
    {f14:Addr} {od14 an14:Option Addr} {sl14:Array (Option Value)} {oc14 kV14 dc14 pm14 cd14 ct14:Value}
    {f15:Addr} {od15 an15:Option Addr} {sl15:Array (Option Value)} {oc15 kV15 dc15 pm15 cd15 ct15:Value}
    {f16:Addr} {od16 an16:Option Addr} {sl16:Array (Option Value)} {oc16 kV16 dc16 pm16 cd16 ct16:Value}
    {f17:Addr} {od17 an17:Option Addr} {sl17:Array (Option Value)} {oc17 kV17 dc17 pm17 cd17 ct17:Value}
    {f18:Addr} {od18 an18:Option Addr} {sl18:Array (Option Value)} {oc18 kV18 dc18 pm18 cd18 ct18:Value}
    {f19:Addr} {od19 an19:Option Addr} {sl19:Array (Option Value)} {oc19 kV19 dc19 pm19 cd19 ct19:Value}
    {f20:Addr} {od20 an20:Option Addr} {sl20:Array (Option Value)} {oc20 kV20 dc20 pm20 cd20 ct20:Value}
    {f21:Addr} {od21 an21:Option Addr} {sl21:Array (Option Value)} {oc21 kV21 dc21 pm21 cd21 ct21:Value}
    {f22:Addr} {od22 an22:Option Addr} {sl22:Array (Option Value)} {oc22 kV22 dc22 pm22 cd22 ct22:Value}
    {f23:Addr} {od23 an23:Option Addr} {sl23:Array (Option Value)} {oc23 kV23 dc23 pm23 cd23 ct23:Value}
    {f24:Addr} {od24 an24:Option Addr} {sl24:Array (Option Value)} {oc24 kV24 dc24 pm24 cd24 ct24:Value}
    {f25:Addr} {od25 an25:Option Addr} {sl25:Array (Option Value)} {oc25 kV25 dc25 pm25 cd25 ct25:Value}
    {f26:Addr} {od26 an26:Option Addr} {sl26:Array (Option Value)} {oc26 kV26 dc26 pm26 cd26 ct26:Value}
    {f27:Addr} {od27 an27:Option Addr} {sl27:Array (Option Value)} {oc27 kV27 dc27 pm27 cd27 ct27:Value}
    {f28:Addr} {od28 an28:Option Addr} {sl28:Array (Option Value)} {oc28 kV28 dc28 pm28 cd28 ct28:Value}
    {f29:Addr} {od29 an29:Option Addr} {sl29:Array (Option Value)} {oc29 kV29 dc29 pm29 cd29 ct29:Value}
    {f30:Addr} {od30 an30:Option Addr} {sl30:Array (Option Value)} {oc30 kV30 dc30 pm30 cd30 ct30:Value}
    {f31:Addr} {od31 an31:Option Addr} {sl31:Array (Option Value)} {oc31 kV31 dc31 pm31 cd31 ct31:Value}
    {f32:Addr} {od32 an32:Option Addr} {sl32:Array (Option Value)} {oc32 kV32 dc32 pm32 cd32 ct32:Value}
    {f33:Addr} {od33 an33:Option Addr} {sl33:Array (Option Value)} {oc33 kV33 dc33 pm33 cd33 ct33:Value}
    {f34:Addr} {od34 an34:Option Addr} {sl34:Array (Option Value)} {oc34 kV34 dc34 pm34 cd34 ct34:Value}
    {f35:Addr} {od35 an35:Option Addr} {sl35:Array (Option Value)} {oc35 kV35 dc35 pm35 cd35 ct35:Value}
    {f36:Addr} {od36 an36:Option Addr} {sl36:Array (Option Value)} {oc36 kV36 dc36 pm36 cd36 ct36:Value}
    {f37:Addr} {od37 an37:Option Addr} {sl37:Array (Option Value)} {oc37 kV37 dc37 pm37 cd37 ct37:Value}
    {f38:Addr} {od38 an38:Option Addr} {sl38:Array (Option Value)} {oc38 kV38 dc38 pm38 cd38 ct38:Value}
    {f39:Addr} {od39 an39:Option Addr} {sl39:Array (Option Value)} {oc39 kV39 dc39 pm39 cd39 ct39:Value}
    {f40:Addr} {od40 an40:Option Addr} {sl40:Array (Option Value)} {oc40 kV40 dc40 pm40 cd40 ct40:Value}
    {f41:Addr} {od41 an41:Option Addr} {sl41:Array (Option Value)} {oc41 kV41 dc41 pm41 cd41 ct41:Value}
    {f42:Addr} {od42 an42:Option Addr} {sl42:Array (Option Value)} {oc42 kV42 dc42 pm42 cd42 ct42:Value}
    {f43:Addr} {od43 an43:Option Addr} {sl43:Array (Option Value)} {oc43 kV43 dc43 pm43 cd43 ct43:Value}
    {f44:Addr} {od44 an44:Option Addr} {sl44:Array (Option Value)} {oc44 kV44 dc44 pm44 cd44 ct44:Value}
    {f45:Addr} {od45 an45:Option Addr} {sl45:Array (Option Value)} {oc45 kV45 dc45 pm45 cd45 ct45:Value}
    {f46:Addr} {od46 an46:Option Addr} {sl46:Array (Option Value)} {oc46 kV46 dc46 pm46 cd46 ct46:Value}
    {f47:Addr} {od47 an47:Option Addr} {sl47:Array (Option Value)} {oc47 kV47 dc47 pm47 cd47 ct47:Value}
    {f48:Addr} {od48 an48:Option Addr} {sl48:Array (Option Value)} {oc48 kV48 dc48 pm48 cd48 ct48:Value}
    {f49:Addr} {od49 an49:Option Addr} {sl49:Array (Option Value)} {oc49 kV49 dc49 pm49 cd49 ct49:Value}
    {f50:Addr} {od50 an50:Option Addr} {sl50:Array (Option Value)} {oc50 kV50 dc50 pm50 cd50 ct50:Value}
    {f51:Addr} {od51 an51:Option Addr} {sl51:Array (Option Value)} {oc51 kV51 dc51 pm51 cd51 ct51:Value}
    {f52:Addr} {od52 an52:Option Addr} {sl52:Array (Option Value)} {oc52 kV52 dc52 pm52 cd52 ct52:Value}
    {f53:Addr} {od53 an53:Option Addr} {sl53:Array (Option Value)} {oc53 kV53 dc53 pm53 cd53 ct53:Value}
    {tk0:Tok}
    {tk1:Tok}
    {tk2:Tok}
    {tk3:Tok}
    {tk4:Tok}
    (aC_Cloth:PySem.W.nsIn K mainGlobals "Cloth"=some (some (.ref C_Cloth)))
    (pg_Cloth:PySem.W.plainGet K C_Cloth Str.empty=true)
    (hd_Cloth:PySem.W.hasDictIn K C_Cloth=true)
    (po_Cloth:PySem.W.plainOver K C_Cloth=true)
    (sa_Cloth:PySem.W.findIn K (.ref C_Cloth) "__setattr__"=some (some (.builtin "object.__setattr__")))
    (mk_Cloth:PySem.W.makesIn K C_Cloth=true)
    (kc_Cloth:PySem.W.keepIn K (.ref C_Cloth)=true)
    (ha_Cloth:PySem.W.findIn K (.ref C_Cloth) "__class__"=some (some (.builtin "object.__class__")))
    (hn_Cloth:PySem.W.specialIn K (.builtin "object.__class__") "__get__"=some (some (.builtin "getset_descriptor.__get__")))
    (ht_Cloth:PySem.W.takesIn K (.builtin "object.__class__")=some true)
    (hm_Cloth:PySem.W.mroIn K C_Cloth (.type "object")=some true)
    (na_Cloth_width:PySem.W.findIn K (.ref C_Cloth) "width"=some none)
    (na_Cloth_rows:PySem.W.findIn K (.ref C_Cloth) "rows"=some none)
    (aC_Draft:PySem.W.nsIn K mainGlobals "Draft"=some (some (.ref C_Draft)))
    (pg_Draft:PySem.W.plainGet K C_Draft Str.empty=true)
    (hd_Draft:PySem.W.hasDictIn K C_Draft=true)
    (po_Draft:PySem.W.plainOver K C_Draft=true)
    (sa_Draft:PySem.W.findIn K (.ref C_Draft) "__setattr__"=some (some (.builtin "object.__setattr__")))
    (mk_Draft:PySem.W.makesIn K C_Draft=true)
    (kc_Draft:PySem.W.keepIn K (.ref C_Draft)=true)
    (ha_Draft:PySem.W.findIn K (.ref C_Draft) "__class__"=some (some (.builtin "object.__class__")))
    (hn_Draft:PySem.W.specialIn K (.builtin "object.__class__") "__get__"=some (some (.builtin "getset_descriptor.__get__")))
    (ht_Draft:PySem.W.takesIn K (.builtin "object.__class__")=some true)
    (hm_Draft:PySem.W.mroIn K C_Draft (.type "object")=some true)
    (na_Draft_shafts:PySem.W.findIn K (.ref C_Draft) "shafts"=some none)
    (na_Draft_treadles:PySem.W.findIn K (.ref C_Draft) "treadles"=some none)
    (na_Draft_threading:PySem.W.findIn K (.ref C_Draft) "threading"=some none)
    (na_Draft_ties:PySem.W.findIn K (.ref C_Draft) "ties"=some none)
    (na_Draft_treading:PySem.W.findIn K (.ref C_Draft) "treading"=some none)
    (na_Draft_warp:PySem.W.findIn K (.ref C_Draft) "warp"=some none)
    (na_Draft_weft:PySem.W.findIn K (.ref C_Draft) "weft"=some none)
    (aC_LoomError:PySem.W.nsIn K mainGlobals "LoomError"=some (some (.ref C_LoomError)))
    (aC_BadRow:PySem.W.nsIn K mainGlobals "BadRow"=some (some (.ref C_BadRow)))
    (aC_BadWord:PySem.W.nsIn K mainGlobals "BadWord"=some (some (.ref C_BadWord)))
    (aC_TooMany:PySem.W.nsIn K mainGlobals "TooMany"=some (some (.ref C_TooMany)))
    (aC_NotPlain:PySem.W.nsIn K mainGlobals "NotPlain"=some (some (.ref C_NotPlain)))
    (aC_NotGrown:PySem.W.nsIn K mainGlobals "NotGrown"=some (some (.ref C_NotGrown)))
    (aC_BadDraft:PySem.W.nsIn K mainGlobals "BadDraft"=some (some (.ref C_BadDraft)))
    (aC_BadCloth:PySem.W.nsIn K mainGlobals "BadCloth"=some (some (.ref C_BadCloth)))
    (aC_OutOfPlace:PySem.W.nsIn K mainGlobals "OutOfPlace"=some (some (.ref C_OutOfPlace)))
    (xc_BadDraft:PySem.W.isClsIn K C_BadDraft=true)
    (xg_BadDraft:PySem.W.findIn K (.ref C_BadDraft) "__getattribute__"=some (some (.builtin "BaseException.__getattribute__")))
    (xn_BadDraft:PySem.W.findIn K (.ref C_BadDraft) "__getattr__"=some none)
    (xb_BadDraft:PySem.W.mroIn K C_BadDraft (.type "BaseException")=some true)
    (ha_BadDraft:PySem.W.findIn K (.ref C_BadDraft) "__class__"=some (some (.builtin "object.__class__")))
    (hn_BadDraft:PySem.W.specialIn K (.builtin "object.__class__") "__get__"=some (some (.builtin "getset_descriptor.__get__")))
    (ht_BadDraft:PySem.W.takesIn K (.builtin "object.__class__")=some true)
    (hm_BadDraft:PySem.W.mroIn K C_BadDraft (.type "object")=some true)
    (xi_BadDraft:PySem.W.excIn K C_BadDraft [.type "ValueError", .type "Exception", .type "BaseException", .type "object"] "ValueError.__new__"=true)
    (xm_BadDraft_LoomError:PySem.W.exmOne K (.ref C_BadDraft) (.ref C_LoomError)=some true)
    (ki_BadDraft_BadRow:PySem.W.kitOne K (.ref C_BadDraft) (.ref C_BadRow)=some false)
    (ki_BadDraft_BadWord:PySem.W.kitOne K (.ref C_BadDraft) (.ref C_BadWord)=some false)
    (ki_BadDraft_TooMany:PySem.W.kitOne K (.ref C_BadDraft) (.ref C_TooMany)=some false)
    (ki_BadDraft_NotPlain:PySem.W.kitOne K (.ref C_BadDraft) (.ref C_NotPlain)=some false)
    (ki_BadDraft_NotGrown:PySem.W.kitOne K (.ref C_BadDraft) (.ref C_NotGrown)=some false)
    (ki_BadDraft_BadDraft:PySem.W.kitOne K (.ref C_BadDraft) (.ref C_BadDraft)=some true)
    (ki_BadDraft_BadCloth:PySem.W.kitOne K (.ref C_BadDraft) (.ref C_BadCloth)=some false)
    (ki_BadDraft_OutOfPlace:PySem.W.kitOne K (.ref C_BadDraft) (.ref C_OutOfPlace)=some false)
    (ki_BadDraft_ValueError:PySem.W.kitOne K (.ref C_BadDraft) (.type "ValueError")=some true)
    (xc_BadCloth:PySem.W.isClsIn K C_BadCloth=true)
    (xg_BadCloth:PySem.W.findIn K (.ref C_BadCloth) "__getattribute__"=some (some (.builtin "BaseException.__getattribute__")))
    (xn_BadCloth:PySem.W.findIn K (.ref C_BadCloth) "__getattr__"=some none)
    (xb_BadCloth:PySem.W.mroIn K C_BadCloth (.type "BaseException")=some true)
    (ha_BadCloth:PySem.W.findIn K (.ref C_BadCloth) "__class__"=some (some (.builtin "object.__class__")))
    (hn_BadCloth:PySem.W.specialIn K (.builtin "object.__class__") "__get__"=some (some (.builtin "getset_descriptor.__get__")))
    (ht_BadCloth:PySem.W.takesIn K (.builtin "object.__class__")=some true)
    (hm_BadCloth:PySem.W.mroIn K C_BadCloth (.type "object")=some true)
    (xi_BadCloth:PySem.W.excIn K C_BadCloth [.type "ValueError", .type "Exception", .type "BaseException", .type "object"] "ValueError.__new__"=true)
    (xm_BadCloth_LoomError:PySem.W.exmOne K (.ref C_BadCloth) (.ref C_LoomError)=some true)
    (ki_BadCloth_BadRow:PySem.W.kitOne K (.ref C_BadCloth) (.ref C_BadRow)=some false)
    (ki_BadCloth_BadWord:PySem.W.kitOne K (.ref C_BadCloth) (.ref C_BadWord)=some false)
    (ki_BadCloth_TooMany:PySem.W.kitOne K (.ref C_BadCloth) (.ref C_TooMany)=some false)
    (ki_BadCloth_NotPlain:PySem.W.kitOne K (.ref C_BadCloth) (.ref C_NotPlain)=some false)
    (ki_BadCloth_NotGrown:PySem.W.kitOne K (.ref C_BadCloth) (.ref C_NotGrown)=some false)
    (ki_BadCloth_BadDraft:PySem.W.kitOne K (.ref C_BadCloth) (.ref C_BadDraft)=some false)
    (ki_BadCloth_BadCloth:PySem.W.kitOne K (.ref C_BadCloth) (.ref C_BadCloth)=some true)
    (ki_BadCloth_OutOfPlace:PySem.W.kitOne K (.ref C_BadCloth) (.ref C_OutOfPlace)=some false)
    (ki_BadCloth_ValueError:PySem.W.kitOne K (.ref C_BadCloth) (.type "ValueError")=some true)
    (a0:PySem.W.nsIn K mainGlobals "_law_same"=some (some (.ref f0)))
    (l0:K.lookup f0=some ⟨oc0,od0, .func (PySem.W.fnOf "_law_same" "_law_same" (defArgs s__law_same) (defBody s__law_same) (defScope s__law_same) .none kV0 dc0 pm0 an0 cd0 ct0),sl0⟩)
    (c0:PySem.W.codeIn K cd0 "_law_same"=true)
    (k0:PySem.W.keepIn K (.ref f0)=true)
    (a1:PySem.W.nsIn K mainGlobals "bit_of"=some (some (.ref f1)))
    (l1:K.lookup f1=some ⟨oc1,od1, .func (PySem.W.fnOf "bit_of" "bit_of" (defArgs s_bit_of) (defBody s_bit_of) (defScope s_bit_of) .none kV1 dc1 pm1 an1 cd1 ct1),sl1⟩)
    (c1:PySem.W.codeIn K cd1 "bit_of"=true)
    (k1:PySem.W.keepIn K (.ref f1)=true)
    (a2:PySem.W.nsIn K mainGlobals "mask_of"=some (some (.ref f2)))
    (l2:K.lookup f2=some ⟨oc2,od2, .func (PySem.W.fnOf "mask_of" "mask_of" (defArgs s_mask_of) (defBody s_mask_of) (defScope s_mask_of) .none kV2 dc2 pm2 an2 cd2 ct2),sl2⟩)
    (c2:PySem.W.codeIn K cd2 "mask_of"=true)
    (k2:PySem.W.keepIn K (.ref f2)=true)
    (a3:PySem.W.nsIn K mainGlobals "mask_to"=some (some (.ref f3)))
    (l3:K.lookup f3=some ⟨oc3,od3, .func (PySem.W.fnOf "mask_to" "mask_to" (defArgs s_mask_to) (defBody s_mask_to) (defScope s_mask_to) .none kV3 dc3 pm3 an3 cd3 ct3),sl3⟩)
    (c3:PySem.W.codeIn K cd3 "mask_to"=true)
    (k3:PySem.W.keepIn K (.ref f3)=true)
    (a4:PySem.W.nsIn K mainGlobals "has_number"=some (some (.ref f4)))
    (l4:K.lookup f4=some ⟨oc4,od4, .func (PySem.W.fnOf "has_number" "has_number" (defArgs s_has_number) (defBody s_has_number) (defScope s_has_number) .none kV4 dc4 pm4 an4 cd4 ct4),sl4⟩)
    (c4:PySem.W.codeIn K cd4 "has_number"=true)
    (k4:PySem.W.keepIn K (.ref f4)=true)
    (a5:PySem.W.nsIn K mainGlobals "numbers_of"=some (some (.ref f5)))
    (l5:K.lookup f5=some ⟨oc5,od5, .func (PySem.W.fnOf "numbers_of" "numbers_of" (defArgs s_numbers_of) (defBody s_numbers_of) (defScope s_numbers_of) .none kV5 dc5 pm5 an5 cd5 ct5),sl5⟩)
    (c5:PySem.W.codeIn K cd5 "numbers_of"=true)
    (k5:PySem.W.keepIn K (.ref f5)=true)
    (a6:PySem.W.nsIn K mainGlobals "union_of"=some (some (.ref f6)))
    (l6:K.lookup f6=some ⟨oc6,od6, .func (PySem.W.fnOf "union_of" "union_of" (defArgs s_union_of) (defBody s_union_of) (defScope s_union_of) .none kV6 dc6 pm6 an6 cd6 ct6),sl6⟩)
    (c6:PySem.W.codeIn K cd6 "union_of"=true)
    (k6:PySem.W.keepIn K (.ref f6)=true)
    (a7:PySem.W.nsIn K mainGlobals "is_whole"=some (some (.ref f7)))
    (l7:K.lookup f7=some ⟨oc7,od7, .func (PySem.W.fnOf "is_whole" "is_whole" (defArgs s_is_whole) (defBody s_is_whole) (defScope s_is_whole) .none kV7 dc7 pm7 an7 cd7 ct7),sl7⟩)
    (c7:PySem.W.codeIn K cd7 "is_whole"=true)
    (k7:PySem.W.keepIn K (.ref f7)=true)
    (a8:PySem.W.nsIn K mainGlobals "is_among"=some (some (.ref f8)))
    (l8:K.lookup f8=some ⟨oc8,od8, .func (PySem.W.fnOf "is_among" "is_among" (defArgs s_is_among) (defBody s_is_among) (defScope s_is_among) .none kV8 dc8 pm8 an8 cd8 ct8),sl8⟩)
    (c8:PySem.W.codeIn K cd8 "is_among"=true)
    (k8:PySem.W.keepIn K (.ref f8)=true)
    (a9:PySem.W.nsIn K mainGlobals "need_cloth"=some (some (.ref f9)))
    (l9:K.lookup f9=some ⟨oc9,od9, .func (PySem.W.fnOf "need_cloth" "need_cloth" (defArgs s_need_cloth) (defBody s_need_cloth) (defScope s_need_cloth) .none kV9 dc9 pm9 an9 cd9 ct9),sl9⟩)
    (c9:PySem.W.codeIn K cd9 "need_cloth"=true)
    (k9:PySem.W.keepIn K (.ref f9)=true)
    (a10:PySem.W.findIn K (.ref C_Cloth) "__init__"=some (some (.ref f10)))
    (i10:PySem.W.isFn K (.ref f10)=true)
    (l10:K.lookup f10=some ⟨oc10,od10, .func (PySem.W.fnOf "__init__" "Cloth.__init__" (defArgs s_Cloth___init__) (defBody s_Cloth___init__) (defScope s_Cloth___init__) .none kV10 dc10 pm10 an10 cd10 ct10),sl10⟩)
    (c10:PySem.W.codeIn K cd10 "Cloth.__init__"=true)
    (k10:PySem.W.keepIn K (.ref f10)=true)
    (a11:PySem.W.findIn K (.ref C_Cloth) "told"=some (some (.ref f11)))
    (i11:PySem.W.isFn K (.ref f11)=true)
    (l11:K.lookup f11=some ⟨oc11,od11, .func (PySem.W.fnOf "told" "Cloth.told" (defArgs s_Cloth_told) (defBody s_Cloth_told) (defScope s_Cloth_told) .none kV11 dc11 pm11 an11 cd11 ct11),sl11⟩)
    (c11:PySem.W.codeIn K cd11 "Cloth.told"=true)
    (k11:PySem.W.keepIn K (.ref f11)=true)
    (a12:PySem.W.findIn K (.ref C_Cloth) "ends"=some (some (.ref f12)))
    (i12:PySem.W.isFn K (.ref f12)=true)
    (l12:K.lookup f12=some ⟨oc12,od12, .func (PySem.W.fnOf "ends" "Cloth.ends" (defArgs s_Cloth_ends) (defBody s_Cloth_ends) (defScope s_Cloth_ends) .none kV12 dc12 pm12 an12 cd12 ct12),sl12⟩)
    (c12:PySem.W.codeIn K cd12 "Cloth.ends"=true)
    (k12:PySem.W.keepIn K (.ref f12)=true)
    (a13:PySem.W.findIn K (.ref C_Cloth) "picks"=some (some (.ref f13)))
    (i13:PySem.W.isFn K (.ref f13)=true)
    (l13:K.lookup f13=some ⟨oc13,od13, .func (PySem.W.fnOf "picks" "Cloth.picks" (defArgs s_Cloth_picks) (defBody s_Cloth_picks) (defScope s_Cloth_picks) .none kV13 dc13 pm13 an13 cd13 ct13),sl13⟩)
    (c13:PySem.W.codeIn K cd13 "Cloth.picks"=true)
    (k13:PySem.W.keepIn K (.ref f13)=true)
    (a14:PySem.W.nsIn K mainGlobals "is_colour"=some (some (.ref f14)))
    (l14:K.lookup f14=some ⟨oc14,od14, .func (PySem.W.fnOf "is_colour" "is_colour" (defArgs s_is_colour) (defBody s_is_colour) (defScope s_is_colour) .none kV14 dc14 pm14 an14 cd14 ct14),sl14⟩)
    (c14:PySem.W.codeIn K cd14 "is_colour"=true)
    (k14:PySem.W.keepIn K (.ref f14)=true)
    (a15:PySem.W.nsIn K mainGlobals "need"=some (some (.ref f15)))
    (l15:K.lookup f15=some ⟨oc15,od15, .func (PySem.W.fnOf "need" "need" (defArgs s_need) (defBody s_need) (defScope s_need) .none kV15 dc15 pm15 an15 cd15 ct15),sl15⟩)
    (c15:PySem.W.codeIn K cd15 "need"=true)
    (k15:PySem.W.keepIn K (.ref f15)=true)
    (a16:PySem.W.nsIn K mainGlobals "is_list"=some (some (.ref f16)))
    (l16:K.lookup f16=some ⟨oc16,od16, .func (PySem.W.fnOf "is_list" "is_list" (defArgs s_is_list) (defBody s_is_list) (defScope s_is_list) .none kV16 dc16 pm16 an16 cd16 ct16),sl16⟩)
    (c16:PySem.W.codeIn K cd16 "is_list"=true)
    (k16:PySem.W.keepIn K (.ref f16)=true)
    (a17:PySem.W.nsIn K mainGlobals "is_rising"=some (some (.ref f17)))
    (l17:K.lookup f17=some ⟨oc17,od17, .func (PySem.W.fnOf "is_rising" "is_rising" (defArgs s_is_rising) (defBody s_is_rising) (defScope s_is_rising) .none kV17 dc17 pm17 an17 cd17 ct17),sl17⟩)
    (c17:PySem.W.codeIn K cd17 "is_rising"=true)
    (k17:PySem.W.keepIn K (.ref f17)=true)
    (a18:PySem.W.nsIn K mainGlobals "are_rising"=some (some (.ref f18)))
    (l18:K.lookup f18=some ⟨oc18,od18, .func (PySem.W.fnOf "are_rising" "are_rising" (defArgs s_are_rising) (defBody s_are_rising) (defScope s_are_rising) .none kV18 dc18 pm18 an18 cd18 ct18),sl18⟩)
    (c18:PySem.W.codeIn K cd18 "are_rising"=true)
    (k18:PySem.W.keepIn K (.ref f18)=true)
    (a19:PySem.W.nsIn K mainGlobals "are_colours"=some (some (.ref f19)))
    (l19:K.lookup f19=some ⟨oc19,od19, .func (PySem.W.fnOf "are_colours" "are_colours" (defArgs s_are_colours) (defBody s_are_colours) (defScope s_are_colours) .none kV19 dc19 pm19 an19 cd19 ct19),sl19⟩)
    (c19:PySem.W.codeIn K cd19 "are_colours"=true)
    (k19:PySem.W.keepIn K (.ref f19)=true)
    (a20:PySem.W.nsIn K mainGlobals "need_draft"=some (some (.ref f20)))
    (l20:K.lookup f20=some ⟨oc20,od20, .func (PySem.W.fnOf "need_draft" "need_draft" (defArgs s_need_draft) (defBody s_need_draft) (defScope s_need_draft) .none kV20 dc20 pm20 an20 cd20 ct20),sl20⟩)
    (c20:PySem.W.codeIn K cd20 "need_draft"=true)
    (k20:PySem.W.keepIn K (.ref f20)=true)
    (a21:PySem.W.findIn K (.ref C_Draft) "__init__"=some (some (.ref f21)))
    (i21:PySem.W.isFn K (.ref f21)=true)
    (l21:K.lookup f21=some ⟨oc21,od21, .func (PySem.W.fnOf "__init__" "Draft.__init__" (defArgs s_Draft___init__) (defBody s_Draft___init__) (defScope s_Draft___init__) .none kV21 dc21 pm21 an21 cd21 ct21),sl21⟩)
    (c21:PySem.W.codeIn K cd21 "Draft.__init__"=true)
    (k21:PySem.W.keepIn K (.ref f21)=true)
    (a22:PySem.W.findIn K (.ref C_Draft) "told"=some (some (.ref f22)))
    (i22:PySem.W.isFn K (.ref f22)=true)
    (l22:K.lookup f22=some ⟨oc22,od22, .func (PySem.W.fnOf "told" "Draft.told" (defArgs s_Draft_told) (defBody s_Draft_told) (defScope s_Draft_told) .none kV22 dc22 pm22 an22 cd22 ct22),sl22⟩)
    (c22:PySem.W.codeIn K cd22 "Draft.told"=true)
    (k22:PySem.W.keepIn K (.ref f22)=true)
    (a23:PySem.W.findIn K (.ref C_Draft) "ends"=some (some (.ref f23)))
    (i23:PySem.W.isFn K (.ref f23)=true)
    (l23:K.lookup f23=some ⟨oc23,od23, .func (PySem.W.fnOf "ends" "Draft.ends" (defArgs s_Draft_ends) (defBody s_Draft_ends) (defScope s_Draft_ends) .none kV23 dc23 pm23 an23 cd23 ct23),sl23⟩)
    (c23:PySem.W.codeIn K cd23 "Draft.ends"=true)
    (k23:PySem.W.keepIn K (.ref f23)=true)
    (a24:PySem.W.nsIn K mainGlobals "lift_by"=some (some (.ref f24)))
    (l24:K.lookup f24=some ⟨oc24,od24, .func (PySem.W.fnOf "lift_by" "lift_by" (defArgs s_lift_by) (defBody s_lift_by) (defScope s_lift_by) .none kV24 dc24 pm24 an24 cd24 ct24),sl24⟩)
    (c24:PySem.W.codeIn K cd24 "lift_by"=true)
    (k24:PySem.W.keepIn K (.ref f24)=true)
    (a25:PySem.W.nsIn K mainGlobals "lifts_of"=some (some (.ref f25)))
    (l25:K.lookup f25=some ⟨oc25,od25, .func (PySem.W.fnOf "lifts_of" "lifts_of" (defArgs s_lifts_of) (defBody s_lifts_of) (defScope s_lifts_of) .none kV25 dc25 pm25 an25 cd25 ct25),sl25⟩)
    (c25:PySem.W.codeIn K cd25 "lifts_of"=true)
    (k25:PySem.W.keepIn K (.ref f25)=true)
    (a26:PySem.W.nsIn K mainGlobals "ends_through"=some (some (.ref f26)))
    (l26:K.lookup f26=some ⟨oc26,od26, .func (PySem.W.fnOf "ends_through" "ends_through" (defArgs s_ends_through) (defBody s_ends_through) (defScope s_ends_through) .none kV26 dc26 pm26 an26 cd26 ct26),sl26⟩)
    (c26:PySem.W.codeIn K cd26 "ends_through"=true)
    (k26:PySem.W.keepIn K (.ref f26)=true)
    (a27:PySem.W.nsIn K mainGlobals "shaft_ends"=some (some (.ref f27)))
    (l27:K.lookup f27=some ⟨oc27,od27, .func (PySem.W.fnOf "shaft_ends" "shaft_ends" (defArgs s_shaft_ends) (defBody s_shaft_ends) (defScope s_shaft_ends) .none kV27 dc27 pm27 an27 cd27 ct27),sl27⟩)
    (c27:PySem.W.codeIn K cd27 "shaft_ends"=true)
    (k27:PySem.W.keepIn K (.ref f27)=true)
    (a28:PySem.W.nsIn K mainGlobals "row_by"=some (some (.ref f28)))
    (l28:K.lookup f28=some ⟨oc28,od28, .func (PySem.W.fnOf "row_by" "row_by" (defArgs s_row_by) (defBody s_row_by) (defScope s_row_by) .none kV28 dc28 pm28 an28 cd28 ct28),sl28⟩)
    (c28:PySem.W.codeIn K cd28 "row_by"=true)
    (k28:PySem.W.keepIn K (.ref f28)=true)
    (a29:PySem.W.nsIn K mainGlobals "woven"=some (some (.ref f29)))
    (l29:K.lookup f29=some ⟨oc29,od29, .func (PySem.W.fnOf "woven" "woven" (defArgs s_woven) (defBody s_woven) (defScope s_woven) .none kV29 dc29 pm29 an29 cd29 ct29),sl29⟩)
    (c29:PySem.W.codeIn K cd29 "woven"=true)
    (k29:PySem.W.keepIn K (.ref f29)=true)
    (a30:PySem.W.nsIn K mainGlobals "_law_kinds"=some (some (.ref f30)))
    (l30:K.lookup f30=some ⟨oc30,od30, .func (PySem.W.fnOf "_law_kinds" "_law_kinds" (defArgs s__law_kinds) (defBody s__law_kinds) (defScope s__law_kinds) .none kV30 dc30 pm30 an30 cd30 ct30),sl30⟩)
    (c30:PySem.W.codeIn K cd30 "_law_kinds"=true)
    (k30:PySem.W.keepIn K (.ref f30)=true)
    (a31:PySem.W.nsIn K mainGlobals "_law_mixed"=some (some (.ref f31)))
    (l31:K.lookup f31=some ⟨oc31,od31, .func (PySem.W.fnOf "_law_mixed" "_law_mixed" (defArgs s__law_mixed) (defBody s__law_mixed) (defScope s__law_mixed) .none kV31 dc31 pm31 an31 cd31 ct31),sl31⟩)
    (c31:PySem.W.codeIn K cd31 "_law_mixed"=true)
    (k31:PySem.W.keepIn K (.ref f31)=true)
    (a32:PySem.W.nsIn K mainGlobals "_law_cells"=some (some (.ref f32)))
    (l32:K.lookup f32=some ⟨oc32,od32, .func (PySem.W.fnOf "_law_cells" "_law_cells" (defArgs s__law_cells) (defBody s__law_cells) (defScope s__law_cells) .none kV32 dc32 pm32 an32 cd32 ct32),sl32⟩)
    (c32:PySem.W.codeIn K cd32 "_law_cells"=true)
    (k32:PySem.W.keepIn K (.ref f32)=true)
    (a33:PySem.W.nsIn K mainGlobals "_law_numbers"=some (some (.ref f33)))
    (l33:K.lookup f33=some ⟨oc33,od33, .func (PySem.W.fnOf "_law_numbers" "_law_numbers" (defArgs s__law_numbers) (defBody s__law_numbers) (defScope s__law_numbers) .none kV33 dc33 pm33 an33 cd33 ct33),sl33⟩)
    (c33:PySem.W.codeIn K cd33 "_law_numbers"=true)
    (k33:PySem.W.keepIn K (.ref f33)=true)
    (a34:PySem.W.nsIn K mainGlobals "_law_copied"=some (some (.ref f34)))
    (l34:K.lookup f34=some ⟨oc34,od34, .func (PySem.W.fnOf "_law_copied" "_law_copied" (defArgs s__law_copied) (defBody s__law_copied) (defScope s__law_copied) .none kV34 dc34 pm34 an34 cd34 ct34),sl34⟩)
    (c34:PySem.W.codeIn K cd34 "_law_copied"=true)
    (k34:PySem.W.keepIn K (.ref f34)=true)
    (a35:PySem.W.nsIn K mainGlobals "_law_draft"=some (some (.ref f35)))
    (l35:K.lookup f35=some ⟨oc35,od35, .func (PySem.W.fnOf "_law_draft" "_law_draft" (defArgs s__law_draft) (defBody s__law_draft) (defScope s__law_draft) .none kV35 dc35 pm35 an35 cd35 ct35),sl35⟩)
    (c35:PySem.W.codeIn K cd35 "_law_draft"=true)
    (k35:PySem.W.keepIn K (.ref f35)=true)
    (a36:PySem.W.nsIn K mainGlobals "_law_made"=some (some (.ref f36)))
    (l36:K.lookup f36=some ⟨oc36,od36, .func (PySem.W.fnOf "_law_made" "_law_made" (defArgs s__law_made) (defBody s__law_made) (defScope s__law_made) .none kV36 dc36 pm36 an36 cd36 ct36),sl36⟩)
    (c36:PySem.W.codeIn K cd36 "_law_made"=true)
    (k36:PySem.W.keepIn K (.ref f36)=true)
    (a37:PySem.W.findIn K (.ref C_Draft) "picks"=some (some (.ref f37)))
    (i37:PySem.W.isFn K (.ref f37)=true)
    (l37:K.lookup f37=some ⟨oc37,od37, .func (PySem.W.fnOf "picks" "Draft.picks" (defArgs s_Draft_picks) (defBody s_Draft_picks) (defScope s_Draft_picks) .none kV37 dc37 pm37 an37 cd37 ct37),sl37⟩)
    (c37:PySem.W.codeIn K cd37 "Draft.picks"=true)
    (k37:PySem.W.keepIn K (.ref f37)=true)
    (a38:PySem.W.nsIn K mainGlobals "beside"=some (some (.ref f38)))
    (l38:K.lookup f38=some ⟨oc38,od38, .func (PySem.W.fnOf "beside" "beside" (defArgs s_beside) (defBody s_beside) (defScope s_beside) .none kV38 dc38 pm38 an38 cd38 ct38),sl38⟩)
    (c38:PySem.W.codeIn K cd38 "beside"=true)
    (k38:PySem.W.keepIn K (.ref f38)=true)
    (a39:PySem.W.nsIn K mainGlobals "below"=some (some (.ref f39)))
    (l39:K.lookup f39=some ⟨oc39,od39, .func (PySem.W.fnOf "below" "below" (defArgs s_below) (defBody s_below) (defScope s_below) .none kV39 dc39 pm39 an39 cd39 ct39),sl39⟩)
    (c39:PySem.W.codeIn K cd39 "below"=true)
    (k39:PySem.W.keepIn K (.ref f39)=true)
    (a40:PySem.W.nsIn K mainGlobals "row_over"=some (some (.ref f40)))
    (l40:K.lookup f40=some ⟨oc40,od40, .func (PySem.W.fnOf "row_over" "row_over" (defArgs s_row_over) (defBody s_row_over) (defScope s_row_over) .none kV40 dc40 pm40 an40 cd40 ct40),sl40⟩)
    (c40:PySem.W.codeIn K cd40 "row_over"=true)
    (k40:PySem.W.keepIn K (.ref f40)=true)
    (a41:PySem.W.nsIn K mainGlobals "goes_over"=some (some (.ref f41)))
    (l41:K.lookup f41=some ⟨oc41,od41, .func (PySem.W.fnOf "goes_over" "goes_over" (defArgs s_goes_over) (defBody s_goes_over) (defScope s_goes_over) .none kV41 dc41 pm41 an41 cd41 ct41),sl41⟩)
    (c41:PySem.W.codeIn K cd41 "goes_over"=true)
    (k41:PySem.W.keepIn K (.ref f41)=true)
    (a42:PySem.W.nsIn K mainGlobals "told_over"=some (some (.ref f42)))
    (l42:K.lookup f42=some ⟨oc42,od42, .func (PySem.W.fnOf "told_over" "told_over" (defArgs s_told_over) (defBody s_told_over) (defScope s_told_over) .none kV42 dc42 pm42 an42 cd42 ct42),sl42⟩)
    (c42:PySem.W.codeIn K cd42 "told_over"=true)
    (k42:PySem.W.keepIn K (.ref f42)=true)
    (a43:PySem.W.nsIn K mainGlobals "changed_draft"=some (some (.ref f43)))
    (l43:K.lookup f43=some ⟨oc43,od43, .func (PySem.W.fnOf "changed_draft" "changed_draft" (defArgs s_changed_draft) (defBody s_changed_draft) (defScope s_changed_draft) .none kV43 dc43 pm43 an43 cd43 ct43),sl43⟩)
    (c43:PySem.W.codeIn K cd43 "changed_draft"=true)
    (k43:PySem.W.keepIn K (.ref f43)=true)
    (a44:PySem.W.nsIn K mainGlobals "draft_told_over"=some (some (.ref f44)))
    (l44:K.lookup f44=some ⟨oc44,od44, .func (PySem.W.fnOf "draft_told_over" "draft_told_over" (defArgs s_draft_told_over) (defBody s_draft_told_over) (defScope s_draft_told_over) .none kV44 dc44 pm44 an44 cd44 ct44),sl44⟩)
    (c44:PySem.W.codeIn K cd44 "draft_told_over"=true)
    (k44:PySem.W.keepIn K (.ref f44)=true)
    (a45:PySem.W.nsIn K mainGlobals "_law_bits"=some (some (.ref f45)))
    (l45:K.lookup f45=some ⟨oc45,od45, .func (PySem.W.fnOf "_law_bits" "_law_bits" (defArgs s__law_bits) (defBody s__law_bits) (defScope s__law_bits) .none kV45 dc45 pm45 an45 cd45 ct45),sl45⟩)
    (c45:PySem.W.codeIn K cd45 "_law_bits"=true)
    (k45:PySem.W.keepIn K (.ref f45)=true)
    (a46:PySem.W.nsIn K mainGlobals "_law_told"=some (some (.ref f46)))
    (l46:K.lookup f46=some ⟨oc46,od46, .func (PySem.W.fnOf "_law_told" "_law_told" (defArgs s__law_told) (defBody s__law_told) (defScope s__law_told) .none kV46 dc46 pm46 an46 cd46 ct46),sl46⟩)
    (c46:PySem.W.codeIn K cd46 "_law_told"=true)
    (k46:PySem.W.keepIn K (.ref f46)=true)
    (a47:PySem.W.nsIn K mainGlobals "_law_count"=some (some (.ref f47)))
    (l47:K.lookup f47=some ⟨oc47,od47, .func (PySem.W.fnOf "_law_count" "_law_count" (defArgs s__law_count) (defBody s__law_count) (defScope s__law_count) .none kV47 dc47 pm47 an47 cd47 ct47),sl47⟩)
    (c47:PySem.W.codeIn K cd47 "_law_count"=true)
    (k47:PySem.W.keepIn K (.ref f47)=true)
    (a48:PySem.W.nsIn K mainGlobals "_law_refused"=some (some (.ref f48)))
    (l48:K.lookup f48=some ⟨oc48,od48, .func (PySem.W.fnOf "_law_refused" "_law_refused" (defArgs s__law_refused) (defBody s__law_refused) (defScope s__law_refused) .none kV48 dc48 pm48 an48 cd48 ct48),sl48⟩)
    (c48:PySem.W.codeIn K cd48 "_law_refused"=true)
    (k48:PySem.W.keepIn K (.ref f48)=true)
    (a49:PySem.W.nsIn K mainGlobals "_law_cloths"=some (some (.ref f49)))
    (l49:K.lookup f49=some ⟨oc49,od49, .func (PySem.W.fnOf "_law_cloths" "_law_cloths" (defArgs s__law_cloths) (defBody s__law_cloths) (defScope s__law_cloths) .none kV49 dc49 pm49 an49 cd49 ct49),sl49⟩)
    (c49:PySem.W.codeIn K cd49 "_law_cloths"=true)
    (k49:PySem.W.keepIn K (.ref f49)=true)
    (a50:PySem.W.nsIn K mainGlobals "_law_joined_right"=some (some (.ref f50)))
    (l50:K.lookup f50=some ⟨oc50,od50, .func (PySem.W.fnOf "_law_joined_right" "_law_joined_right" (defArgs s__law_joined_right) (defBody s__law_joined_right) (defScope s__law_joined_right) .none kV50 dc50 pm50 an50 cd50 ct50),sl50⟩)
    (c50:PySem.W.codeIn K cd50 "_law_joined_right"=true)
    (k50:PySem.W.keepIn K (.ref f50)=true)
    (a51:PySem.W.nsIn K mainGlobals "_law_over_right"=some (some (.ref f51)))
    (l51:K.lookup f51=some ⟨oc51,od51, .func (PySem.W.fnOf "_law_over_right" "_law_over_right" (defArgs s__law_over_right) (defBody s__law_over_right) (defScope s__law_over_right) .none kV51 dc51 pm51 an51 cd51 ct51),sl51⟩)
    (c51:PySem.W.codeIn K cd51 "_law_over_right"=true)
    (k51:PySem.W.keepIn K (.ref f51)=true)
    (a52:PySem.W.nsIn K mainGlobals "_law_draft_right"=some (some (.ref f52)))
    (l52:K.lookup f52=some ⟨oc52,od52, .func (PySem.W.fnOf "_law_draft_right" "_law_draft_right" (defArgs s__law_draft_right) (defBody s__law_draft_right) (defScope s__law_draft_right) .none kV52 dc52 pm52 an52 cd52 ct52),sl52⟩)
    (c52:PySem.W.codeIn K cd52 "_law_draft_right"=true)
    (k52:PySem.W.keepIn K (.ref f52)=true)
    (a53:PySem.W.nsIn K mainGlobals "law"=some (some (.ref f53)))
    (l53:K.lookup f53=some ⟨oc53,od53, .func (PySem.W.fnOf "law" "law" (defArgs s_law) (defBody s_law) (defScope s_law) .none kV53 dc53 pm53 an53 cd53 ct53),sl53⟩)
    (c53:PySem.W.codeIn K cd53 "law"=true)
    (k53:PySem.W.keepIn K (.ref f53)=true)
    (aC_PARTS:PySem.W.nsIn K mainGlobals "PARTS"=some (some (.ref C_PARTS)))
    (lk_PARTS:K.lookup C_PARTS=some ⟨.type "tuple",od_PARTS, .seq #[.str "shafts" u_PARTS_0, .str "treadles" u_PARTS_1, .str "threading" u_PARTS_2, .str "ties" u_PARTS_3, .str "treading" u_PARTS_4, .str "warp" u_PARTS_5, .str "weft" u_PARTS_6] n_PARTS,sl_PARTS⟩)
    (z0:PySem.W.nsIn K mainGlobals "isinstance"=some none)
    (z1:PySem.W.nsIn K mainGlobals "int"=some none)
    (z2:PySem.W.nsIn K mainGlobals "bool"=some none)
    (z3:PySem.W.nsIn K mainGlobals "str"=some none)
    (z4:PySem.W.nsIn K mainGlobals "list"=some none)
    (z5:PySem.W.nsIn K mainGlobals "tuple"=some none)
    (z6:PySem.W.nsIn K mainGlobals "dict"=some none)
    (z7:PySem.W.nsIn K mainGlobals "len"=some none)
    (z8:PySem.W.nsIn K mainGlobals "all"=some none)
    (z9:PySem.W.nsIn K mainGlobals "range"=some none)
    (z10:PySem.W.nsIn K mainGlobals "sum"=some none)
    (z11:PySem.W.nsIn K mainGlobals "zip"=some none)
    (z12:PySem.W.nsIn K mainGlobals "enumerate"=some none)
    (z13:PySem.W.nsIn K mainGlobals "min"=some none)
    (z14:PySem.W.nsIn K mainGlobals "max"=some none)
    (z15:PySem.W.nsIn K mainGlobals "ValueError"=some none)
    (y0:PySem.W.nsIn K mainGlobals "MOST_SHAFTS"=some (some (.int 16 tk0)))
    (y1:PySem.W.nsIn K mainGlobals "MOST_TREADLES"=some (some (.int 16 tk1)))
    (y2:PySem.W.nsIn K mainGlobals "MOST_ENDS"=some (some (.int 60 tk2)))
    (y3:PySem.W.nsIn K mainGlobals "MOST_PICKS"=some (some (.int 60 tk3)))
    (y4:PySem.W.nsIn K mainGlobals "COLOURS"=some (some (.str "abcdefghijklmnopqrstuvwxyz" tk4)))
    : ∃ fd:FuncData,(∀ (s:Shared) (v:Value),BindsTo s fd ⟨[v],[]⟩ [("_law_script",v)])∧∀ base:Heap,K.In base→base.Ns mainGlobals mg→FnOk l.prog w K mg base CX0 12 fa fd ["_law_script"] (spLaw K):=by
  have e:=hfa.symm.trans (PySem.W.mg_of X G a53)
  cases e
  have F0:=fun_mk (st:=s__law_same) l0 c0 k0
  have B0:=F0.binds (ps:=["_law_found","_law_due"]) fun _ _ _ _ _ _=>arg2 fun _ _=>rfl
  have D0:DefAt K mg "_law_same" s__law_same ["_law_found","_law_due"] _ _:=⟨F0,PySem.W.mg_of X G a0,B0⟩
  have F1:=fun_mk (st:=s_bit_of) l1 c1 k1
  have B1:=F1.binds (ps:=["number"]) fun _ _ _ _ _ _=>arg1 fun _=>rfl
  have D1:DefAt K mg "bit_of" s_bit_of ["number"] _ _:=⟨F1,PySem.W.mg_of X G a1,B1⟩
  have F2:=fun_mk (st:=s_mask_of) l2 c2 k2
  have B2:=F2.binds (ps:=["numbers"]) fun _ _ _ _ _ _=>arg1 fun _=>rfl
  have D2:DefAt K mg "mask_of" s_mask_of ["numbers"] _ _:=⟨F2,PySem.W.mg_of X G a2,B2⟩
  have F3:=fun_mk (st:=s_mask_to) l3 c3 k3
  have B3:=F3.binds (ps:=["most"]) fun _ _ _ _ _ _=>arg1 fun _=>rfl
  have D3:DefAt K mg "mask_to" s_mask_to ["most"] _ _:=⟨F3,PySem.W.mg_of X G a3,B3⟩
  have F4:=fun_mk (st:=s_has_number) l4 c4 k4
  have B4:=F4.binds (ps:=["mask","number"]) fun _ _ _ _ _ _=>arg2 fun _ _=>rfl
  have D4:DefAt K mg "has_number" s_has_number ["mask","number"] _ _:=⟨F4,PySem.W.mg_of X G a4,B4⟩
  have F5:=fun_mk (st:=s_numbers_of) l5 c5 k5
  have B5:=F5.binds (ps:=["mask"]) fun _ _ _ _ _ _=>arg1 fun _=>rfl
  have D5:DefAt K mg "numbers_of" s_numbers_of ["mask"] _ _:=⟨F5,PySem.W.mg_of X G a5,B5⟩
  have F6:=fun_mk (st:=s_union_of) l6 c6 k6
  have B6:=F6.binds (ps:=["masks"]) fun _ _ _ _ _ _=>arg1 fun _=>rfl
  have D6:DefAt K mg "union_of" s_union_of ["masks"] _ _:=⟨F6,PySem.W.mg_of X G a6,B6⟩
  have F7:=fun_mk (st:=s_is_whole) l7 c7 k7
  have B7:=F7.binds (ps:=["thing"]) fun _ _ _ _ _ _=>arg1 fun _=>rfl
  have D7:DefAt K mg "is_whole" s_is_whole ["thing"] _ _:=⟨F7,PySem.W.mg_of X G a7,B7⟩
  have F8:=fun_mk (st:=s_is_among) l8 c8 k8
  have B8:=F8.binds (ps:=["thing","least","most"]) fun _ _ _ _ _ _=>arg3 fun _ _ _=>rfl
  have D8:DefAt K mg "is_among" s_is_among ["thing","least","most"] _ _:=⟨F8,PySem.W.mg_of X G a8,B8⟩
  have F9:=fun_mk (st:=s_need_cloth) l9 c9 k9
  have B9:=F9.binds (ps:=["ends","rows"]) fun _ _ _ _ _ _=>arg2 fun _ _=>rfl
  have D9:DefAt K mg "need_cloth" s_need_cloth ["ends","rows"] _ _:=⟨F9,PySem.W.mg_of X G a9,B9⟩
  have F10:=fun_mk (st:=s_Cloth___init__) l10 c10 k10
  have B10:=F10.binds (ps:=["self","ends","rows"]) fun _ _ _ _ _ _=>arg3 fun _ _ _=>rfl
  have F11:=fun_mk (st:=s_Cloth_told) l11 c11 k11
  have B11:=F11.binds (ps:=["self"]) fun _ _ _ _ _ _=>arg1 fun _=>rfl
  have F12:=fun_mk (st:=s_Cloth_ends) l12 c12 k12
  have B12:=F12.binds (ps:=["self"]) fun _ _ _ _ _ _=>arg1 fun _=>rfl
  have F13:=fun_mk (st:=s_Cloth_picks) l13 c13 k13
  have B13:=F13.binds (ps:=["self"]) fun _ _ _ _ _ _=>arg1 fun _=>rfl
  have F14:=fun_mk (st:=s_is_colour) l14 c14 k14
  have B14:=F14.binds (ps:=["thing"]) fun _ _ _ _ _ _=>arg1 fun _=>rfl
  have D14:DefAt K mg "is_colour" s_is_colour ["thing"] _ _:=⟨F14,PySem.W.mg_of X G a14,B14⟩
  have F15:=fun_mk (st:=s_need) l15 c15 k15
  have B15:=F15.binds (ps:=["holds","words"]) fun _ _ _ _ _ _=>arg2 fun _ _=>rfl
  have D15:DefAt K mg "need" s_need ["holds","words"] _ _:=⟨F15,PySem.W.mg_of X G a15,B15⟩
  have F16:=fun_mk (st:=s_is_list) l16 c16 k16
  have B16:=F16.binds (ps:=["thing","least","most"]) fun _ _ _ _ _ _=>arg3 fun _ _ _=>rfl
  have D16:DefAt K mg "is_list" s_is_list ["thing","least","most"] _ _:=⟨F16,PySem.W.mg_of X G a16,B16⟩
  have F17:=fun_mk (st:=s_is_rising) l17 c17 k17
  have B17:=F17.binds (ps:=["thing","most"]) fun _ _ _ _ _ _=>arg2 fun _ _=>rfl
  have D17:DefAt K mg "is_rising" s_is_rising ["thing","most"] _ _:=⟨F17,PySem.W.mg_of X G a17,B17⟩
  have F18:=fun_mk (st:=s_are_rising) l18 c18 k18
  have B18:=F18.binds (ps:=["thing","most"]) fun _ _ _ _ _ _=>arg2 fun _ _=>rfl
  have D18:DefAt K mg "are_rising" s_are_rising ["thing","most"] _ _:=⟨F18,PySem.W.mg_of X G a18,B18⟩
  have F19:=fun_mk (st:=s_are_colours) l19 c19 k19
  have B19:=F19.binds (ps:=["thing","many"]) fun _ _ _ _ _ _=>arg2 fun _ _=>rfl
  have D19:DefAt K mg "are_colours" s_are_colours ["thing","many"] _ _:=⟨F19,PySem.W.mg_of X G a19,B19⟩
  have F20:=fun_mk (st:=s_need_draft) l20 c20 k20
  have B20:=F20.binds (ps:=["shafts","treadles","threading","ties","treading","warp","weft"]) fun _ _ _ _ _ _=>arg7 fun _ _ _ _ _ _ _=>rfl
  have D20:DefAt K mg "need_draft" s_need_draft ["shafts","treadles","threading","ties","treading","warp","weft"] _ _:=⟨F20,PySem.W.mg_of X G a20,B20⟩
  have F21:=fun_mk (st:=s_Draft___init__) l21 c21 k21
  have B21:=F21.binds (ps:=["self","shafts","treadles","threading","ties","treading","warp","weft"]) fun _ _ _ _ _ _=>arg8 fun _ _ _ _ _ _ _ _=>rfl
  have F22:=fun_mk (st:=s_Draft_told) l22 c22 k22
  have B22:=F22.binds (ps:=["self"]) fun _ _ _ _ _ _=>arg1 fun _=>rfl
  have F23:=fun_mk (st:=s_Draft_ends) l23 c23 k23
  have B23:=F23.binds (ps:=["self"]) fun _ _ _ _ _ _=>arg1 fun _=>rfl
  have F24:=fun_mk (st:=s_lift_by) l24 c24 k24
  have B24:=F24.binds (ps:=["ties","treadles"]) fun _ _ _ _ _ _=>arg2 fun _ _=>rfl
  have D24:DefAt K mg "lift_by" s_lift_by ["ties","treadles"] _ _:=⟨F24,PySem.W.mg_of X G a24,B24⟩
  have F25:=fun_mk (st:=s_lifts_of) l25 c25 k25
  have B25:=F25.binds (ps:=["draft"]) fun _ _ _ _ _ _=>arg1 fun _=>rfl
  have D25:DefAt K mg "lifts_of" s_lifts_of ["draft"] _ _:=⟨F25,PySem.W.mg_of X G a25,B25⟩
  have F26:=fun_mk (st:=s_ends_through) l26 c26 k26
  have B26:=F26.binds (ps:=["threading","shaft"]) fun _ _ _ _ _ _=>arg2 fun _ _=>rfl
  have D26:DefAt K mg "ends_through" s_ends_through ["threading","shaft"] _ _:=⟨F26,PySem.W.mg_of X G a26,B26⟩
  have F27:=fun_mk (st:=s_shaft_ends) l27 c27 k27
  have B27:=F27.binds (ps:=["threading","shafts"]) fun _ _ _ _ _ _=>arg2 fun _ _=>rfl
  have D27:DefAt K mg "shaft_ends" s_shaft_ends ["threading","shafts"] _ _:=⟨F27,PySem.W.mg_of X G a27,B27⟩
  have F28:=fun_mk (st:=s_row_by) l28 c28 k28
  have B28:=F28.binds (ps:=["carried","lift"]) fun _ _ _ _ _ _=>arg2 fun _ _=>rfl
  have D28:DefAt K mg "row_by" s_row_by ["carried","lift"] _ _:=⟨F28,PySem.W.mg_of X G a28,B28⟩
  have F29:=fun_mk (st:=s_woven) l29 c29 k29
  have B29:=F29.binds (ps:=["draft"]) fun _ _ _ _ _ _=>arg1 fun _=>rfl
  have D29:DefAt K mg "woven" s_woven ["draft"] _ _:=⟨F29,PySem.W.mg_of X G a29,B29⟩
  have F30:=fun_mk (st:=s__law_kinds) l30 c30 k30
  have B30:=F30.binds (ps:=["_law_error"]) fun _ _ _ _ _ _=>arg1 fun _=>rfl
  have D30:DefAt K mg "_law_kinds" s__law_kinds ["_law_error"] _ _:=⟨F30,PySem.W.mg_of X G a30,B30⟩
  have F31:=fun_mk (st:=s__law_mixed) l31 c31 k31
  have B31:=F31.binds (ps:=["_law_cell","_law_k"]) fun _ _ _ _ _ _=>arg2 fun _ _=>rfl
  have D31:DefAt K mg "_law_mixed" s__law_mixed ["_law_cell","_law_k"] _ _:=⟨F31,PySem.W.mg_of X G a31,B31⟩
  have F32:=fun_mk (st:=s__law_cells) l32 c32 k32
  have B32:=F32.binds (ps:=["_law_script","_law_first"]) fun _ _ _ _ _ _=>arg2 fun _ _=>rfl
  have D32:DefAt K mg "_law_cells" s__law_cells ["_law_script","_law_first"] _ _:=⟨F32,PySem.W.mg_of X G a32,B32⟩
  have F33:=fun_mk (st:=s__law_numbers) l33 c33 k33
  have B33:=F33.binds (ps:=["_law_mask","_law_most"]) fun _ _ _ _ _ _=>arg2 fun _ _=>rfl
  have D33:DefAt K mg "_law_numbers" s__law_numbers ["_law_mask","_law_most"] _ _:=⟨F33,PySem.W.mg_of X G a33,B33⟩
  have F34:=fun_mk (st:=s__law_copied) l34 c34 k34
  have B34:=F34.binds (ps:=["_law_thing"]) fun _ _ _ _ _ _=>arg1 fun _=>rfl
  have D34:DefAt K mg "_law_copied" s__law_copied ["_law_thing"] _ _:=⟨F34,PySem.W.mg_of X G a34,B34⟩
  have F35:=fun_mk (st:=s__law_draft) l35 c35 k35
  have B35:=F35.binds (ps:=["_law_script","_law_most"]) fun _ _ _ _ _ _=>arg2 fun _ _=>rfl
  have D35:DefAt K mg "_law_draft" s__law_draft ["_law_script","_law_most"] _ _:=⟨F35,PySem.W.mg_of X G a35,B35⟩
  have F36:=fun_mk (st:=s__law_made) l36 c36 k36
  have B36:=F36.binds (ps:=["_law_due"]) fun _ _ _ _ _ _=>arg1 fun _=>rfl
  have D36:DefAt K mg "_law_made" s__law_made ["_law_due"] _ _:=⟨F36,PySem.W.mg_of X G a36,B36⟩
  have F37:=fun_mk (st:=s_Draft_picks) l37 c37 k37
  have B37:=F37.binds (ps:=["self"]) fun _ _ _ _ _ _=>arg1 fun _=>rfl
  have F38:=fun_mk (st:=s_beside) l38 c38 k38
  have B38:=F38.binds (ps:=["one","other"]) fun _ _ _ _ _ _=>arg2 fun _ _=>rfl
  have D38:DefAt K mg "beside" s_beside ["one","other"] _ _:=⟨F38,PySem.W.mg_of X G a38,B38⟩
  have F39:=fun_mk (st:=s_below) l39 c39 k39
  have B39:=F39.binds (ps:=["one","other"]) fun _ _ _ _ _ _=>arg2 fun _ _=>rfl
  have D39:DefAt K mg "below" s_below ["one","other"] _ _:=⟨F39,PySem.W.mg_of X G a39,B39⟩
  have F40:=fun_mk (st:=s_row_over) l40 c40 k40
  have B40:=F40.binds (ps:=["row","ends","across"]) fun _ _ _ _ _ _=>arg3 fun _ _ _=>rfl
  have D40:DefAt K mg "row_over" s_row_over ["row","ends","across"] _ _:=⟨F40,PySem.W.mg_of X G a40,B40⟩
  have F41:=fun_mk (st:=s_goes_over) l41 c41 k41
  have B41:=F41.binds (ps:=["thing","across","down"]) fun _ _ _ _ _ _=>arg3 fun _ _ _=>rfl
  have D41:DefAt K mg "goes_over" s_goes_over ["thing","across","down"] _ _:=⟨F41,PySem.W.mg_of X G a41,B41⟩
  have F42:=fun_mk (st:=s_told_over) l42 c42 k42
  have B42:=F42.binds (ps:=["cloth","across","down"]) fun _ _ _ _ _ _=>arg3 fun _ _ _=>rfl
  have D42:DefAt K mg "told_over" s_told_over ["cloth","across","down"] _ _:=⟨F42,PySem.W.mg_of X G a42,B42⟩
  have F43:=fun_mk (st:=s_changed_draft) l43 c43 k43
  have B43:=F43.binds (ps:=["draft","changes"]) fun _ _ _ _ _ _=>arg2 fun _ _=>rfl
  have D43:DefAt K mg "changed_draft" s_changed_draft ["draft","changes"] _ _:=⟨F43,PySem.W.mg_of X G a43,B43⟩
  have F44:=fun_mk (st:=s_draft_told_over) l44 c44 k44
  have B44:=F44.binds (ps:=["draft","across","down"]) fun _ _ _ _ _ _=>arg3 fun _ _ _=>rfl
  have D44:DefAt K mg "draft_told_over" s_draft_told_over ["draft","across","down"] _ _:=⟨F44,PySem.W.mg_of X G a44,B44⟩
  have F45:=fun_mk (st:=s__law_bits) l45 c45 k45
  have B45:=F45.binds (ps:=["_law_wide","_law_masks"]) fun _ _ _ _ _ _=>arg2 fun _ _=>rfl
  have D45:DefAt K mg "_law_bits" s__law_bits ["_law_wide","_law_masks"] _ _:=⟨F45,PySem.W.mg_of X G a45,B45⟩
  have F46:=fun_mk (st:=s__law_told) l46 c46 k46
  have B46:=F46.binds (ps:=["_law_cloth"]) fun _ _ _ _ _ _=>arg1 fun _=>rfl
  have D46:DefAt K mg "_law_told" s__law_told ["_law_cloth"] _ _:=⟨F46,PySem.W.mg_of X G a46,B46⟩
  have F47:=fun_mk (st:=s__law_count) l47 c47 k47
  have B47:=F47.binds (ps:=["_law_number","_law_size"]) fun _ _ _ _ _ _=>arg2 fun _ _=>rfl
  have D47:DefAt K mg "_law_count" s__law_count ["_law_number","_law_size"] _ _:=⟨F47,PySem.W.mg_of X G a47,B47⟩
  have F48:=fun_mk (st:=s__law_refused) l48 c48 k48
  have B48:=F48.binds (ps:=["_law_which","_law_one","_law_other","_law_across","_law_down"]) fun _ _ _ _ _ _=>arg5 fun _ _ _ _ _=>rfl
  have D48:DefAt K mg "_law_refused" s__law_refused ["_law_which","_law_one","_law_other","_law_across","_law_down"] _ _:=⟨F48,PySem.W.mg_of X G a48,B48⟩
  have F49:=fun_mk (st:=s__law_cloths) l49 c49 k49
  have B49:=F49.binds (ps:=["_law_script","_law_whole"]) fun _ _ _ _ _ _=>arg2 fun _ _=>rfl
  have D49:DefAt K mg "_law_cloths" s__law_cloths ["_law_script","_law_whole"] _ _:=⟨F49,PySem.W.mg_of X G a49,B49⟩
  have F50:=fun_mk (st:=s__law_joined_right) l50 c50 k50
  have B50:=F50.binds (ps:=["_law_wide","_law_masks","_law_further","_law_others"]) fun _ _ _ _ _ _=>arg4 fun _ _ _ _=>rfl
  have D50:DefAt K mg "_law_joined_right" s__law_joined_right ["_law_wide","_law_masks","_law_further","_law_others"] _ _:=⟨F50,PySem.W.mg_of X G a50,B50⟩
  have F51:=fun_mk (st:=s__law_over_right) l51 c51 k51
  have B51:=F51.binds (ps:=["_law_wide","_law_masks","_law_across","_law_down"]) fun _ _ _ _ _ _=>arg4 fun _ _ _ _=>rfl
  have D51:DefAt K mg "_law_over_right" s__law_over_right ["_law_wide","_law_masks","_law_across","_law_down"] _ _:=⟨F51,PySem.W.mg_of X G a51,B51⟩
  have F52:=fun_mk (st:=s__law_draft_right) l52 c52 k52
  have B52:=F52.binds (ps:=["_law_due","_law_across","_law_down"]) fun _ _ _ _ _ _=>arg3 fun _ _ _=>rfl
  have D52:DefAt K mg "_law_draft_right" s__law_draft_right ["_law_due","_law_across","_law_down"] _ _:=⟨F52,PySem.W.mg_of X G a52,B52⟩
  have F53:=fun_mk (st:=s_law) l53 c53 k53
  have B53:=F53.binds (ps:=["_law_script"]) fun _ _ _ _ _ _=>arg1 fun _=>rfl
  have D53:DefAt K mg "law" s_law ["_law_script"] _ _:=⟨F53,PySem.W.mg_of X G a53,B53⟩
  have T:Txt K mg ⟨C_Cloth,C_Draft,C_LoomError,C_BadRow,C_BadWord,C_TooMany,C_NotPlain,C_NotGrown,C_BadDraft,C_BadCloth,C_OutOfPlace,C_PARTS⟩:={
    own:=fun x hx=>by
      simp only [List.mem_cons,List.not_mem_nil,or_false] at hx
      rcases hx with rfl | rfl | rfl | rfl | rfl | rfl | rfl | rfl | rfl | rfl | rfl | rfl | rfl | rfl | rfl | rfl
      · exact PySem.W.mg_none_of X G z0
      · exact PySem.W.mg_none_of X G z1
      · exact PySem.W.mg_none_of X G z2
      · exact PySem.W.mg_none_of X G z3
      · exact PySem.W.mg_none_of X G z4
      · exact PySem.W.mg_none_of X G z5
      · exact PySem.W.mg_none_of X G z6
      · exact PySem.W.mg_none_of X G z7
      · exact PySem.W.mg_none_of X G z8
      · exact PySem.W.mg_none_of X G z9
      · exact PySem.W.mg_none_of X G z10
      · exact PySem.W.mg_none_of X G z11
      · exact PySem.W.mg_none_of X G z12
      · exact PySem.W.mg_none_of X G z13
      · exact PySem.W.mg_none_of X G z14
      · exact PySem.W.mg_none_of X G z15
    g_Cloth:=PySem.W.mg_of X G aC_Cloth
    kd_Cloth:=⟨⟨pg_Cloth,hd_Cloth,po_Cloth,sa_Cloth⟩,ha_Cloth,hn_Cloth,ht_Cloth,hm_Cloth⟩
    is_Cloth:=if_pos (beq_self_eq_true _)
    na_Cloth_width:=na_Cloth_width
    na_Cloth_rows:=na_Cloth_rows
    g_Draft:=PySem.W.mg_of X G aC_Draft
    kd_Draft:=⟨⟨pg_Draft,hd_Draft,po_Draft,sa_Draft⟩,ha_Draft,hn_Draft,ht_Draft,hm_Draft⟩
    is_Draft:=if_pos (beq_self_eq_true _)
    na_Draft_shafts:=na_Draft_shafts
    na_Draft_treadles:=na_Draft_treadles
    na_Draft_threading:=na_Draft_threading
    na_Draft_ties:=na_Draft_ties
    na_Draft_treading:=na_Draft_treading
    na_Draft_warp:=na_Draft_warp
    na_Draft_weft:=na_Draft_weft
    g_LoomError:=PySem.W.mg_of X G aC_LoomError
    g_BadRow:=PySem.W.mg_of X G aC_BadRow
    g_BadWord:=PySem.W.mg_of X G aC_BadWord
    g_TooMany:=PySem.W.mg_of X G aC_TooMany
    g_NotPlain:=PySem.W.mg_of X G aC_NotPlain
    g_NotGrown:=PySem.W.mg_of X G aC_NotGrown
    g_BadDraft:=PySem.W.mg_of X G aC_BadDraft
    xk_BadDraft:=⟨xc_BadDraft,xg_BadDraft,xn_BadDraft,xb_BadDraft,ha_BadDraft,hn_BadDraft,ht_BadDraft,hm_BadDraft⟩
    xi_BadDraft:=xi_BadDraft
    xm_BadDraft_LoomError:=xm_BadDraft_LoomError
    ki_BadDraft_BadRow:=ki_BadDraft_BadRow
    ki_BadDraft_BadWord:=ki_BadDraft_BadWord
    ki_BadDraft_TooMany:=ki_BadDraft_TooMany
    ki_BadDraft_NotPlain:=ki_BadDraft_NotPlain
    ki_BadDraft_NotGrown:=ki_BadDraft_NotGrown
    ki_BadDraft_BadDraft:=ki_BadDraft_BadDraft
    ki_BadDraft_BadCloth:=ki_BadDraft_BadCloth
    ki_BadDraft_OutOfPlace:=ki_BadDraft_OutOfPlace
    ki_BadDraft_ValueError:=ki_BadDraft_ValueError
    g_BadCloth:=PySem.W.mg_of X G aC_BadCloth
    xk_BadCloth:=⟨xc_BadCloth,xg_BadCloth,xn_BadCloth,xb_BadCloth,ha_BadCloth,hn_BadCloth,ht_BadCloth,hm_BadCloth⟩
    xi_BadCloth:=xi_BadCloth
    xm_BadCloth_LoomError:=xm_BadCloth_LoomError
    ki_BadCloth_BadRow:=ki_BadCloth_BadRow
    ki_BadCloth_BadWord:=ki_BadCloth_BadWord
    ki_BadCloth_TooMany:=ki_BadCloth_TooMany
    ki_BadCloth_NotPlain:=ki_BadCloth_NotPlain
    ki_BadCloth_NotGrown:=ki_BadCloth_NotGrown
    ki_BadCloth_BadDraft:=ki_BadCloth_BadDraft
    ki_BadCloth_BadCloth:=ki_BadCloth_BadCloth
    ki_BadCloth_OutOfPlace:=ki_BadCloth_OutOfPlace
    ki_BadCloth_ValueError:=ki_BadCloth_ValueError
    g_OutOfPlace:=PySem.W.mg_of X G aC_OutOfPlace
    g_PARTS:=PySem.W.mg_of X G aC_PARTS
    t_PARTS:=fun H=> .inr ⟨_,_,_,lk_PARTS,rfl,rfl,by simp [sizeLine_eq], .cons ⟨_,rfl⟩ (.cons ⟨_,rfl⟩ (.cons ⟨_,rfl⟩ (.cons ⟨_,rfl⟩ (.cons ⟨_,rfl⟩ (.cons ⟨_,rfl⟩ (.cons ⟨_,rfl⟩ (.nil)))))))⟩
    k_MOST_SHAFTS:=⟨_,PySem.W.mg_of X G y0⟩
    k_MOST_TREADLES:=⟨_,PySem.W.mg_of X G y1⟩
    k_MOST_ENDS:=⟨_,PySem.W.mg_of X G y2⟩
    k_MOST_PICKS:=⟨_,PySem.W.mg_of X G y3⟩
    k_COLOURS:=⟨_,PySem.W.mg_of X G y4⟩
  }
  exact ⟨_,fun s v=> .of_eq rfl,fun base _ _=>by
    have c_bit_of:=D1.call (ok_bit_of (P:=l.prog) (w:=w) (base:=base) F1 T)
    have c_mask_of:=D2.call (ok_mask_of (P:=l.prog) (w:=w) (base:=base) F2 T c_bit_of)
    have c_mask_to:=D3.call (ok_mask_to (P:=l.prog) (w:=w) (base:=base) F3 T)
    have c_has_number:=D4.call (ok_has_number (P:=l.prog) (w:=w) (base:=base) F4 T c_bit_of)
    have c_numbers_of:=D5.call (ok_numbers_of (P:=l.prog) (w:=w) (base:=base) F5 T c_has_number)
    have c_union_of:=D6.call (ok_union_of (P:=l.prog) (w:=w) (base:=base) F6 T)
    have c_is_whole:=D7.call (ok_is_whole (P:=l.prog) (w:=w) (base:=base) F7 T)
    have c_is_among:=D8.call (ok_is_among (P:=l.prog) (w:=w) (base:=base) F8 T c_is_whole)
    have c_need_cloth:=D9.callE (ok_need_cloth (P:=l.prog) (w:=w) (base:=base) F9 T c_is_among c_mask_to)
    have m_Cloth:MakeE l.prog w K mg base "Cloth" C_Cloth 4 ["self","ends","rows"] _:=⟨_,_,PySem.W.mg_of X G aC_Cloth,⟨mk_Cloth,a10,i10,kc_Cloth⟩,ok_Cloth___init__ (P:=l.prog) (w:=w) (base:=base) F10 T c_need_cloth,B10⟩
    have d_Cloth_told:MethF l.prog w K mg base C_Cloth "told" 1 ["self"] _:=⟨_,_,T.kd_Cloth.cl,⟨a11,i11,k11⟩,ok_Cloth_told (P:=l.prog) (w:=w) (base:=base) F11 T,B11⟩
    have d_Cloth_ends:MethF l.prog w K mg base C_Cloth "ends" 1 ["self"] _:=⟨_,_,T.kd_Cloth.cl,⟨a12,i12,k12⟩,ok_Cloth_ends (P:=l.prog) (w:=w) (base:=base) F12 T,B12⟩
    have d_Cloth_picks:MethF l.prog w K mg base C_Cloth "picks" 1 ["self"] _:=⟨_,_,T.kd_Cloth.cl,⟨a13,i13,k13⟩,ok_Cloth_picks (P:=l.prog) (w:=w) (base:=base) F13 T,B13⟩
    have c_is_colour:=D14.call (ok_is_colour (P:=l.prog) (w:=w) (base:=base) F14 T)
    have c_need:=D15.call (ok_need (P:=l.prog) (w:=w) (base:=base) F15 T)
    have c_is_list:=D16.call (ok_is_list (P:=l.prog) (w:=w) (base:=base) F16 T c_is_among)
    have c_is_rising:=D17.call (ok_is_rising (P:=l.prog) (w:=w) (base:=base) F17 T c_is_among)
    have c_are_rising:=D18.call (ok_are_rising (P:=l.prog) (w:=w) (base:=base) F18 T c_is_rising)
    have c_are_colours:=D19.call (ok_are_colours (P:=l.prog) (w:=w) (base:=base) F19 T c_is_list c_is_colour)
    have c_need_draft:=D20.call (ok_need_draft (P:=l.prog) (w:=w) (base:=base) F20 T c_need c_is_among c_is_list c_are_rising c_are_colours)
    have m_Draft:MakeF l.prog w K mg base "Draft" C_Draft 6 ["self","shafts","treadles","threading","ties","treading","warp","weft"] _:=⟨_,_,PySem.W.mg_of X G aC_Draft,⟨mk_Draft,a21,i21,kc_Draft⟩,ok_Draft___init__ (P:=l.prog) (w:=w) (base:=base) F21 T c_need_draft,B21⟩
    have d_Draft_told:MethF l.prog w K mg base C_Draft "told" 1 ["self"] _:=⟨_,_,T.kd_Draft.cl,⟨a22,i22,k22⟩,ok_Draft_told (P:=l.prog) (w:=w) (base:=base) F22 T,B22⟩
    have d_Draft_ends:MethF l.prog w K mg base C_Draft "ends" 1 ["self"] _:=⟨_,_,T.kd_Draft.cl,⟨a23,i23,k23⟩,ok_Draft_ends (P:=l.prog) (w:=w) (base:=base) F23 T,B23⟩
    have c_lift_by:=D24.call (ok_lift_by (P:=l.prog) (w:=w) (base:=base) F24 T c_union_of)
    have c_lifts_of:=D25.call (ok_lifts_of (P:=l.prog) (w:=w) (base:=base) F25 T c_mask_of c_lift_by)
    have c_ends_through:=D26.call (ok_ends_through (P:=l.prog) (w:=w) (base:=base) F26 T c_mask_of)
    have c_shaft_ends:=D27.call (ok_shaft_ends (P:=l.prog) (w:=w) (base:=base) F27 T c_ends_through)
    have c_row_by:=D28.call (ok_row_by (P:=l.prog) (w:=w) (base:=base) F28 T c_numbers_of c_union_of)
    have c_woven:=D29.call (ok_woven (P:=l.prog) (w:=w) (base:=base) F29 T c_shaft_ends d_Draft_ends c_row_by c_lifts_of m_Cloth)
    have c__law_kinds:=D30.call (ok__law_kinds (P:=l.prog) (w:=w) (base:=base) F30 T)
    have c__law_mixed:=D31.call (ok__law_mixed (P:=l.prog) (w:=w) (base:=base) F31 T)
    have c__law_cells:=D32.call (ok__law_cells (P:=l.prog) (w:=w) (base:=base) F32 T)
    have c__law_numbers:=D33.call (ok__law_numbers (P:=l.prog) (w:=w) (base:=base) F33 T)
    have c__law_draft:=D35.call (ok__law_draft (P:=l.prog) (w:=w) (base:=base) F35 T c__law_mixed c__law_cells c__law_numbers)
    have c__law_made:=D36.call (ok__law_made (P:=l.prog) (w:=w) (base:=base) F36 T (D34.call (ok__law_copied (P:=l.prog) (w:=w) (base:=base) D34 T 4)) m_Draft)
    have d_Draft_picks:MethF l.prog w K mg base C_Draft "picks" 1 ["self"] _:=⟨_,_,T.kd_Draft.cl,⟨a37,i37,k37⟩,ok_Draft_picks (P:=l.prog) (w:=w) (base:=base) F37 T,B37⟩
    have c_beside:=D38.callE (ok_beside (P:=l.prog) (w:=w) (base:=base) F38 T d_Cloth_picks d_Cloth_ends m_Cloth)
    have c_below:=D39.callE (ok_below (P:=l.prog) (w:=w) (base:=base) F39 T d_Cloth_ends m_Cloth)
    have c_row_over:=D40.call (ok_row_over (P:=l.prog) (w:=w) (base:=base) F40 T c_union_of)
    have c_goes_over:=D41.call (ok_goes_over (P:=l.prog) (w:=w) (base:=base) F41 T d_Cloth_ends d_Cloth_picks d_Draft_ends d_Draft_picks)
    have c_told_over:=D42.callE (ok_told_over (P:=l.prog) (w:=w) (base:=base) F42 T c_goes_over c_row_over d_Cloth_ends m_Cloth)
    have c_changed_draft:=D43.call (ok_changed_draft (P:=l.prog) (w:=w) (base:=base) F43 T d_Draft_told m_Draft)
    have c_draft_told_over:=D44.callE (ok_draft_told_over (P:=l.prog) (w:=w) (base:=base) F44 T c_goes_over c_changed_draft)
    have c__law_bits:=D45.call (ok__law_bits (P:=l.prog) (w:=w) (base:=base) F45 T)
    have c__law_told:=D46.call (ok__law_told (P:=l.prog) (w:=w) (base:=base) F46 T d_Cloth_told c__law_bits)
    have c__law_count:=D47.call (ok__law_count (P:=l.prog) (w:=w) (base:=base) F47 T)
    have c__law_refused:=D48.call (ok__law_refused (P:=l.prog) (w:=w) (base:=base) F48 T c_beside c_below c_told_over c_draft_told_over c__law_kinds)
    have c__law_cloths:=D49.call (ok__law_cloths (P:=l.prog) (w:=w) (base:=base) F49 T c__law_mixed c__law_cells)
    have c__law_joined_right:=D50.call (ok__law_joined_right (P:=l.prog) (w:=w) (base:=base) F50 T m_Cloth c__law_bits c__law_refused (D0.call (ok__law_same (P:=l.prog) (w:=w) (base:=base) D0 T 4)) c__law_told c_beside c_below d_Cloth_told)
    have c__law_over_right:=D51.call (ok__law_over_right (P:=l.prog) (w:=w) (base:=base) F51 T m_Cloth c__law_refused c__law_bits (D0.call (ok__law_same (P:=l.prog) (w:=w) (base:=base) D0 T 4)) c__law_told c_told_over d_Cloth_told)
    have c__law_draft_right:=D52.call (ok__law_draft_right (P:=l.prog) (w:=w) (base:=base) F52 T c__law_made c__law_refused c_draft_told_over (D0.call (ok__law_same (P:=l.prog) (w:=w) (base:=base) D0 T 4)) d_Draft_told c__law_told c_woven)
    exact ok_law F53 T c__law_mixed c__law_cloths c__law_joined_right c__law_draft c__law_count c__law_over_right c__law_draft_right
    ⟩
theorem walk {l:PySem.W.OpenLaw} {q:Program} {loose:List Str} {XP:(Str→Option Value)→Heap→Prop} {YP:World→Heap→Prop} {d:DefRec} {K:Params→PySem.W.Frag} (hn:l.most=some 63) (hdf:d.params.defaults=[])
    (hY:∀ (w:World) (h:Heap),YP w h→(K w.params).In h)
    (F:∀ (w:World) (mg:Str→Option Value) (fa:Addr) (h:Heap),(K w.params).In h→h.Ns mainGlobals mg→mg d.name=some (.ref fa)→
      ∃ fd:FuncData,(∀ (s:Shared) (v:Value),BindsTo s fd ⟨[v],[]⟩ [("_law_script",v)])∧∀ base:Heap,(K w.params).In base→base.Ns mainGlobals mg→FnOk l.prog w (K w.params) mg base CX0 12 fa fd ["_law_script"] (spLaw (K w.params))):
    PySem.W.WalkO q loose XP YP l.row.toRowW d [] (fun f vs=>PySem.call f vs):=
  L2.walk_of (n:=63) (k:=12) (x:="_law_script") (CX:=fun _=>CX0) (sp:=fun w=>spLaw (K w.params)) hn (by decide) hdf ⟨rfl,by decide,by decide⟩ hY F (fun _ _ a ns hl _ hS=>⟨a,ns,rfl,hS,hl,fun _=>rfl⟩) fun _ _ _ _ _ z=>z
end K17
open PySem PySem.W PyProof.Rows
set_option maxRecDepth 100000 in
set_option maxHeartbeats 0 in
theorem PySem.Challenge.cw_loomwright_k17_whole_joined_and_told_ove_holds : PySem.Challenge.rw_loomwright_k17_whole_joined_and_told_ove.Holds := by
  w_on
  refine PySem.W.holds_law (by first | k_qdec | decide +kernel) fun said=> ?_
  refine PySem.W.holds_open (q:=K17.view) (loose:=[]) (Xt:=K17.Xt) (XP:=PySem.W.XL K17.view []) (Yf:=(PySem.W.kHook K17.frag K17.addrs K17.addrs_eq).obs) (Ya:=(PySem.W.kHook K17.frag K17.addrs K17.addrs_eq).val) (YP:=(PySem.W.kHook K17.frag K17.addrs K17.addrs_eq).says) (N:=K17.fuel) K17.left (PySem.W.kHook K17.frag K17.addrs K17.addrs_eq).of (PySem.W.kHook K17.frag K17.addrs K17.addrs_eq).keeps (fun s e=>PySem.W.xl_of s (Bool.and_eq_true_iff.mp e).1) PySem.W.XL.keeps (by rfl) (by rfl) (by rfl) (fun s e=>PySem.W.recFacts_of (Bool.and_eq_true_iff.mp e).2) (by rfl) (by first | assumption | decide +kernel) (by first | k_qdec | decide +kernel) ⟨rfl,rfl,rfl,rfl,rfl,by decide +kernel⟩ ?hw ?hc
  (case hw=>w_witness2)
  k_fill
  refine K17.walk (l:=PySem.Challenge.rw_loomwright_k17_whole_joined_and_told_ove) rfl rfl (fun w h Y=>PySem.W.kIn_of Y) ?F
  case F=>
    intro w mg fa h KX G hmg
    refine' K17.all_mk KX G hmg ?_ ?_ ?_ ?_ ?_ ?_ ?_ ?_ ?_ ?_ ?_ ?_ ?_ ?_ ?_ ?_ ?_ ?_ ?_ ?_ ?_ ?_ ?_ ?_ ?_ ?_ ?_ ?_ ?_ ?_ ?_ ?_ ?_ ?_ ?_ ?_ ?_ ?_ ?_ ?_ ?_ ?_ ?_ ?_ ?_ ?_ ?_ ?_ ?_ ?_ ?_ ?_ ?_ ?_ ?_ ?_ ?_ ?_ ?_ ?_ ?_ ?_ ?_ ?_ ?_ ?_ ?_ ?_ ?_ ?_ ?_ ?_ ?_ ?_ ?_ ?_ ?_ ?_ ?_ ?_ ?_ ?_ ?_ ?_ ?_ ?_ ?_ ?_ ?_ ?_ ?_ ?_ ?_ ?_ ?_ ?_ ?_ ?_ ?_ ?_ ?_ ?_ ?_ ?_ ?_ ?_ ?_ ?_ ?_ ?_ ?_ ?_ ?_ ?_ ?_ ?_ ?_ ?_ ?_ ?_ ?_ ?_ ?_ ?_ ?_ ?_ ?_ ?_ ?_ ?_ ?_ ?_ ?_ ?_ ?_ ?_ ?_ ?_ ?_ ?_ ?_ ?_ ?_ ?_ ?_ ?_ ?_ ?_ ?_ ?_ ?_ ?_ ?_ ?_ ?_ ?_ ?_ ?_ ?_ ?_ ?_ ?_ ?_ ?_ ?_ ?_ ?_ ?_ ?_ ?_ ?_ ?_ ?_ ?_ ?_ ?_ ?_ ?_ ?_ ?_ ?_ ?_ ?_ ?_ ?_ ?_ ?_ ?_ ?_ ?_ ?_ ?_ ?_ ?_ ?_ ?_ ?_ ?_ ?_ ?_ ?_ ?_ ?_ ?_ ?_ ?_ ?_ ?_ ?_ ?_ ?_ ?_ ?_ ?_ ?_ ?_ ?_ ?_ ?_ ?_ ?_ ?_ ?_ ?_ ?_ ?_ ?_ ?_ ?_ ?_ ?_ ?_ ?_ ?_ ?_ ?_ ?_ ?_ ?_ ?_ ?_ ?_ ?_ ?_ ?_ ?_ ?_ ?_ ?_ ?_ ?_ ?_ ?_ ?_ ?_ ?_ ?_ ?_ ?_ ?_ ?_ ?_ ?_ ?_ ?_ ?_ ?_ ?_ ?_ ?_ ?_ ?_ ?_ ?_ ?_ ?_ ?_ ?_ ?_ ?_ ?_ ?_ ?_ ?_ ?_ ?_ ?_ ?_ ?_ ?_ ?_ ?_ ?_ ?_ ?_ ?_ ?_ ?_ ?_ ?_ ?_ ?_ ?_ ?_ ?_ ?_ ?_ ?_ ?_ ?_ ?_ ?_ ?_ ?_ ?_ ?_ ?_ ?_ ?_ ?_ ?_ ?_ ?_ ?_ ?_
    all_goals first | k_is | k_exc | kts_exm | kit_is | kernel_rfl | rfl | exact List.mem_cons_self | decide | skip
