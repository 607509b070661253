import PyProof.Rows.All
import Wide.All
import OpenK.AllK
import Wide.FinOn
import Lean
import PyProof.EqAt
import PyProof.EqKinds
import PyProof.TupleCall
import KE.KIntText
import PyProof.EnumFor
import PyProof.EnumMake
import PyProof.ZipIter
import PyProof.LayNew
import KE.KTurns
import PyProof.Rows.Range3
import KE.KRevSl
import KE.KDictList
import PyProof.Draws
import PyProof.Rows.RuleM_int
import PyProof.Rows.BitMore
import PyProof.NeKinds
import KE.KRevIter
import PyProof.JoinWalk
import KE.KTryMore
import PyProof.ExcArgs
import OpenK.KOwn
import PyProof.ExcBaseAll.ValueError
import KE.KLam
import KE.KNestM
import PyProof.AttrMissHeap
import KE.KDictOf
import PySem.Challenge.RW_loomwright_k29_a_loom_step_by_step
set_option Elab.async false
set_option linter.all false
set_option maxRecDepth 100000
set_option maxHeartbeats 4000000
noncomputable section
namespace L2
open PySem
noncomputable def Aq (s:Stmt) (j:Nat):Stmt:=match s with
  | .ClassDef _ _ _ body _ _ _ _ _ _ _=>body.getD j (.Pass ⟨0,0,0,0⟩)
  | _=> .Pass ⟨0,0,0,0⟩
noncomputable def Bg (s:Stmt):Arguments:=match s with
  | .FunctionDef _ a _ _ _ _ _ _ _ _=>a
  | _=>{ posonlyargs:=[],args:=[],vararg:=none,kwonlyargs:=[],kw_defaults:=[],kwarg:=none,defaults:=[] }
noncomputable def AY (s:Stmt):List Stmt:=match s with
  | .FunctionDef _ _ b _ _ _ _ _ _ _=>b
  | _=>[]
noncomputable def Af (s:Stmt):Scope:=match s with
  | .FunctionDef _ _ _ _ _ _ sc _ _ _=>sc
  | _=>{ kind:= .function,names:=[],isGenerator:=false,isCoroutine:=false }
end L2
namespace K29
open PySem
noncomputable def top (i:Nat):Stmt:=PySem.Challenge.pw_loomwright_k29_a_loom_step_by_step.main.body.getD i (.Pass ⟨0,0,0,0⟩)
end K29
namespace HX
open PySem PySem.W PySem.Calls PyProof.Rows
noncomputable def topT (tb:String->Option Builtin) (p:Program) (w:World) (n₀:Nat) (ann:Option Value):Nat->SharedT->Thread->Option SharedT
  | 0,_,_=>none
  | n+1,s,t=>match through t with
    | true=>some s
    | false=>match stepOk n₀ ann t with
      | false=>none
      | true=>match stepT (denote tb) p w s t with
        | some (s',t')=>topT tb p w n₀ ann n s' t'
        | none=>none
theorem topT_of {tb:String->Option Builtin} {p:Program} {w:World} {n₀:Nat} {ann:Option Value}:∀ {n:Nat} {s s':SharedT} {t:Thread},topT tb p w n₀ ann n s t=some s'->topRun tb p w n₀ ann n s.abs t=some s'.abs
  | 0,_,_,_,h=>by cases h
  | n+1,s,s',t,h=>by
    unfold topT at h;unfold topRun;cases ht:through t with
    | true=>rw [ht] at h;cases h;rfl
    | false=>
      rw [ht] at h;cases hk:stepOk n₀ ann t with
      | false=>rw [hk] at h;cases h
      | true=>
        rw [hk] at h;cases hs:stepT (denote tb) p w s t with
        | none=>rw [hs] at h;cases h
        | some x=>
          obtain ⟨s2,t2⟩:=x;rw [hs] at h;dsimp only;rw [stepT_spec hs];exact topT_of h
noncomputable def ofL:List Obj->Nat->BT->BT
  | [],_,t=>t
  | o::r,i,t=>ofL r (i+1) (t.ins i o)
def bootT (P:Params):BT:=ofL (boot_heap P).objs.toList 0 .nil
noncomputable def fn0 (name qual:Str) (a:Arguments) (b:List Stmt) (sc:Scope):FuncData:=
  { name,qualname:=qual,params:=a,body:= .stmts b,scope:=sc,globals:=0,closure:=[],defaults:= .none,kwdefaults:= .none }
noncomputable def goT (tb:String->Option Builtin) (p:Program) (w:World) (n₀:Nat) (ann:Option Value):Nat->SharedT->Thread->Option (SharedT × Thread)
  | 0,s,t=>some (s,t)
  | n+1,s,t=>match through t with
    | true=>none
    | false=>match stepOk n₀ ann t with
      | false=>none
      | true=>match stepT (denote tb) p w s t with
        | some (s',t')=>goT tb p w n₀ ann n s' t'
        | none=>none
theorem goT_of {tb:String->Option Builtin} {p:Program} {w:World} {n₀:Nat} {ann:Option Value}:∀ {n:Nat} {s s':SharedT} {t t':Thread},goT tb p w n₀ ann n s t=some (s',t')->topGo tb p w n₀ ann n s.abs t=some (s'.abs,t')
  | 0,_,_,_,_,h=>by cases h;rfl
  | n+1,s,s',t,t',h=>by
    unfold goT at h;unfold topGo;cases ht:through t with
    | true=>rw [ht] at h;cases h
    | false=>
      rw [ht] at h;cases hk:stepOk n₀ ann t with
      | false=>rw [hk] at h;cases h
      | true=>
        rw [hk] at h;cases hs:stepT (denote tb) p w s t with
        | none=>rw [hs] at h;cases h
        | some x=>
          obtain ⟨s2,t2⟩:=x;rw [hs] at h;dsimp only;rw [stepT_spec hs];exact goT_of h
theorem left_run {p q:Program} {loose:List Str} {Xt:Shared->Bool} {α:Type} {Yf:Shared->α} {Ya:World->α} {N:Nat} {g0:Bool}
    (e:opening p=plainProg p.main.scope.names) (hN:Nat.ble 600 N=true) (f:∀ s,fenceModules? p s=some s)
    (hb:∀ P:Params,(absHeap (bootT P) 11 {},boot_drawn,(boot_heap P).isNs mainGlobals,(boot_heap P).objs.size,(boot_heap P).nsMap mainGlobals "__annotations__")=(boot_heap P,boot_drawn,true,11,some (.ref 6)))
    (run:∀ (w:World) (os:OsState),∃ s:Shared,topRun treeTable p w 11 (some (.ref 6)) N (⟨bootT w.params,11,{},Array.mk [],boot_drawn,boot_toks,os⟩:SharedT).abs (topStub p)=some s/\((staticsOk (importedModules p.main.body) (boot_heap w.params) s.heap&&namesBound p s.heap&&gensDone s&&laidKept (boot_heap w.params) s.heap),openSeen q loose (importedModules p.main.body) Xt g0 s,Yf s)=(true,openGood q loose,Ya w)):LeftO p q loose Xt Yf Ya N g0:=λ w=>by
  obtain ⟨⟨h,gs,d,k,os⟩,e1,e'⟩:=Option.map_eq_some_iff.mp (boot_open (p:=p) (N:=N) e hN f w);obtain ⟨rfl,rfl,rfl,rfl⟩:h=boot_heap w.params/\gs=Array.mk []/\d=boot_drawn/\k=boot_toks:=by simpa using e'
  have hb':=hb w.params;simp only [Prod.mk.injEq] at hb';obtain ⟨b1,_,b2,b3,b4⟩:=hb';obtain ⟨s,r,l⟩:=run w os;obtain ⟨l1,l2,l3⟩:_/\_/\_:=by simpa only [Prod.mk.injEq] using l
  have b0:(⟨bootT w.params,11,{},Array.mk [],boot_drawn,boot_toks,os⟩:SharedT).abs=⟨boot_heap w.params,Array.mk [],boot_drawn,boot_toks,os⟩:=by
    show (⟨absHeap (bootT w.params) 11 {},_,_,_,_⟩:Shared)=_;rw [b1]
  rw [b0] at r;have t:topFrom treeTable p w N ⟨boot_heap w.params,Array.mk [],boot_drawn,boot_toks,os⟩=some s:=by
    unfold topFrom;dsimp only;rw [b2,b3,b4];show Option.bind (topRun treeTable p w 11 (some (.ref 6)) N ⟨boot_heap w.params,Array.mk [],boot_drawn,boot_toks,os⟩ (topStub p)) _=_;rw [r];show (match staticsOk (importedModules p.main.body) (boot_heap w.params) s.heap&&namesBound p s.heap&&gensDone s&&laidKept (boot_heap w.params) s.heap with | true=>_ | false=>_)=_;rw [l1]
  unfold openEnds;rw [e1];show (topFrom treeTable p w N _).map _=_;rw [t];exact congrArg some (Prod.ext l2 l3)
theorem nine {A B C D E F G H I:Type} {o:A × B × C × D × E × F × G × H × I} {a:A} {b:B} {c:C} {d:D} {e:E} {f:F} {g:G} {h:H} {i:I} (l:(o.1,o.2.1,o.2.2.1,o.2.2.2.1)=(a,b,c,d)) (m:(o.2.2.2.2.1,o.2.2.2.2.2.1,o.2.2.2.2.2.2.1,o.2.2.2.2.2.2.2.1,o.2.2.2.2.2.2.2.2)=(e,f,g,h,i)):o=(a,b,c,d,e,f,g,h,i):=by
  cases l;cases m;rfl
theorem three {α β γ:Type} {a a':α} {b b':β} {c c':γ} (h:(a,c)=(a',c')) (k:b=b'):(a,b,c)=(a',b',c'):=by
  cases h;cases k;rfl
theorem hb (P:Params):(absHeap (bootT P) 11 {},boot_drawn,(boot_heap P).isNs mainGlobals,(boot_heap P).objs.size,(boot_heap P).nsMap mainGlobals "__annotations__")=(boot_heap P,boot_drawn,true,11,some (.ref 6)):=by kernel_rfl
end HX
namespace K29
open PySem L2 PySem.W PySem.Calls PyProof.Rows
abbrev Ob:=Params->Obj
noncomputable abbrev dE (P:Params) (s:Str) (t:Tok) (v:Value):DictEntry:=⟨PyData.keyHash P s, .str s t,v⟩
noncomputable abbrev dR (P:Params) (s:Str) (t:Tok) (a:Addr):DictEntry:=⟨PyData.keyHash P s, .str s t, .ref a⟩
noncomputable abbrev tu (xs:Array Value):Obj:=⟨.type "tuple",none, .seq xs 0, #[]⟩
noncomputable abbrev di (es:Array DictEntry) (n:Nat):Obj:=⟨.type "dict",none, .dict es n, #[]⟩
noncomputable abbrev f0 (n q:Str) (st:Stmt):FuncData:=HX.fn0 n q (Bg st) (AY st) (Af st)
noncomputable abbrev fo (n q:Str) (st:Stmt) (m:Str) (t:Tok) (c:Addr):Obj:=⟨.type "function",none, .func (fnOf n q (Bg st) (AY st) (Af st) .none .none .none (.str m t) none (.ref c) .none), #[]⟩
noncomputable abbrev co (n q:Str) (t:Tok) (l ac nl:Int) (a:Addr) (b:Bool) (r:Addr) (c d e:Value) (k:Int) (t4:Tok):Obj:=⟨.type "code",none, .fields #[.str n t, .str q (t+1), .str "/claim/cut.py" (t+2), .int l 0, .int ac 0, .int 0 0, .int 0 0, .int nl 0, .ref a, .bool b, .int 181 0, .ref r, .none,c,d,e, .int k 0, .int l 0, .str "/claim/cut.py" t4], #[]⟩
noncomputable def o3:Ob:=λ P=>di #[dE P "__name__" 165 (.str "law_loomwright_k29_a_loom_step_by_step" 866),dE P "__doc__" 166 .none,dE P "__package__" 167 .none,dE P "__loader__" 168 (.builtin "__main__.__loader__#opaque"),dE P "__spec__" 169 .none,dR P "__annotations__" 170 6,dR P "__builtins__" 171 4,dE P "__file__" 173 (.str "/claim/cut.py" 172),dE P "__cached__" 174 .none,dR P "_wall" 193 21,dE P "MOST_SHAFTS" 195 (.int 16 194),dE P "MOST_TREADLES" 197 (.int 16 196),dE P "MOST_ENDS" 199 (.int 60 198),dE P "MOST_PICKS" 201 (.int 60 200),dR P "LoomError" 221 31,dR P "BadRow" 248 51,dR P "BadWord" 273 70,dR P "TooMany" 300 89,dR P "NotPlain" 327 108,dR P "NotGrown" 354 127,dR P "BadDraft" 370 139,dR P "BadCloth" 386 151,dR P "OutOfPlace" 402 163,dR P "bit_of" 411 172,dR P "mask_of" 420 179,dR P "mask_to" 427 186,dR P "has_number" 435 193,dR P "numbers_of" 441 198,dR P "union_of" 450 205,dE P "COLOURS" 454 (.str "abcdefghijklmnopqrstuvwxyz" 453),dR P "is_whole" 461 212,dR P "is_among" 470 219,dR P "is_colour" 477 226,dR P "need_cloth" 485 231,dR P "Cloth" 562 290,dR P "need" 572 301,dR P "is_list" 581 308,dR P "is_rising" 591 315,dR P "are_rising" 597 320,dR P "are_colours" 603 325,dR P "need_draft" 609 330,dR P "Draft" 662 364,dR P "shafts_but" 668 373,dR P "lift_by" 676 378,dR P "ends_through" 682 383,dR P "shaft_ends" 688 388,dR P "row_by" 694 393,dE P "UP" 698 (.str "up" 697),dE P "DOWN" 700 (.str "down" 699),dE P "BROKEN" 702 (.str "broken" 701),dE P "LOOSE" 704 (.str "loose" 703),dE P "TIED" 706 (.str "tied" 705),dE P "DRAWN" 708 (.str "drawn" 707),dR P "threading_with" 717 400,dR P "ties_with" 723 405,dR P "carried_with" 732 412,dR P "Gear" 773 436,dR P "lone_faults" 781 445,dR P "shaft_faults" 787 450,dR P "all_faults" 793 455,dR P "is_fault" 799 460,dR P "Loom" 856 499,dR P "woven_with" 865 510,dR P "_law_mixed" 875 517,dR P "_law_cells" 881 522,dR P "_law_numbers" 887 527,dR P "_law_draft" 893 532,dR P "_law_made" 900 539,dR P "_law_kinds" 906 544,dR P "_law_whole" 912 549,dR P "_law_all_faults" 918 554,dR P "_law_lifted" 931 561,dR P "_law_row" 944 568,dR P "_law_caught" 953 575,dR P "_law_steps" 966 582,dR P "law" 987 589] 76
noncomputable def o15:Ob:=λ P=>tu #[]
noncomputable def o17:Ob:=λ P=>tu #[(.str "k" 190)]
noncomputable def o18:Ob:=λ P=>tu #[]
noncomputable def o20:Ob:=λ P=>co "_wall" "_wall" 187 1 1 3 15 true 16 (.ref 17) (.ref 18) (.ref 19) 191 192
noncomputable def o21:Ob:=λ P=>fo "_wall" "_wall" (top 0) "__main__" 164 20
noncomputable def o22:Ob:=λ P=>tu #[(.type "ValueError")]
noncomputable def o29:Ob:=λ P=>tu #[]
noncomputable def o30:Ob:=λ P=>di #[dE P "__module__" 211 (.str "loomwright.errors" 202),dE P "__firstlineno__" 215 (.int 9 214),dR P "__static_attributes__" 216 29,dR P "__weakref__" 218 32,dE P "__doc__" 219 .none] 3
noncomputable def o31:Ob:=λ P=>⟨(.type "type"),none,(.cls ⟨"LoomError",[(.type "ValueError")],[(.ref 31),(.type "ValueError"),(.type "Exception"),(.type "BaseException"),(.type "object")],30,"LoomError",true,[],[(.ref 51),(.ref 70),(.ref 89),(.ref 108),(.ref 127),(.ref 139),(.ref 151),(.ref 163)],false,none,false⟩), #[(some (.ref 22)),none,(some (.str "LoomError" 204)),(some (.str "LoomError" 212)),(some (.builtin "ValueError.__new__")),(some (.bool true))]⟩
noncomputable def o32:Ob:=λ P=>⟨(.type "getset_descriptor"),none,(.fields #[(.str "__weakref__" 217),(.ref 31),(.builtin "ExceptionGroup.__weakref__"), .none]), #[]⟩
noncomputable def o35:Ob:=λ P=>tu #[(.ref 31)]
noncomputable def o42:Ob:=λ P=>tu #[]
noncomputable def o44:Ob:=λ P=>tu #[(.str "self" 237),(.str "row" 238),(.str "word" 239)]
noncomputable def o45:Ob:=λ P=>tu #[]
noncomputable def o47:Ob:=λ P=>co "__init__" "BadRow.__init__" 234 13 3 3 42 true 43 (.ref 44) (.ref 45) (.ref 46) 240 241
noncomputable def o48:Ob:=λ P=>fo "__init__" "BadRow.__init__" (Aq (top 7) 0) "loomwright.errors" 202 47
noncomputable def o49:Ob:=λ P=>tu #[(.str "row" 243),(.str "word" 244)]
noncomputable def o50:Ob:=λ P=>di #[dE P "__module__" 229 (.str "loomwright.errors" 202),dE P "__firstlineno__" 233 (.int 11 232),dR P "__init__" 242 48,dR P "__static_attributes__" 245 49,dE P "__doc__" 246 .none] 2
noncomputable def o51:Ob:=λ P=>⟨(.type "type"),none,(.cls ⟨"BadRow",[(.ref 31)],[(.ref 51),(.ref 31),(.type "ValueError"),(.type "Exception"),(.type "BaseException"),(.type "object")],50,"BadRow",true,[],[],false,none,false⟩), #[(some (.ref 35)),none,(some (.str "BadRow" 222)),(some (.str "BadRow" 230)),(some (.builtin "ValueError.__new__")),(some (.bool true))]⟩
noncomputable def o54:Ob:=λ P=>tu #[(.ref 31)]
noncomputable def o61:Ob:=λ P=>tu #[]
noncomputable def o63:Ob:=λ P=>tu #[(.str "self" 264),(.str "place" 265)]
noncomputable def o64:Ob:=λ P=>tu #[]
noncomputable def o66:Ob:=λ P=>co "__init__" "BadWord.__init__" 261 19 2 3 61 true 62 (.ref 63) (.ref 64) (.ref 65) 266 267
noncomputable def o67:Ob:=λ P=>fo "__init__" "BadWord.__init__" (Aq (top 8) 0) "loomwright.errors" 202 66
noncomputable def o68:Ob:=λ P=>tu #[(.str "place" 269)]
noncomputable def o69:Ob:=λ P=>di #[dE P "__module__" 256 (.str "loomwright.errors" 202),dE P "__firstlineno__" 260 (.int 17 259),dR P "__init__" 268 67,dR P "__static_attributes__" 270 68,dE P "__doc__" 271 .none] 2
noncomputable def o70:Ob:=λ P=>⟨(.type "type"),none,(.cls ⟨"BadWord",[(.ref 31)],[(.ref 70),(.ref 31),(.type "ValueError"),(.type "Exception"),(.type "BaseException"),(.type "object")],69,"BadWord",true,[],[],false,none,false⟩), #[(some (.ref 54)),none,(some (.str "BadWord" 249)),(some (.str "BadWord" 257)),(some (.builtin "ValueError.__new__")),(some (.bool true))]⟩
noncomputable def o73:Ob:=λ P=>tu #[(.ref 31)]
noncomputable def o80:Ob:=λ P=>tu #[]
noncomputable def o82:Ob:=λ P=>tu #[(.str "self" 289),(.str "what" 290),(.str "many" 291)]
noncomputable def o83:Ob:=λ P=>tu #[]
noncomputable def o85:Ob:=λ P=>co "__init__" "TooMany.__init__" 286 24 3 3 80 true 81 (.ref 82) (.ref 83) (.ref 84) 292 293
noncomputable def o86:Ob:=λ P=>fo "__init__" "TooMany.__init__" (Aq (top 9) 0) "loomwright.errors" 202 85
noncomputable def o87:Ob:=λ P=>tu #[(.str "many" 295),(.str "what" 296)]
noncomputable def o88:Ob:=λ P=>di #[dE P "__module__" 281 (.str "loomwright.errors" 202),dE P "__firstlineno__" 285 (.int 22 284),dR P "__init__" 294 86,dR P "__static_attributes__" 297 87,dE P "__doc__" 298 .none] 2
noncomputable def o89:Ob:=λ P=>⟨(.type "type"),none,(.cls ⟨"TooMany",[(.ref 31)],[(.ref 89),(.ref 31),(.type "ValueError"),(.type "Exception"),(.type "BaseException"),(.type "object")],88,"TooMany",true,[],[],false,none,false⟩), #[(some (.ref 73)),none,(some (.str "TooMany" 274)),(some (.str "TooMany" 282)),(some (.builtin "ValueError.__new__")),(some (.bool true))]⟩
noncomputable def o92:Ob:=λ P=>tu #[(.ref 31)]
noncomputable def o99:Ob:=λ P=>tu #[]
noncomputable def SO:Ob:=λ P=>tu #[(.str "self" 316),(.str "what" 317),(.str "number" 318)]
noncomputable def XT:Ob:=λ P=>tu #[]
noncomputable def Vh:Ob:=λ P=>co "__init__" "NotPlain.__init__" 313 30 3 3 99 true 100 (.ref 101) (.ref 102) (.ref 103) 319 320
noncomputable def Tl:Ob:=λ P=>fo "__init__" "NotPlain.__init__" (Aq (top 10) 0) "loomwright.errors" 202 104
noncomputable def WQ:Ob:=λ P=>tu #[(.str "number" 322),(.str "what" 323)]
noncomputable def T9:Ob:=λ P=>di #[dE P "__module__" 308 (.str "loomwright.errors" 202),dE P "__firstlineno__" 312 (.int 28 311),dR P "__init__" 321 105,dR P "__static_attributes__" 324 106,dE P "__doc__" 325 .none] 2
noncomputable def Sy:Ob:=λ P=>⟨(.type "type"),none,(.cls ⟨"NotPlain",[(.ref 31)],[(.ref 108),(.ref 31),(.type "ValueError"),(.type "Exception"),(.type "BaseException"),(.type "object")],107,"NotPlain",true,[],[],false,none,false⟩), #[(some (.ref 92)),none,(some (.str "NotPlain" 301)),(some (.str "NotPlain" 309)),(some (.builtin "ValueError.__new__")),(some (.bool true))]⟩
noncomputable def W5:Ob:=λ P=>tu #[(.ref 31)]
noncomputable def X1:Ob:=λ P=>tu #[]
noncomputable def Xf:Ob:=λ P=>tu #[(.str "self" 343),(.str "row" 344),(.str "column" 345)]
noncomputable def VR:Ob:=λ P=>tu #[]
noncomputable def TY:Ob:=λ P=>co "__init__" "NotGrown.__init__" 340 36 3 3 118 true 119 (.ref 120) (.ref 121) (.ref 122) 346 347
noncomputable def WF:Ob:=λ P=>fo "__init__" "NotGrown.__init__" (Aq (top 11) 0) "loomwright.errors" 202 123
noncomputable def Sx:Ob:=λ P=>tu #[(.str "column" 349),(.str "row" 350)]
noncomputable def Xn:Ob:=λ P=>di #[dE P "__module__" 335 (.str "loomwright.errors" 202),dE P "__firstlineno__" 339 (.int 34 338),dR P "__init__" 348 124,dR P "__static_attributes__" 351 125,dE P "__doc__" 352 .none] 2
noncomputable def Ug:Ob:=λ P=>⟨(.type "type"),none,(.cls ⟨"NotGrown",[(.ref 31)],[(.ref 127),(.ref 31),(.type "ValueError"),(.type "Exception"),(.type "BaseException"),(.type "object")],126,"NotGrown",true,[],[],false,none,false⟩), #[(some (.ref 111)),none,(some (.str "NotGrown" 328)),(some (.str "NotGrown" 336)),(some (.builtin "ValueError.__new__")),(some (.bool true))]⟩
noncomputable def XQ:Ob:=λ P=>tu #[(.ref 31)]
noncomputable def TL:Ob:=λ P=>tu #[]
noncomputable def Sf:Ob:=λ P=>di #[dE P "__module__" 362 (.str "loomwright.errors" 202),dE P "__firstlineno__" 366 (.int 40 365),dR P "__static_attributes__" 367 137,dE P "__doc__" 368 .none] 2
noncomputable def X9:Ob:=λ P=>⟨(.type "type"),none,(.cls ⟨"BadDraft",[(.ref 31)],[(.ref 139),(.ref 31),(.type "ValueError"),(.type "Exception"),(.type "BaseException"),(.type "object")],138,"BadDraft",true,[],[],false,none,false⟩), #[(some (.ref 130)),none,(some (.str "BadDraft" 355)),(some (.str "BadDraft" 363)),(some (.builtin "ValueError.__new__")),(some (.bool true))]⟩
noncomputable def Wa:Ob:=λ P=>tu #[(.ref 31)]
noncomputable def Yq:Ob:=λ P=>tu #[]
noncomputable def Ul:Ob:=λ P=>di #[dE P "__module__" 378 (.str "loomwright.errors" 202),dE P "__firstlineno__" 382 (.int 42 381),dR P "__static_attributes__" 383 149,dE P "__doc__" 384 .none] 2
noncomputable def TH:Ob:=λ P=>⟨(.type "type"),none,(.cls ⟨"BadCloth",[(.ref 31)],[(.ref 151),(.ref 31),(.type "ValueError"),(.type "Exception"),(.type "BaseException"),(.type "object")],150,"BadCloth",true,[],[],false,none,false⟩), #[(some (.ref 142)),none,(some (.str "BadCloth" 371)),(some (.str "BadCloth" 379)),(some (.builtin "ValueError.__new__")),(some (.bool true))]⟩
noncomputable def Vl:Ob:=λ P=>tu #[(.ref 31)]
noncomputable def XS:Ob:=λ P=>tu #[]
noncomputable def U6:Ob:=λ P=>di #[dE P "__module__" 394 (.str "loomwright.errors" 202),dE P "__firstlineno__" 398 (.int 44 397),dR P "__static_attributes__" 399 161,dE P "__doc__" 400 .none] 2
noncomputable def UK:Ob:=λ P=>⟨(.type "type"),none,(.cls ⟨"OutOfPlace",[(.ref 31)],[(.ref 163),(.ref 31),(.type "ValueError"),(.type "Exception"),(.type "BaseException"),(.type "object")],162,"OutOfPlace",true,[],[],false,none,false⟩), #[(some (.ref 154)),none,(some (.str "OutOfPlace" 387)),(some (.str "OutOfPlace" 395)),(some (.builtin "ValueError.__new__")),(some (.bool true))]⟩
noncomputable def UT:Ob:=λ P=>tu #[]
noncomputable def Uk:Ob:=λ P=>tu #[(.str "number" 408)]
noncomputable def Xl:Ob:=λ P=>tu #[]
noncomputable def TQ:Ob:=λ P=>co "bit_of" "bit_of" 405 47 1 3 166 true 167 (.ref 168) (.ref 169) (.ref 170) 409 410
noncomputable def YF:Ob:=λ P=>fo "bit_of" "bit_of" (top 16) "loomwright.masks" 403 171
noncomputable def Uf:Ob:=λ P=>tu #[]
noncomputable def V7:Ob:=λ P=>tu #[(.str "numbers" 415),(.str "mask" 416),(.str "number" 417)]
noncomputable def Xc:Ob:=λ P=>tu #[]
noncomputable def Wz:Ob:=λ P=>co "mask_of" "mask_of" 412 49 1 3 173 true 174 (.ref 175) (.ref 176) (.ref 177) 418 419
noncomputable def S9:Ob:=λ P=>fo "mask_of" "mask_of" (top 17) "loomwright.masks" 403 178
noncomputable def Us:Ob:=λ P=>tu #[]
noncomputable def U3:Ob:=λ P=>tu #[(.str "most" 424)]
noncomputable def S1:Ob:=λ P=>tu #[]
noncomputable def T1:Ob:=λ P=>co "mask_to" "mask_to" 421 54 1 3 180 true 181 (.ref 182) (.ref 183) (.ref 184) 425 426
noncomputable def T8:Ob:=λ P=>fo "mask_to" "mask_to" (top 18) "loomwright.masks" 403 185
noncomputable def VF:Ob:=λ P=>tu #[]
noncomputable def Xs:Ob:=λ P=>tu #[(.str "mask" 431),(.str "number" 432)]
noncomputable def WC:Ob:=λ P=>tu #[]
noncomputable def W3:Ob:=λ P=>co "has_number" "has_number" 428 56 2 3 187 true 188 (.ref 189) (.ref 190) (.ref 191) 433 434
noncomputable def Yj:Ob:=λ P=>fo "has_number" "has_number" (top 19) "loomwright.masks" 403 192
noncomputable def Sd:Ob:=λ P=>tu #[]
noncomputable def Wb:Ob:=λ P=>co "numbers_of" "numbers_of" 436 58 1 3 194 true 195 .none .none (.ref 196) 439 440
noncomputable def Wc:Ob:=λ P=>fo "numbers_of" "numbers_of" (top 20) "loomwright.masks" 403 197
noncomputable def Vv:Ob:=λ P=>tu #[]
noncomputable def WP:Ob:=λ P=>tu #[(.str "masks" 445),(.str "union" 446),(.str "mask" 447)]
noncomputable def S2:Ob:=λ P=>tu #[]
noncomputable def Xm:Ob:=λ P=>co "union_of" "union_of" 442 60 1 3 199 true 200 (.ref 201) (.ref 202) (.ref 203) 448 449
noncomputable def S7:Ob:=λ P=>fo "union_of" "union_of" (top 21) "loomwright.masks" 403 204
noncomputable def Su:Ob:=λ P=>tu #[]
noncomputable def Ym:Ob:=λ P=>tu #[(.str "thing" 458)]
noncomputable def Tz:Ob:=λ P=>tu #[]
noncomputable def Xa:Ob:=λ P=>co "is_whole" "is_whole" 455 67 1 3 206 true 207 (.ref 208) (.ref 209) (.ref 210) 459 460
noncomputable def WW:Ob:=λ P=>fo "is_whole" "is_whole" (top 24) "loomwright.words" 451 211
noncomputable def Yr:Ob:=λ P=>tu #[]
noncomputable def VS:Ob:=λ P=>tu #[(.str "thing" 465),(.str "least" 466),(.str "most" 467)]
noncomputable def UB:Ob:=λ P=>tu #[]
noncomputable def T2:Ob:=λ P=>co "is_among" "is_among" 462 69 3 3 213 true 214 (.ref 215) (.ref 216) (.ref 217) 468 469
noncomputable def Tn:Ob:=λ P=>fo "is_among" "is_among" (top 25) "loomwright.words" 451 218
noncomputable def Th:Ob:=λ P=>tu #[]
noncomputable def VL:Ob:=λ P=>tu #[(.str "thing" 474)]
noncomputable def R9:Ob:=λ P=>tu #[]
noncomputable def TJ:Ob:=λ P=>co "is_colour" "is_colour" 471 71 1 3 220 true 221 (.ref 222) (.ref 223) (.ref 224) 475 476
noncomputable def VE:Ob:=λ P=>fo "is_colour" "is_colour" (top 26) "loomwright.words" 451 225
noncomputable def UL:Ob:=λ P=>tu #[]
noncomputable def Ys:Ob:=λ P=>co "need_cloth" "need_cloth" 480 74 2 3 227 true 228 .none .none (.ref 229) 483 484
noncomputable def Ve:Ob:=λ P=>fo "need_cloth" "need_cloth" (top 28) "loomwright.cloth" 478 230
noncomputable def VV:Ob:=λ P=>tu #[]
noncomputable def XU:Ob:=λ P=>tu #[(.str "self" 501),(.str "ends" 502),(.str "rows" 503)]
noncomputable def Td:Ob:=λ P=>tu #[]
noncomputable def X7:Ob:=λ P=>co "__init__" "Cloth.__init__" 498 83 3 3 239 true 240 (.ref 241) (.ref 242) (.ref 243) 504 505
noncomputable def W9:Ob:=λ P=>fo "__init__" "Cloth.__init__" (Aq (top 29) 0) "loomwright.cloth" 478 244
noncomputable def Vd:Ob:=λ P=>tu #[]
noncomputable def T3:Ob:=λ P=>tu #[(.str "self" 510)]
noncomputable def Vp:Ob:=λ P=>tu #[]
noncomputable def U9:Ob:=λ P=>co "told" "Cloth.told" 507 88 1 3 246 true 247 (.ref 248) (.ref 249) (.ref 250) 511 512
noncomputable def Wv:Ob:=λ P=>fo "told" "Cloth.told" (Aq (top 29) 1) "loomwright.cloth" 478 251
noncomputable def Vw:Ob:=λ P=>tu #[]
noncomputable def Vx:Ob:=λ P=>tu #[(.str "self" 517)]
noncomputable def Vo:Ob:=λ P=>tu #[]
noncomputable def Ur:Ob:=λ P=>co "ends" "Cloth.ends" 514 91 1 3 253 true 254 (.ref 255) (.ref 256) (.ref 257) 518 519
noncomputable def XG:Ob:=λ P=>fo "ends" "Cloth.ends" (Aq (top 29) 2) "loomwright.cloth" 478 258
noncomputable def Xp:Ob:=λ P=>tu #[]
noncomputable def YA:Ob:=λ P=>tu #[(.str "self" 524)]
noncomputable def SH:Ob:=λ P=>tu #[]
noncomputable def Vq:Ob:=λ P=>co "picks" "Cloth.picks" 521 94 1 3 260 true 261 (.ref 262) (.ref 263) (.ref 264) 525 526
noncomputable def Xj:Ob:=λ P=>fo "picks" "Cloth.picks" (Aq (top 29) 3) "loomwright.cloth" 478 265
noncomputable def SS:Ob:=λ P=>tu #[]
noncomputable def SA:Ob:=λ P=>tu #[(.str "self" 531),(.str "pick" 532)]
noncomputable def SG:Ob:=λ P=>tu #[]
noncomputable def VQ:Ob:=λ P=>co "row_at" "Cloth.row_at" 528 97 2 3 267 true 268 (.ref 269) (.ref 270) (.ref 271) 533 534
noncomputable def UW:Ob:=λ P=>fo "row_at" "Cloth.row_at" (Aq (top 29) 4) "loomwright.cloth" 478 272
noncomputable def Yo:Ob:=λ P=>tu #[]
noncomputable def VN:Ob:=λ P=>tu #[(.str "self" 539),(.str "end" 540)]
noncomputable def Wm:Ob:=λ P=>tu #[]
noncomputable def We:Ob:=λ P=>co "column_at" "Cloth.column_at" 536 100 2 3 274 true 275 (.ref 276) (.ref 277) (.ref 278) 541 542
noncomputable def V3:Ob:=λ P=>fo "column_at" "Cloth.column_at" (Aq (top 29) 5) "loomwright.cloth" 478 279
noncomputable def WA:Ob:=λ P=>tu #[]
noncomputable def Yu:Ob:=λ P=>tu #[(.str "self" 547),(.str "end" 548),(.str "pick" 549)]
noncomputable def Tp:Ob:=λ P=>tu #[]
noncomputable def Yl:Ob:=λ P=>co "is_up" "Cloth.is_up" 544 103 3 3 281 true 282 (.ref 283) (.ref 284) (.ref 285) 550 551
noncomputable def UD:Ob:=λ P=>fo "is_up" "Cloth.is_up" (Aq (top 29) 6) "loomwright.cloth" 478 286
noncomputable def W8:Ob:=λ P=>tu #[(.str "rows" 553),(.str "width" 554)]
noncomputable def S5:Ob:=λ P=>di #[dE P "__module__" 493 (.str "loomwright.cloth" 478),dE P "__firstlineno__" 497 (.int 81 496),dR P "__init__" 506 245,dR P "told" 513 252,dR P "ends" 520 259,dR P "picks" 527 266,dR P "row_at" 535 273,dR P "column_at" 543 280,dR P "is_up" 552 287,dR P "__static_attributes__" 555 288,dR P "__dict__" 557 291,dR P "__weakref__" 559 292,dE P "__doc__" 560 .none] 4
noncomputable def Tw:Ob:=λ P=>⟨(.type "type"),none,(.cls ⟨"Cloth",[(.type "object")],[(.ref 290),(.type "object")],289,"Cloth",true,[],[],false,none,false⟩), #[none,none,(some (.str "Cloth" 486)),(some (.str "Cloth" 494)),(some (.builtin "object.__new__")),(some (.bool true))]⟩
noncomputable def Ta:Ob:=λ P=>⟨(.type "getset_descriptor"),none,(.fields #[(.str "__dict__" 556),(.ref 290),(.builtin "function.__dict__"),(.builtin "function.__dict__#set")]), #[]⟩
noncomputable def WL:Ob:=λ P=>⟨(.type "getset_descriptor"),none,(.fields #[(.str "__weakref__" 558),(.ref 290),(.builtin "ExceptionGroup.__weakref__"), .none]), #[]⟩
noncomputable def Vf:Ob:=λ P=>tu #[]
noncomputable def Wr:Ob:=λ P=>tu #[(.str "holds" 568),(.str "words" 569)]
noncomputable def WE:Ob:=λ P=>tu #[]
noncomputable def Uy:Ob:=λ P=>co "need" "need" 565 106 2 3 295 true 296 (.ref 297) (.ref 298) (.ref 299) 570 571
noncomputable def Sb:Ob:=λ P=>fo "need" "need" (top 31) "loomwright.draft" 563 300
noncomputable def UE:Ob:=λ P=>tu #[]
noncomputable def Sl:Ob:=λ P=>tu #[(.str "thing" 576),(.str "least" 577),(.str "most" 578)]
noncomputable def Vk:Ob:=λ P=>tu #[]
noncomputable def X6:Ob:=λ P=>co "is_list" "is_list" 573 109 3 3 302 true 303 (.ref 304) (.ref 305) (.ref 306) 579 580
noncomputable def Sc:Ob:=λ P=>fo "is_list" "is_list" (top 32) "loomwright.draft" 563 307
noncomputable def TW:Ob:=λ P=>tu #[]
noncomputable def XC:Ob:=λ P=>tu #[(.str "thing" 585),(.str "most" 586),(.str "last" 587),(.str "number" 588)]
noncomputable def So:Ob:=λ P=>tu #[]
noncomputable def XV:Ob:=λ P=>co "is_rising" "is_rising" 582 111 2 3 309 true 310 (.ref 311) (.ref 312) (.ref 313) 589 590
noncomputable def Xi:Ob:=λ P=>fo "is_rising" "is_rising" (top 33) "loomwright.draft" 563 314
noncomputable def Uu:Ob:=λ P=>tu #[]
noncomputable def TX:Ob:=λ P=>co "are_rising" "are_rising" 592 120 2 3 316 true 317 .none .none (.ref 318) 595 596
noncomputable def WY:Ob:=λ P=>fo "are_rising" "are_rising" (top 34) "loomwright.draft" 563 319
noncomputable def Sg:Ob:=λ P=>tu #[]
noncomputable def Ue:Ob:=λ P=>co "are_colours" "are_colours" 598 122 2 3 321 true 322 .none .none (.ref 323) 601 602
noncomputable def Ut:Ob:=λ P=>fo "are_colours" "are_colours" (top 35) "loomwright.draft" 563 324
noncomputable def Ub:Ob:=λ P=>tu #[]
noncomputable def Xr:Ob:=λ P=>co "need_draft" "need_draft" 604 124 7 3 326 true 327 .none .none (.ref 328) 607 608
noncomputable def XE:Ob:=λ P=>fo "need_draft" "need_draft" (top 36) "loomwright.draft" 563 329
noncomputable def Uv:Ob:=λ P=>tu #[]
noncomputable def VH:Ob:=λ P=>co "__init__" "Draft.__init__" 622 137 8 3 338 true 339 .none .none (.ref 340) 625 626
noncomputable def Ui:Ob:=λ P=>fo "__init__" "Draft.__init__" (Aq (top 37) 0) "loomwright.draft" 563 341
noncomputable def VY:Ob:=λ P=>tu #[]
noncomputable def XO:Ob:=λ P=>co "told" "Draft.told" 628 147 1 3 343 true 344 .none .none (.ref 345) 631 632
noncomputable def Wq:Ob:=λ P=>fo "told" "Draft.told" (Aq (top 37) 1) "loomwright.draft" 563 346
noncomputable def Yz:Ob:=λ P=>tu #[]
noncomputable def SD:Ob:=λ P=>tu #[(.str "self" 637)]
noncomputable def Uj:Ob:=λ P=>tu #[]
noncomputable def UG:Ob:=λ P=>co "ends" "Draft.ends" 634 150 1 3 348 true 349 (.ref 350) (.ref 351) (.ref 352) 638 639
noncomputable def W2:Ob:=λ P=>fo "ends" "Draft.ends" (Aq (top 37) 2) "loomwright.draft" 563 353
noncomputable def Xy:Ob:=λ P=>tu #[]
noncomputable def Up:Ob:=λ P=>tu #[(.str "self" 644)]
noncomputable def SX:Ob:=λ P=>tu #[]
noncomputable def Wd:Ob:=λ P=>co "picks" "Draft.picks" 641 153 1 3 355 true 356 (.ref 357) (.ref 358) (.ref 359) 645 646
noncomputable def Yi:Ob:=λ P=>fo "picks" "Draft.picks" (Aq (top 37) 3) "loomwright.draft" 563 360
noncomputable def Xq:Ob:=λ P=>tu #[(.str "shafts" 648),(.str "threading" 649),(.str "ties" 650),(.str "treading" 651),(.str "treadles" 652),(.str "warp" 653),(.str "weft" 654)]
noncomputable def YE:Ob:=λ P=>di #[dE P "__module__" 617 (.str "loomwright.draft" 563),dE P "__firstlineno__" 621 (.int 135 620),dR P "__init__" 627 342,dR P "told" 633 347,dR P "ends" 640 354,dR P "picks" 647 361,dR P "__static_attributes__" 655 362,dR P "__dict__" 657 365,dR P "__weakref__" 659 366,dE P "__doc__" 660 .none] 4
noncomputable def S8:Ob:=λ P=>⟨(.type "type"),none,(.cls ⟨"Draft",[(.type "object")],[(.ref 364),(.type "object")],363,"Draft",true,[],[],false,none,false⟩), #[none,none,(some (.str "Draft" 610)),(some (.str "Draft" 618)),(some (.builtin "object.__new__")),(some (.bool true))]⟩
noncomputable def UF:Ob:=λ P=>⟨(.type "getset_descriptor"),none,(.fields #[(.str "__dict__" 656),(.ref 364),(.builtin "function.__dict__"),(.builtin "function.__dict__#set")]), #[]⟩
noncomputable def WG:Ob:=λ P=>⟨(.type "getset_descriptor"),none,(.fields #[(.str "__weakref__" 658),(.ref 364),(.builtin "ExceptionGroup.__weakref__"), .none]), #[]⟩
noncomputable def X5:Ob:=λ P=>tu #[]
noncomputable def WO:Ob:=λ P=>co "shafts_but" "shafts_but" 663 155 3 3 369 true 370 .none .none (.ref 371) 666 667
noncomputable def VC:Ob:=λ P=>fo "shafts_but" "shafts_but" (top 38) "loomwright.draft" 563 372
noncomputable def Vy:Ob:=λ P=>tu #[]
noncomputable def VZ:Ob:=λ P=>co "lift_by" "lift_by" 671 158 2 3 374 true 375 .none .none (.ref 376) 674 675
noncomputable def Uq:Ob:=λ P=>fo "lift_by" "lift_by" (top 40) "loomwright.weaving" 669 377
noncomputable def TK:Ob:=λ P=>tu #[]
noncomputable def Vs:Ob:=λ P=>co "ends_through" "ends_through" 677 160 2 3 379 true 380 .none .none (.ref 381) 680 681
noncomputable def Tg:Ob:=λ P=>fo "ends_through" "ends_through" (top 41) "loomwright.weaving" 669 382
noncomputable def YG:Ob:=λ P=>tu #[]
noncomputable def VA:Ob:=λ P=>co "shaft_ends" "shaft_ends" 683 162 2 3 384 true 385 .none .none (.ref 386) 686 687
noncomputable def Te:Ob:=λ P=>fo "shaft_ends" "shaft_ends" (top 42) "loomwright.weaving" 669 387
noncomputable def SZ:Ob:=λ P=>tu #[]
noncomputable def Vt:Ob:=λ P=>co "row_by" "row_by" 689 164 2 3 389 true 390 .none .none (.ref 391) 692 693
noncomputable def U0:Ob:=λ P=>fo "row_by" "row_by" (top 43) "loomwright.weaving" 669 392
noncomputable def Yp:Ob:=λ P=>tu #[]
noncomputable def V6:Ob:=λ P=>tu #[(.str "draft" 712),(.str "fault" 713),(.str "threading" 714)]
noncomputable def XA:Ob:=λ P=>tu #[]
noncomputable def S3:Ob:=λ P=>co "threading_with" "threading_with" 709 173 2 3 394 true 395 (.ref 396) (.ref 397) (.ref 398) 715 716
noncomputable def XF:Ob:=λ P=>fo "threading_with" "threading_with" (top 51) "loomwright.gear" 695 399
noncomputable def Xx:Ob:=λ P=>tu #[]
noncomputable def VM:Ob:=λ P=>co "ties_with" "ties_with" 718 180 2 3 401 true 402 .none .none (.ref 403) 721 722
noncomputable def Yh:Ob:=λ P=>fo "ties_with" "ties_with" (top 52) "loomwright.gear" 695 404
noncomputable def Tx:Ob:=λ P=>tu #[]
noncomputable def XY:Ob:=λ P=>tu #[(.str "draft" 727),(.str "fault" 728),(.str "carried" 729)]
noncomputable def YH:Ob:=λ P=>tu #[]
noncomputable def Xu:Ob:=λ P=>co "carried_with" "carried_with" 724 185 2 3 406 true 407 (.ref 408) (.ref 409) (.ref 410) 730 731
noncomputable def Tv:Ob:=λ P=>fo "carried_with" "carried_with" (top 53) "loomwright.gear" 695 411
noncomputable def UJ:Ob:=λ P=>tu #[]
noncomputable def VO:Ob:=λ P=>tu #[(.str "self" 748),(.str "draft" 749),(.str "fault" 750),(.str "told" 751)]
noncomputable def VU:Ob:=λ P=>tu #[]
noncomputable def V2:Ob:=λ P=>co "__init__" "Gear.__init__" 745 192 3 3 420 true 421 (.ref 422) (.ref 423) (.ref 424) 752 753
noncomputable def TM:Ob:=λ P=>fo "__init__" "Gear.__init__" (Aq (top 54) 0) "loomwright.gear" 695 425
noncomputable def Wf:Ob:=λ P=>tu #[]
noncomputable def Tm:Ob:=λ P=>tu #[(.str "self" 758),(.str "treadles" 759)]
noncomputable def X0:Ob:=λ P=>tu #[]
noncomputable def Vm:Ob:=λ P=>co "row_of" "Gear.row_of" 755 198 2 3 427 true 428 (.ref 429) (.ref 430) (.ref 431) 760 761
noncomputable def WK:Ob:=λ P=>fo "row_of" "Gear.row_of" (Aq (top 54) 1) "loomwright.gear" 695 432
noncomputable def TR:Ob:=λ P=>tu #[(.str "always_up" 763),(.str "carried" 764),(.str "tied" 765)]
noncomputable def Wu:Ob:=λ P=>di #[dE P "__module__" 740 (.str "loomwright.gear" 695),dE P "__firstlineno__" 744 (.int 190 743),dR P "__init__" 754 426,dR P "row_of" 762 433,dR P "__static_attributes__" 766 434,dR P "__dict__" 768 437,dR P "__weakref__" 770 438,dE P "__doc__" 771 .none] 4
noncomputable def Yx:Ob:=λ P=>⟨(.type "type"),none,(.cls ⟨"Gear",[(.type "object")],[(.ref 436),(.type "object")],435,"Gear",true,[],[],false,none,false⟩), #[none,none,(some (.str "Gear" 733)),(some (.str "Gear" 741)),(some (.builtin "object.__new__")),(some (.bool true))]⟩
noncomputable def W4:Ob:=λ P=>⟨(.type "getset_descriptor"),none,(.fields #[(.str "__dict__" 767),(.ref 436),(.builtin "function.__dict__"),(.builtin "function.__dict__#set")]), #[]⟩
noncomputable def YC:Ob:=λ P=>⟨(.type "getset_descriptor"),none,(.fields #[(.str "__weakref__" 769),(.ref 436),(.builtin "ExceptionGroup.__weakref__"), .none]), #[]⟩
noncomputable def Uh:Ob:=λ P=>tu #[]
noncomputable def XZ:Ob:=λ P=>co "lone_faults" "lone_faults" 776 201 2 3 441 true 442 .none .none (.ref 443) 779 780
noncomputable def Yk:Ob:=λ P=>fo "lone_faults" "lone_faults" (top 56) "loomwright.faults" 774 444
noncomputable def V1:Ob:=λ P=>tu #[]
noncomputable def WZ:Ob:=λ P=>co "shaft_faults" "shaft_faults" 782 203 2 3 446 true 447 .none .none (.ref 448) 785 786
noncomputable def Ti:Ob:=λ P=>fo "shaft_faults" "shaft_faults" (top 57) "loomwright.faults" 774 449
noncomputable def Sv:Ob:=λ P=>tu #[]
noncomputable def Si:Ob:=λ P=>co "all_faults" "all_faults" 788 208 1 3 451 true 452 .none .none (.ref 453) 791 792
noncomputable def TC:Ob:=λ P=>fo "all_faults" "all_faults" (top 58) "loomwright.faults" 774 454
noncomputable def X4:Ob:=λ P=>tu #[]
noncomputable def XR:Ob:=λ P=>co "is_fault" "is_fault" 794 215 2 3 456 true 457 .none .none (.ref 458) 797 798
noncomputable def Sz:Ob:=λ P=>fo "is_fault" "is_fault" (top 59) "loomwright.faults" 774 459
noncomputable def Wl:Ob:=λ P=>tu #[.none]
noncomputable def Ux:Ob:=λ P=>tu #[]
noncomputable def SJ:Ob:=λ P=>tu #[(.str "self" 817),(.str "draft" 818),(.str "fault" 819)]
noncomputable def Vi:Ob:=λ P=>tu #[]
noncomputable def XD:Ob:=λ P=>co "__init__" "Loom.__init__" 814 222 3 3 469 true 470 (.ref 471) (.ref 472) (.ref 473) 820 821
noncomputable def W7:Ob:=λ P=>⟨(.type "function"),none,(.func (fnOf "__init__" "Loom.__init__" (Bg (Aq (top 61) 0)) (AY (Aq (top 61) 0)) (Af (Aq (top 61) 0)) (.ref 468) .none .none (.str "loomwright.loom" 800) none (.ref 474) .none)), #[]⟩
noncomputable def Wi:Ob:=λ P=>tu #[]
noncomputable def T7:Ob:=λ P=>tu #[(.str "self" 826),(.str "row" 827)]
noncomputable def SY:Ob:=λ P=>tu #[]
noncomputable def Sw:Ob:=λ P=>co "step" "Loom.step" 823 230 1 3 476 true 477 (.ref 478) (.ref 479) (.ref 480) 828 829
noncomputable def TU:Ob:=λ P=>fo "step" "Loom.step" (Aq (top 61) 1) "loomwright.loom" 800 481
noncomputable def WM:Ob:=λ P=>tu #[]
noncomputable def SV:Ob:=λ P=>tu #[(.str "self" 834)]
noncomputable def SM:Ob:=λ P=>tu #[]
noncomputable def X8:Ob:=λ P=>co "pick" "Loom.pick" 831 237 1 3 483 true 484 (.ref 485) (.ref 486) (.ref 487) 835 836
noncomputable def Ws:Ob:=λ P=>fo "pick" "Loom.pick" (Aq (top 61) 2) "loomwright.loom" 800 488
noncomputable def UU:Ob:=λ P=>tu #[]
noncomputable def Uz:Ob:=λ P=>tu #[(.str "self" 841)]
noncomputable def SQ:Ob:=λ P=>tu #[]
noncomputable def Xb:Ob:=λ P=>co "cloth" "Loom.cloth" 838 240 1 3 490 true 491 (.ref 492) (.ref 493) (.ref 494) 842 843
noncomputable def Tf:Ob:=λ P=>fo "cloth" "Loom.cloth" (Aq (top 61) 3) "loomwright.loom" 800 495
noncomputable def YB:Ob:=λ P=>tu #[(.str "done" 845),(.str "gear" 846),(.str "treading" 847),(.str "width" 848)]
noncomputable def UO:Ob:=λ P=>di #[dE P "__module__" 809 (.str "loomwright.loom" 800),dE P "__firstlineno__" 813 (.int 220 812),dR P "__init__" 822 475,dR P "step" 830 482,dR P "pick" 837 489,dR P "cloth" 844 496,dR P "__static_attributes__" 849 497,dR P "__dict__" 851 500,dR P "__weakref__" 853 501,dE P "__doc__" 854 .none] 4
noncomputable def Xd:Ob:=λ P=>⟨(.type "type"),none,(.cls ⟨"Loom",[(.type "object")],[(.ref 499),(.type "object")],498,"Loom",true,[],[],false,none,false⟩), #[none,none,(some (.str "Loom" 802)),(some (.str "Loom" 810)),(some (.builtin "object.__new__")),(some (.bool true))]⟩
noncomputable def Vj:Ob:=λ P=>⟨(.type "getset_descriptor"),none,(.fields #[(.str "__dict__" 850),(.ref 499),(.builtin "function.__dict__"),(.builtin "function.__dict__#set")]), #[]⟩
noncomputable def WN:Ob:=λ P=>⟨(.type "getset_descriptor"),none,(.fields #[(.str "__weakref__" 852),(.ref 499),(.builtin "ExceptionGroup.__weakref__"), .none]), #[]⟩
noncomputable def To:Ob:=λ P=>tu #[]
noncomputable def XJ:Ob:=λ P=>tu #[(.str "draft" 860),(.str "fault" 861),(.str "loom" 862)]
noncomputable def Wo:Ob:=λ P=>tu #[]
noncomputable def VP:Ob:=λ P=>co "woven_with" "woven_with" 857 244 2 3 504 true 505 (.ref 506) (.ref 507) (.ref 508) 863 864
noncomputable def Uo:Ob:=λ P=>fo "woven_with" "woven_with" (top 62) "loomwright.loom" 800 509
noncomputable def WB:Ob:=λ P=>tu #[]
noncomputable def Tb:Ob:=λ P=>tu #[(.str "_law_cell" 871),(.str "_law_k" 872)]
noncomputable def W1:Ob:=λ P=>tu #[]
noncomputable def Vz:Ob:=λ P=>co "_law_mixed" "_law_mixed" 868 250 2 3 511 true 512 (.ref 513) (.ref 514) (.ref 515) 873 874
noncomputable def UZ:Ob:=λ P=>fo "_law_mixed" "_law_mixed" (top 64) "law_loomwright_k29_a_loom_step_by_step" 866 516
noncomputable def SN:Ob:=λ P=>tu #[]
noncomputable def U8:Ob:=λ P=>co "_law_cells" "_law_cells" 876 253 2 3 518 true 519 .none .none (.ref 520) 879 880
noncomputable def Vb:Ob:=λ P=>fo "_law_cells" "_law_cells" (top 65) "law_loomwright_k29_a_loom_step_by_step" 866 521
noncomputable def WV:Ob:=λ P=>tu #[]
noncomputable def Yd:Ob:=λ P=>co "_law_numbers" "_law_numbers" 882 256 2 3 523 true 524 .none .none (.ref 525) 885 886
noncomputable def Wt:Ob:=λ P=>fo "_law_numbers" "_law_numbers" (top 66) "law_loomwright_k29_a_loom_step_by_step" 866 526
noncomputable def Wn:Ob:=λ P=>tu #[]
noncomputable def U5:Ob:=λ P=>co "_law_draft" "_law_draft" 888 258 2 3 528 true 529 .none .none (.ref 530) 891 892
noncomputable def Tk:Ob:=λ P=>fo "_law_draft" "_law_draft" (top 67) "law_loomwright_k29_a_loom_step_by_step" 866 531
noncomputable def Vc:Ob:=λ P=>tu #[]
noncomputable def V8:Ob:=λ P=>tu #[(.str "_law_told" 897)]
noncomputable def Xz:Ob:=λ P=>tu #[]
noncomputable def Um:Ob:=λ P=>co "_law_made" "_law_made" 894 272 1 3 533 true 534 (.ref 535) (.ref 536) (.ref 537) 898 899
noncomputable def VG:Ob:=λ P=>fo "_law_made" "_law_made" (top 68) "law_loomwright_k29_a_loom_step_by_step" 866 538
noncomputable def WX:Ob:=λ P=>tu #[]
noncomputable def SF:Ob:=λ P=>co "_law_kinds" "_law_kinds" 901 274 1 3 540 true 541 .none .none (.ref 542) 904 905
noncomputable def VX:Ob:=λ P=>fo "_law_kinds" "_law_kinds" (top 69) "law_loomwright_k29_a_loom_step_by_step" 866 543
noncomputable def Yt:Ob:=λ P=>tu #[]
noncomputable def UY:Ob:=λ P=>co "_law_whole" "_law_whole" 907 281 1 3 545 true 546 .none .none (.ref 547) 910 911
noncomputable def Sr:Ob:=λ P=>fo "_law_whole" "_law_whole" (top 70) "law_loomwright_k29_a_loom_step_by_step" 866 548
noncomputable def WT:Ob:=λ P=>tu #[]
noncomputable def UN:Ob:=λ P=>co "_law_all_faults" "_law_all_faults" 913 283 1 3 550 true 551 .none .none (.ref 552) 916 917
noncomputable def Sq:Ob:=λ P=>fo "_law_all_faults" "_law_all_faults" (top 71) "law_loomwright_k29_a_loom_step_by_step" 866 553
noncomputable def WD:Ob:=λ P=>tu #[]
noncomputable def Tr:Ob:=λ P=>tu #[(.str "_law_told" 922),(.str "_law_fault" 923),(.str "_law_pick" 924),(.str "_law_found" 925),(.str "_law_treadle" 926),(.str "_law_shaft" 927),(.str "_law_is_tied" 928)]
noncomputable def U2:Ob:=λ P=>tu #[]
noncomputable def Sk:Ob:=λ P=>co "_law_lifted" "_law_lifted" 919 293 3 3 555 true 556 (.ref 557) (.ref 558) (.ref 559) 929 930
noncomputable def XI:Ob:=λ P=>fo "_law_lifted" "_law_lifted" (top 72) "law_loomwright_k29_a_loom_step_by_step" 866 560
noncomputable def Uw:Ob:=λ P=>tu #[]
noncomputable def Yb:Ob:=λ P=>tu #[(.str "_law_told" 935),(.str "_law_fault" 936),(.str "_law_pick" 937),(.str "_law_lifted_here" 938),(.str "_law_row_here" 939),(.str "_law_end" 940),(.str "_law_shaft" 941)]
noncomputable def V5:Ob:=λ P=>tu #[]
noncomputable def Vn:Ob:=λ P=>co "_law_row" "_law_row" 932 307 3 3 562 true 563 (.ref 564) (.ref 565) (.ref 566) 942 943
noncomputable def Ud:Ob:=λ P=>fo "_law_row" "_law_row" (top 73) "law_loomwright_k29_a_loom_step_by_step" 866 567
noncomputable def Wg:Ob:=λ P=>tu #[]
noncomputable def TV:Ob:=λ P=>tu #[(.str "_law_asked" 948),(.str "_law_wrong" 949),(.str "e" 950)]
noncomputable def Xw:Ob:=λ P=>tu #[]
noncomputable def XH:Ob:=λ P=>co "_law_caught" "_law_caught" 945 316 1 3 569 true 570 (.ref 571) (.ref 572) (.ref 573) 951 952
noncomputable def U1:Ob:=λ P=>fo "_law_caught" "_law_caught" (top 74) "law_loomwright_k29_a_loom_step_by_step" 866 574
noncomputable def WJ:Ob:=λ P=>tu #[]
noncomputable def Ss:Ob:=λ P=>tu #[(.str "_law_loom" 957),(.str "_law_told" 958),(.str "_law_fault" 959),(.str "_law_done" 960),(.str "_law_due" 961),(.str "_law_found" 962),(.str "_law_cloth" 963)]
noncomputable def V0:Ob:=λ P=>tu #[]
noncomputable def TN:Ob:=λ P=>co "_law_steps" "_law_steps" 954 323 4 3 576 true 577 (.ref 578) (.ref 579) (.ref 580) 964 965
noncomputable def WH:Ob:=λ P=>fo "_law_steps" "_law_steps" (top 75) "law_loomwright_k29_a_loom_step_by_step" 866 581
noncomputable def UQ:Ob:=λ P=>tu #[]
noncomputable def XB:Ob:=λ P=>tu #[(.str "_law_script" 970),(.str "_law_told" 971),(.str "_law_whole_here" 972),(.str "_law_some" 973),(.str "_law_faults" 974),(.str "_law_handed" 975),(.str "_law_done" 976),(.str "_law_turn" 977),(.str "_law_k" 978),(.str "_law_fault" 979),(.str "_law_rows" 980),(.str "_law_odd" 981)]
noncomputable def V9:Ob:=λ P=>tu #[(.str "_law_draft_here" 982),(.str "_law_loom" 983),(.str "_law_wrong" 984)]
noncomputable def SB:Ob:=λ P=>co "law" "law" 967 334 1 3 583 true 584 (.ref 585) (.ref 586) (.ref 587) 985 986
noncomputable def Ua:Ob:=λ P=>fo "law" "law" (top 76) "law_loomwright_k29_a_loom_step_by_step" 866 588
noncomputable def YN (P:Params):List Obj:=V9 P::SB P::Ua P::[]
noncomputable def Y4 (P:Params):List Obj:=Wg P::TV P::Xw P::XH P::U1 P::WJ P::Ss P::V0 P::TN P::WH P::UQ P::XB P::YN P
noncomputable def Zb (P:Params):List Obj:=UN P::Sq P::WD P::Tr P::U2 P::Sk P::XI P::Uw P::Yb P::V5 P::Vn P::Ud P::Y4 P
noncomputable def Zi (P:Params):List Obj:=Vc P::V8 P::Xz P::Um P::VG P::WX P::SF P::VX P::Yt P::UY P::Sr P::WT P::Zb P
noncomputable def YK (P:Params):List Obj:=W1 P::Vz P::UZ P::SN P::U8 P::Vb P::WV P::Yd P::Wt P::Wn P::U5 P::Tk P::Zi P
noncomputable def YO (P:Params):List Obj:=YB P::UO P::Xd P::Vj P::WN P::To P::XJ P::Wo P::VP P::Uo P::WB P::Tb P::YK P
noncomputable def Zf (P:Params):List Obj:=Sw P::TU P::WM P::SV P::SM P::X8 P::Ws P::UU P::Uz P::SQ P::Xb P::Tf P::YO P
noncomputable def YR (P:Params):List Obj:=X4 P::XR P::Sz P::Wl P::Ux P::SJ P::Vi P::XD P::W7 P::Wi P::T7 P::SY P::Zf P
noncomputable def Y7 (P:Params):List Obj:=Yx P::W4 P::YC P::Uh P::XZ P::Yk P::V1 P::WZ P::Ti P::Sv P::Si P::TC P::YR P
noncomputable def Zl (P:Params):List Obj:=UJ P::VO P::VU P::V2 P::TM P::Wf P::Tm P::X0 P::Vm P::WK P::TR P::Wu P::Y7 P
noncomputable def Y9 (P:Params):List Obj:=V6 P::XA P::S3 P::XF P::Xx P::VM P::Yh P::Tx P::XY P::YH P::Xu P::Tv P::Zl P
noncomputable def YQ (P:Params):List Obj:=VZ P::Uq P::TK P::Vs P::Tg P::YG P::VA P::Te P::SZ P::Vt P::U0 P::Yp P::Y9 P
noncomputable def Zg (P:Params):List Obj:=SX P::Wd P::Yi P::Xq P::YE P::S8 P::UF P::WG P::X5 P::WO P::VC P::Vy P::YQ P
noncomputable def Y2 (P:Params):List Obj:=VH P::Ui P::VY P::XO P::Wq P::Yz P::SD P::Uj P::UG P::W2 P::Xy P::Up P::Zg P
noncomputable def YT (P:Params):List Obj:=XV P::Xi P::Uu P::TX P::WY P::Sg P::Ue P::Ut P::Ub P::Xr P::XE P::Uv P::Y2 P
noncomputable def Zk (P:Params):List Obj:=Wr P::WE P::Uy P::Sb P::UE P::Sl P::Vk P::X6 P::Sc P::TW P::XC P::So P::YT P
noncomputable def Zc (P:Params):List Obj:=V3 P::WA P::Yu P::Tp P::Yl P::UD P::W8 P::S5 P::Tw P::Ta P::WL P::Vf P::Zk P
noncomputable def YI (P:Params):List Obj:=SH P::Vq P::Xj P::SS P::SA P::SG P::VQ P::UW P::Yo P::VN P::Wm P::We P::Zc P
noncomputable def YS (P:Params):List Obj:=Vd P::T3 P::Vp P::U9 P::Wv P::Vw P::Vx P::Vo P::Ur P::XG P::Xp P::YA P::YI P
noncomputable def ob9 (P:Params):List Obj:=VL P::R9 P::TJ P::VE P::UL P::Ys P::Ve P::VV P::XU P::Td P::X7 P::W9 P::YS P
noncomputable def ob8 (P:Params):List Obj:=S7 P::Su P::Ym P::Tz P::Xa P::WW P::Yr P::VS P::UB P::T2 P::Tn P::Th P::ob9 P
noncomputable def ob7 (P:Params):List Obj:=VF P::Xs P::WC P::W3 P::Yj P::Sd P::Wb P::Wc P::Vv P::WP P::S2 P::Xm P::ob8 P
noncomputable def ob6 (P:Params):List Obj:=TQ P::YF P::Uf P::V7 P::Xc P::Wz P::S9 P::Us P::U3 P::S1 P::T1 P::T8 P::ob7 P
noncomputable def ob5 (P:Params):List Obj:=X9 P::Wa P::Yq P::Ul P::TH P::Vl P::XS P::U6 P::UK P::UT P::Uk P::Xl P::ob6 P
noncomputable def ob4 (P:Params):List Obj:=W5 P::X1 P::Xf P::VR P::TY P::WF P::Sx P::Xn P::Ug P::XQ P::TL P::Sf P::ob5 P
noncomputable def ob3 (P:Params):List Obj:=o87 P::o88 P::o89 P::o92 P::o99 P::SO P::XT P::Vh P::Tl P::WQ P::T9 P::Sy P::ob4 P
noncomputable def ob2 (P:Params):List Obj:=o64 P::o66 P::o67 P::o68 P::o69 P::o70 P::o73 P::o80 P::o82 P::o83 P::o85 P::o86 P::ob3 P
noncomputable def ob1 (P:Params):List Obj:=o35 P::o42 P::o44 P::o45 P::o47 P::o48 P::o49 P::o50 P::o51 P::o54 P::o61 P::o63 P::ob2 P
def ob0 (P:Params):List Obj:=boot_o_2 P::o3 P::o15 P::o17 P::o18 P::o20 P::o21 P::o22 P::o29 P::o30 P::o31 P::o32 P::ob1 P
def frag (P:Params):Frag:=(nat_lit 2,boot_o_2 P)::(nat_lit 3,o3 P)::(nat_lit 15,o15 P)::(nat_lit 17,o17 P)::(nat_lit 18,o18 P)::(nat_lit 20,o20 P)::(nat_lit 21,o21 P)::(nat_lit 22,o22 P)::(nat_lit 29,o29 P)::(nat_lit 30,o30 P)::(nat_lit 31,o31 P)::(nat_lit 32,o32 P)::(nat_lit 35,o35 P)::(nat_lit 42,o42 P)::(nat_lit 44,o44 P)::(nat_lit 45,o45 P)::(nat_lit 47,o47 P)::(nat_lit 48,o48 P)::(nat_lit 49,o49 P)::(nat_lit 50,o50 P)::(nat_lit 51,o51 P)::(nat_lit 54,o54 P)::(nat_lit 61,o61 P)::(nat_lit 63,o63 P)::(nat_lit 64,o64 P)::(nat_lit 66,o66 P)::(nat_lit 67,o67 P)::(nat_lit 68,o68 P)::(nat_lit 69,o69 P)::(nat_lit 70,o70 P)::(nat_lit 73,o73 P)::(nat_lit 80,o80 P)::(nat_lit 82,o82 P)::(nat_lit 83,o83 P)::(nat_lit 85,o85 P)::(nat_lit 86,o86 P)::(nat_lit 87,o87 P)::(nat_lit 88,o88 P)::(nat_lit 89,o89 P)::(nat_lit 92,o92 P)::(nat_lit 99,o99 P)::(nat_lit 101,SO P)::(nat_lit 102,XT P)::(nat_lit 104,Vh P)::(nat_lit 105,Tl P)::(nat_lit 106,WQ P)::(nat_lit 107,T9 P)::(nat_lit 108,Sy P)::(nat_lit 111,W5 P)::(nat_lit 118,X1 P)::(nat_lit 120,Xf P)::(nat_lit 121,VR P)::(nat_lit 123,TY P)::(nat_lit 124,WF P)::(nat_lit 125,Sx P)::(nat_lit 126,Xn P)::(nat_lit 127,Ug P)::(nat_lit 130,XQ P)::(nat_lit 137,TL P)::(nat_lit 138,Sf P)::(nat_lit 139,X9 P)::(nat_lit 142,Wa P)::(nat_lit 149,Yq P)::(nat_lit 150,Ul P)::(nat_lit 151,TH P)::(nat_lit 154,Vl P)::(nat_lit 161,XS P)::(nat_lit 162,U6 P)::(nat_lit 163,UK P)::(nat_lit 166,UT P)::(nat_lit 168,Uk P)::(nat_lit 169,Xl P)::(nat_lit 171,TQ P)::(nat_lit 172,YF P)::(nat_lit 173,Uf P)::(nat_lit 175,V7 P)::(nat_lit 176,Xc P)::(nat_lit 178,Wz P)::(nat_lit 179,S9 P)::(nat_lit 180,Us P)::(nat_lit 182,U3 P)::(nat_lit 183,S1 P)::(nat_lit 185,T1 P)::(nat_lit 186,T8 P)::(nat_lit 187,VF P)::(nat_lit 189,Xs P)::(nat_lit 190,WC P)::(nat_lit 192,W3 P)::(nat_lit 193,Yj P)::(nat_lit 194,Sd P)::(nat_lit 197,Wb P)::(nat_lit 198,Wc P)::(nat_lit 199,Vv P)::(nat_lit 201,WP P)::(nat_lit 202,S2 P)::(nat_lit 204,Xm P)::(nat_lit 205,S7 P)::(nat_lit 206,Su P)::(nat_lit 208,Ym P)::(nat_lit 209,Tz P)::(nat_lit 211,Xa P)::(nat_lit 212,WW P)::(nat_lit 213,Yr P)::(nat_lit 215,VS P)::(nat_lit 216,UB P)::(nat_lit 218,T2 P)::(nat_lit 219,Tn P)::(nat_lit 220,Th P)::(nat_lit 222,VL P)::(nat_lit 223,R9 P)::(nat_lit 225,TJ P)::(nat_lit 226,VE P)::(nat_lit 227,UL P)::(nat_lit 230,Ys P)::(nat_lit 231,Ve P)::(nat_lit 239,VV P)::(nat_lit 241,XU P)::(nat_lit 242,Td P)::(nat_lit 244,X7 P)::(nat_lit 245,W9 P)::(nat_lit 246,Vd P)::(nat_lit 248,T3 P)::(nat_lit 249,Vp P)::(nat_lit 251,U9 P)::(nat_lit 252,Wv P)::(nat_lit 253,Vw P)::(nat_lit 255,Vx P)::(nat_lit 256,Vo P)::(nat_lit 258,Ur P)::(nat_lit 259,XG P)::(nat_lit 260,Xp P)::(nat_lit 262,YA P)::(nat_lit 263,SH P)::(nat_lit 265,Vq P)::(nat_lit 266,Xj P)::(nat_lit 267,SS P)::(nat_lit 269,SA P)::(nat_lit 270,SG P)::(nat_lit 272,VQ P)::(nat_lit 273,UW P)::(nat_lit 274,Yo P)::(nat_lit 276,VN P)::(nat_lit 277,Wm P)::(nat_lit 279,We P)::(nat_lit 280,V3 P)::(nat_lit 281,WA P)::(nat_lit 283,Yu P)::(nat_lit 284,Tp P)::(nat_lit 286,Yl P)::(nat_lit 287,UD P)::(nat_lit 288,W8 P)::(nat_lit 289,S5 P)::(nat_lit 290,Tw P)::(nat_lit 291,Ta P)::(nat_lit 292,WL P)::(nat_lit 295,Vf P)::(nat_lit 297,Wr P)::(nat_lit 298,WE P)::(nat_lit 300,Uy P)::(nat_lit 301,Sb P)::(nat_lit 302,UE P)::(nat_lit 304,Sl P)::(nat_lit 305,Vk P)::(nat_lit 307,X6 P)::(nat_lit 308,Sc P)::(nat_lit 309,TW P)::(nat_lit 311,XC P)::(nat_lit 312,So P)::(nat_lit 314,XV P)::(nat_lit 315,Xi P)::(nat_lit 316,Uu P)::(nat_lit 319,TX P)::(nat_lit 320,WY P)::(nat_lit 321,Sg P)::(nat_lit 324,Ue P)::(nat_lit 325,Ut P)::(nat_lit 326,Ub P)::(nat_lit 329,Xr P)::(nat_lit 330,XE P)::(nat_lit 338,Uv P)::(nat_lit 341,VH P)::(nat_lit 342,Ui P)::(nat_lit 343,VY P)::(nat_lit 346,XO P)::(nat_lit 347,Wq P)::(nat_lit 348,Yz P)::(nat_lit 350,SD P)::(nat_lit 351,Uj P)::(nat_lit 353,UG P)::(nat_lit 354,W2 P)::(nat_lit 355,Xy P)::(nat_lit 357,Up P)::(nat_lit 358,SX P)::(nat_lit 360,Wd P)::(nat_lit 361,Yi P)::(nat_lit 362,Xq P)::(nat_lit 363,YE P)::(nat_lit 364,S8 P)::(nat_lit 365,UF P)::(nat_lit 366,WG P)::(nat_lit 369,X5 P)::(nat_lit 372,WO P)::(nat_lit 373,VC P)::(nat_lit 374,Vy P)::(nat_lit 377,VZ P)::(nat_lit 378,Uq P)::(nat_lit 379,TK P)::(nat_lit 382,Vs P)::(nat_lit 383,Tg P)::(nat_lit 384,YG P)::(nat_lit 387,VA P)::(nat_lit 388,Te P)::(nat_lit 389,SZ P)::(nat_lit 392,Vt P)::(nat_lit 393,U0 P)::(nat_lit 394,Yp P)::(nat_lit 396,V6 P)::(nat_lit 397,XA P)::(nat_lit 399,S3 P)::(nat_lit 400,XF P)::(nat_lit 401,Xx P)::(nat_lit 404,VM P)::(nat_lit 405,Yh P)::(nat_lit 406,Tx P)::(nat_lit 408,XY P)::(nat_lit 409,YH P)::(nat_lit 411,Xu P)::(nat_lit 412,Tv P)::(nat_lit 420,UJ P)::(nat_lit 422,VO P)::(nat_lit 423,VU P)::(nat_lit 425,V2 P)::(nat_lit 426,TM P)::(nat_lit 427,Wf P)::(nat_lit 429,Tm P)::(nat_lit 430,X0 P)::(nat_lit 432,Vm P)::(nat_lit 433,WK P)::(nat_lit 434,TR P)::(nat_lit 435,Wu P)::(nat_lit 436,Yx P)::(nat_lit 437,W4 P)::(nat_lit 438,YC P)::(nat_lit 441,Uh P)::(nat_lit 444,XZ P)::(nat_lit 445,Yk P)::(nat_lit 446,V1 P)::(nat_lit 449,WZ P)::(nat_lit 450,Ti P)::(nat_lit 451,Sv P)::(nat_lit 454,Si P)::(nat_lit 455,TC P)::(nat_lit 456,X4 P)::(nat_lit 459,XR P)::(nat_lit 460,Sz P)::(nat_lit 468,Wl P)::(nat_lit 469,Ux P)::(nat_lit 471,SJ P)::(nat_lit 472,Vi P)::(nat_lit 474,XD P)::(nat_lit 475,W7 P)::(nat_lit 476,Wi P)::(nat_lit 478,T7 P)::(nat_lit 479,SY P)::(nat_lit 481,Sw P)::(nat_lit 482,TU P)::(nat_lit 483,WM P)::(nat_lit 485,SV P)::(nat_lit 486,SM P)::(nat_lit 488,X8 P)::(nat_lit 489,Ws P)::(nat_lit 490,UU P)::(nat_lit 492,Uz P)::(nat_lit 493,SQ P)::(nat_lit 495,Xb P)::(nat_lit 496,Tf P)::(nat_lit 497,YB P)::(nat_lit 498,UO P)::(nat_lit 499,Xd P)::(nat_lit 500,Vj P)::(nat_lit 501,WN P)::(nat_lit 504,To P)::(nat_lit 506,XJ P)::(nat_lit 507,Wo P)::(nat_lit 509,VP P)::(nat_lit 510,Uo P)::(nat_lit 511,WB P)::(nat_lit 513,Tb P)::(nat_lit 514,W1 P)::(nat_lit 516,Vz P)::(nat_lit 517,UZ P)::(nat_lit 518,SN P)::(nat_lit 521,U8 P)::(nat_lit 522,Vb P)::(nat_lit 523,WV P)::(nat_lit 526,Yd P)::(nat_lit 527,Wt P)::(nat_lit 528,Wn P)::(nat_lit 531,U5 P)::(nat_lit 532,Tk P)::(nat_lit 533,Vc P)::(nat_lit 535,V8 P)::(nat_lit 536,Xz P)::(nat_lit 538,Um P)::(nat_lit 539,VG P)::(nat_lit 540,WX P)::(nat_lit 543,SF P)::(nat_lit 544,VX P)::(nat_lit 545,Yt P)::(nat_lit 548,UY P)::(nat_lit 549,Sr P)::(nat_lit 550,WT P)::(nat_lit 553,UN P)::(nat_lit 554,Sq P)::(nat_lit 555,WD P)::(nat_lit 557,Tr P)::(nat_lit 558,U2 P)::(nat_lit 560,Sk P)::(nat_lit 561,XI P)::(nat_lit 562,Uw P)::(nat_lit 564,Yb P)::(nat_lit 565,V5 P)::(nat_lit 567,Vn P)::(nat_lit 568,Ud P)::(nat_lit 569,Wg P)::(nat_lit 571,TV P)::(nat_lit 572,Xw P)::(nat_lit 574,XH P)::(nat_lit 575,U1 P)::(nat_lit 576,WJ P)::(nat_lit 578,Ss P)::(nat_lit 579,V0 P)::(nat_lit 581,TN P)::(nat_lit 582,WH P)::(nat_lit 583,UQ P)::(nat_lit 585,XB P)::(nat_lit 586,V9 P)::(nat_lit 588,SB P)::(nat_lit 589,Ua P)::[]
noncomputable def addrs:List Addr:=[2,3,15,17,18,20,21,22,29,30,31,32,35,42,44,45,47,48,49,50,51,54,61,63,64,66,67,68,69,70,73,80,82,83,85,86,87,88,89,92,99,101,102,104,105,106,107,108,111,118,120,121,123,124,125,126,127,130,137,138,139,142,149,150,151,154,161,162,163,166,168,169,171,172,173,175,176,178,179,180,182,183,185,186,187,189,190,192,193,194,197,198,199,201,202,204,205,206,208,209,211,212,213,215,216,218,219,220,222,223,225,226,227,230,231,239,241,242,244,245,246,248,249,251,252,253,255,256,258,259,260,262,263,265,266,267,269,270,272,273,274,276,277,279,280,281,283,284,286,287,288,289,290,291,292,295,297,298,300,301,302,304,305,307,308,309,311,312,314,315,316,319,320,321,324,325,326,329,330,338,341,342,343,346,347,348,350,351,353,354,355,357,358,360,361,362,363,364,365,366,369,372,373,374,377,378,379,382,383,384,387,388,389,392,393,394,396,397,399,400,401,404,405,406,408,409,411,412,420,422,423,425,426,427,429,430,432,433,434,435,436,437,438,441,444,445,446,449,450,451,454,455,456,459,460,468,469,471,472,474,475,476,478,479,481,482,483,485,486,488,489,490,492,493,495,496,497,498,499,500,501,504,506,507,509,510,511,513,514,516,517,518,521,522,523,526,527,528,531,532,533,535,536,538,539,540,543,544,545,548,549,550,553,554,555,557,558,560,561,562,564,565,567,568,569,571,572,574,575,576,578,579,581,582,583,585,586,588,589]
def fr0 (P:Params):Frag:=addrs.zip (ob0 P)
theorem O5 (P:Params):frag P=fr0 P:=by kernel_rfl
noncomputable def view:Program:={ PySem.Challenge.pw_loomwright_k29_a_loom_step_by_step with main:={ PySem.Challenge.pw_loomwright_k29_a_loom_step_by_step.main with body:=[top 0,top 1,top 2,top 3,top 4,top 6,top 7,top 8,top 9,top 10,top 11,top 12,top 13,top 14,top 16,top 17,top 18,top 19,top 20,top 21,top 23,top 24,top 25,top 26,top 28,top 29,top 31,top 32,top 33,top 34,top 35,top 36,top 37,top 38,top 40,top 41,top 42,top 43,top 45,top 46,top 47,top 48,top 49,top 50,top 51,top 52,top 53,top 54,top 56,top 57,top 58,top 59,top 61,top 62,top 64,top 65,top 66,top 67,top 68,top 69,top 70,top 71,top 72,top 73,top 74,top 75,top 76] } }
noncomputable abbrev Xt:Shared->Bool:=λ s=>xlAt view [] s&&recOk (RowW.records PySem.Challenge.rw_loomwright_k29_a_loom_step_by_step.row.toRowW) s
noncomputable def tabs:List Addr:=[584]
theorem addrs_eq:∀ P:Params,addrs=(frag P).map (·.1):=λ _=>by kernel_rfl
abbrev hook:Hook:=kmHook frag addrs addrs_eq tabs
noncomputable def Nm:Ob:=λ P=>tu #[]
noncomputable def Qj:Ob:=λ P=>⟨.none,none,(.fields #[]), #[]⟩
noncomputable def Nr:Ob:=λ P=>co "<module>" "<module>" 182 1 0 0 11 false 12 .none .none .none 185 186
noncomputable def NQ:Ob:=λ P=>⟨(.type "frame"),none, .plain, #[(some (.ref 13)),(some (.ref 3)),(some (.ref 3)),none,(some (.str "__main__" 164)),none,(some (.ref 0))]⟩
def Rt (P:Params):BT:=(.node (boot_o_7 P) .nil .nil)
noncomputable def OS (P:Params):BT:=(.node (Nm P) .nil .nil)
def Qt (P:Params):BT:=(.node (boot_o_9 P) .nil .nil)
noncomputable def OG (P:Params):BT:=(.node (Nr P) .nil .nil)
def Qy (P:Params):BT:=(.node (boot_o_8 P) .nil .nil)
noncomputable def OW (P:Params):BT:=(.node (Qj P) .nil .nil)
def PF (P:Params):BT:=(.node (boot_o_10 P) .nil .nil)
noncomputable def Pa (P:Params):BT:=(.node (NQ P) .nil .nil)
def s0 (P:Params) (os:OsState):SharedT:=⟨(.node (boot_o_0 P) (.node (boot_o_1 P) (.node (boot_o_3 P) (Rt P) (OS P)) (.node (boot_o_5 P) (Qt P) (OG P))) (.node (boot_o_2 P) (.node (boot_o_4 P) (Qy P) (OW P)) (.node (boot_o_6 P) (PF P) (Pa P)))),15,{},Array.mk [],⟨0,0,0,0⟩,187,os⟩
def R0 (P:Params):BT:=(.node (boot_o_7 P) .nil .nil)
noncomputable def OZ (P:Params):BT:=(.node (Nm P) .nil .nil)
def Qx (P:Params):BT:=(.node (boot_o_9 P) .nil .nil)
noncomputable def PJ (P:Params):BT:=(.node (Nr P) .nil .nil)
def Rh (P:Params):BT:=(.node (boot_o_8 P) .nil .nil)
noncomputable def Pl (P:Params):BT:=(.node (Qj P) .nil .nil)
def O2 (P:Params):BT:=(.node (boot_o_10 P) .nil .nil)
noncomputable def Os (P:Params):BT:=(.node (NQ P) .nil .nil)
def s1 (P:Params) (os:OsState):SharedT:=⟨(.node (boot_o_0 P) (.node (boot_o_1 P) (.node (boot_o_3 P) (R0 P) (OZ P)) (.node (boot_o_5 P) (Qx P) (PJ P))) (.node (boot_o_2 P) (.node (boot_o_4 P) (Rh P) (Pl P)) (.node (boot_o_6 P) (O2 P) (Os P)))),15,{},Array.mk [],⟨0,0,0,0⟩,187,os⟩
noncomputable def Y8:Ob:=λ P=>di #[dE P "__name__" 165 (.str "loomwright.errors" 202),dE P "__doc__" 166 .none,dE P "__package__" 167 .none,dE P "__loader__" 168 (.builtin "__main__.__loader__#opaque"),dE P "__spec__" 169 .none,dR P "__annotations__" 170 6,dR P "__builtins__" 171 4,dE P "__file__" 173 (.str "/claim/cut.py" 172),dE P "__cached__" 174 .none,dR P "_wall" 193 21,dE P "MOST_SHAFTS" 195 (.int 16 194),dE P "MOST_TREADLES" 197 (.int 16 196),dE P "MOST_ENDS" 199 (.int 60 198),dE P "MOST_PICKS" 201 (.int 60 200),dR P "LoomError" 221 31,dR P "BadRow" 248 51] 16
noncomputable def Yg:Ob:=λ P=>⟨.none,none,(.fields #[(.int 1 0),(.int 0 0),(.ref 20),(.int 9 0),(.int 0 0),(.ref 27),(.int 11 0),(.int 0 0),(.ref 40)]), #[]⟩
noncomputable def Wk:Ob:=λ P=>⟨.none,none,(.fields #[]), #[]⟩
noncomputable def UV:Ob:=λ P=>⟨.none,none,(.func (f0 "_wall" "_wall" (top 0))), #[]⟩
noncomputable def Sm:Ob:=λ P=>⟨(.type "builtin_function_or_method"),none,(.fields #[(.builtin "type.__prepare__"),(.type "type")]), #[]⟩
noncomputable def Yy:Ob:=λ P=>di #[dE P "__module__" 211 (.str "loomwright.errors" 202),dE P "__qualname__" 213 (.str "LoomError" 212),dE P "__firstlineno__" 215 (.int 9 214),dR P "__static_attributes__" 216 29] 4
noncomputable def SI:Ob:=λ P=>tu #[]
noncomputable def XX:Ob:=λ P=>⟨.none,none,(.fields #[]), #[]⟩
noncomputable def VT:Ob:=λ P=>co "LoomError" "LoomError" 206 9 0 0 25 false 26 .none .none .none 209 210
noncomputable def Tj:Ob:=λ P=>⟨(.type "frame"),none, .plain, #[(some (.ref 27)),(some (.ref 3)),(some (.ref 24)),none,(some (.str "loomwright.errors" 202)),none,(some (.ref 0))]⟩
noncomputable def SK:Ob:=λ P=>⟨(.type "type"),none,(.cls ⟨"LoomError",[(.type "ValueError")],[(.ref 31),(.type "ValueError"),(.type "Exception"),(.type "BaseException"),(.type "object")],30,"LoomError",true,[],[(.ref 51)],false,none,false⟩), #[(some (.ref 22)),none,(some (.str "LoomError" 204)),(some (.str "LoomError" 212)),(some (.builtin "ValueError.__new__")),(some (.bool true))]⟩
noncomputable def Xk:Ob:=λ P=>⟨(.type "super"),none,(.fields #[(.ref 31),(.ref 31),(.ref 31)]), #[]⟩
noncomputable def Xe:Ob:=λ P=>⟨(.type "builtin_function_or_method"),none,(.fields #[(.builtin "object.__init_subclass__"),(.ref 31)]), #[]⟩
noncomputable def Sn:Ob:=λ P=>⟨(.type "builtin_function_or_method"),none,(.fields #[(.builtin "type.__prepare__"),(.type "type")]), #[]⟩
noncomputable def Vr:Ob:=λ P=>di #[dE P "__module__" 229 (.str "loomwright.errors" 202),dE P "__qualname__" 231 (.str "BadRow" 230),dE P "__firstlineno__" 233 (.int 11 232),dR P "__init__" 242 48,dR P "__static_attributes__" 245 49] 5
noncomputable def Vu:Ob:=λ P=>tu #[]
noncomputable def U7:Ob:=λ P=>⟨.none,none,(.fields #[(.int 13 0),(.int 4 0),(.ref 47)]), #[]⟩
noncomputable def WS:Ob:=λ P=>co "BadRow" "BadRow" 224 11 0 0 38 false 39 .none .none .none 227 228
noncomputable def VI:Ob:=λ P=>⟨(.type "frame"),none, .plain, #[(some (.ref 40)),(some (.ref 3)),(some (.ref 37)),none,(some (.str "loomwright.errors" 202)),none,(some (.ref 0))]⟩
noncomputable def Ww:Ob:=λ P=>⟨.none,none,(.fields #[]), #[]⟩
noncomputable def XM:Ob:=λ P=>⟨.none,none,(.func (f0 "__init__" "BadRow.__init__" (Aq (top 7) 0))), #[]⟩
noncomputable def T5:Ob:=λ P=>⟨(.type "super"),none,(.fields #[(.ref 51),(.ref 51),(.ref 51)]), #[]⟩
noncomputable def UR:Ob:=λ P=>⟨(.type "builtin_function_or_method"),none,(.fields #[(.builtin "object.__init_subclass__"),(.ref 51)]), #[]⟩
def Rg (P:Params):BT:=(.node (boot_o_7 P) (.node (o15 P) (.node (SK P) .nil .nil) (.node (o47 P) .nil .nil)) (.node (Sm P) (.node (U7 P) .nil .nil) .nil))
noncomputable def Pg (P:Params):BT:=(.node (Nm P) (.node (UV P) (.node (o35 P) .nil .nil) (.node (o51 P) .nil .nil)) (.node (VT P) (.node (Ww P) .nil .nil) .nil))
def QB (P:Params):BT:=(.node (boot_o_9 P) (.node (o17 P) (.node (Xk P) .nil .nil) (.node (o49 P) .nil .nil)) (.node (SI P) (.node (VI P) .nil .nil) .nil))
noncomputable def OX (P:Params):BT:=(.node (Nr P) (.node (o21 P) (.node (Vr P) .nil .nil) (.node (UR P) .nil .nil)) (.node (o29 P) (.node (o45 P) .nil .nil) .nil))
def Q6 (P:Params):BT:=(.node (boot_o_8 P) (.node (Wk P) (.node (o32 P) .nil .nil) (.node (o48 P) .nil .nil)) (.node (Yy P) (.node (WS P) .nil .nil) .nil))
noncomputable def Ow (P:Params):BT:=(.node (Yg P) (.node (o20 P) (.node (Sn P) .nil .nil) (.node (T5 P) .nil .nil)) (.node (Tj P) (.node (o44 P) .nil .nil) .nil))
def Pc (P:Params):BT:=(.node (boot_o_10 P) (.node (o18 P) (.node (Xe P) .nil .nil) (.node (o50 P) .nil .nil)) (.node (XX P) (.node (o42 P) .nil .nil) .nil))
noncomputable def O8 (P:Params):BT:=(.node (NQ P) (.node (o22 P) (.node (Vu P) .nil .nil) .nil) (.node (o30 P) (.node (XM P) .nil .nil) .nil))
def s2 (P:Params) (os:OsState):SharedT:=⟨(.node (boot_o_0 P) (.node (boot_o_1 P) (.node (Y8 P) (Rg P) (Pg P)) (.node (boot_o_5 P) (QB P) (OX P))) (.node (boot_o_2 P) (.node (boot_o_4 P) (Q6 P) (Ow P)) (.node (boot_o_6 P) (Pc P) (O8 P)))),54,{},Array.mk [],⟨0,0,0,0⟩,249,os⟩
noncomputable def env0:Env:={ scope:=PySem.Challenge.pw_loomwright_k29_a_loom_step_by_step.main.scope,locals:=mainNs,globals:=mainNs,cells:=[],code:= .ref 13,frame:=some 14 }
noncomputable def bd:List Stmt:=behindTheImports PySem.Challenge.pw_loomwright_k29_a_loom_step_by_step
noncomputable def cd0:Code:= .body bd env0
noncomputable def b0:List Stmt:=(bd.drop 0).take 8
noncomputable def b1:List Stmt:=bd.drop 8
noncomputable abbrev fuel:Nat:=12+(1+(517+9570))
theorem SL:(λ _=>true) (HX.topT treeTable view (aWorld 1) 0 none,HX.goT treeTable view (aWorld 1) 0 none,view,fr0,PySem.Challenge.rw_loomwright_k29_a_loom_step_by_step,cd0,b0,b1,s0,s1,s2)=true:=by k_qdec
theorem pre (w:World) (os:OsState):HX.goT treeTable PySem.Challenge.pw_loomwright_k29_a_loom_step_by_step w 11 (some (.ref 6)) 12 ⟨HX.bootT w.params,11,{},Array.mk [],boot_drawn,boot_toks,os⟩ (topStub PySem.Challenge.pw_loomwright_k29_a_loom_step_by_step)=some (s0 w.params os,⟨denote treeTable cd0,cd0,⟨0,0,0,0⟩,[topFrame ⟨0,0,0,0⟩]⟩):=by
  have _tw:=SL;rw [PySem.W.Fast.te16483141784210331187,PySem.W.Fast.te14364793385576792824,PySem.W.Fast.te11892475500146522536,PySem.W.Fast.te17015455735159598607,PySem.W.Fast.te1601875519105137172,PySem.W.Fast.te5418422550117673030];kernel_rfl
theorem block (w:World) (os:OsState):segRunT treeTable PySem.Challenge.pw_loomwright_k29_a_loom_step_by_step w 11 (some (.ref 6)) 1 1 (s0 w.params os) (blockOf bd env0 cd0 ⟨0,0,0,0⟩ [topFrame ⟨0,0,0,0⟩])=some (.next,s1 w.params os,cd0,⟨0,0,0,0⟩):=by
  rw [PySem.W.Fast.te10110043849684766642,PySem.W.Fast.te14364793385576792824,PySem.W.Fast.te17015455735159598607,PySem.W.Fast.te2625584472416640698,PySem.W.Fast.te5381635626466311200,PySem.W.Fast.te924846132689101100,PySem.W.Fast.te1601875519105137172,PySem.W.Fast.te5418422550117673030];kernel_rfl
theorem pc0 (w:World) (os:OsState):segRunT treeTable PySem.Challenge.pw_loomwright_k29_a_loom_step_by_step w 11 (some (.ref 6)) 1 517 (s1 w.params os) (piecesOf b0 env0 cd0 ⟨0,0,0,0⟩ [topFrame ⟨0,0,0,0⟩])=some (.next,s2 w.params os,cd0,⟨11,0,16,24⟩):=by
  rw [PySem.W.Fast.te10110043849684766642,PySem.W.Fast.te14364793385576792824,PySem.W.Fast.te2625584472416640698,PySem.W.Fast.te17373682658031312602,PySem.W.Fast.te18392389298003838876,PySem.W.Fast.te924846132689101100,PySem.W.Fast.te1601875519105137172,PySem.W.Fast.te5418422550117673030];kernel_rfl
theorem Zn (w:World) (os:OsState):(HX.topT treeTable PySem.Challenge.pw_loomwright_k29_a_loom_step_by_step w 11 (some (.ref 6)) 9570 (s2 w.params os) (restOf b1 env0 cd0 ⟨11,0,16,24⟩ [topFrame ⟨0,0,0,0⟩])).map (λ s=>((staticsOk (importedModules PySem.Challenge.pw_loomwright_k29_a_loom_step_by_step.main.body) (boot_heap w.params) s.abs.heap&&namesBound PySem.Challenge.pw_loomwright_k29_a_loom_step_by_step s.abs.heap&&gensDone s.abs&&laidKept (boot_heap w.params) s.abs.heap),(addrs.map s.abs.heap.get?,tabs.map s.abs.heap.get?)))=some (true,((fr0 w.params).map λ p=>some p.2,tabs.map λ _=>some (tabObj #[]))):=by
  rw [PySem.W.Fast.te5923862056798008813,PySem.W.Fast.te1971665816140614728,PySem.W.Fast.te14364793385576792824,PySem.W.Fast.te9621378704136392807,PySem.W.Fast.te17373682658031312602,PySem.W.Fast.te18179956587731223367,PySem.W.Fast.te924846132689101100,PySem.W.Fast.te1601875519105137172,PySem.W.Fast.te5418422550117673030];kernel_rfl
theorem Y0 (w:World) (os:OsState):(HX.topT treeTable PySem.Challenge.pw_loomwright_k29_a_loom_step_by_step w 11 (some (.ref 6)) 9570 (s2 w.params os) (restOf b1 env0 cd0 ⟨11,0,16,24⟩ [topFrame ⟨0,0,0,0⟩])).map (λ s=>(λ o=>(o.1,o.2.1,o.2.2.1,o.2.2.2.1)) (openSeen view [] (importedModules PySem.Challenge.pw_loomwright_k29_a_loom_step_by_step.main.body) Xt true s.abs))=some (expectedOf view,bltViewBooted,true,true):=by
  unfold Xt;rw [PySem.W.Fast.te5923862056798008813,PySem.W.Fast.te4187177175401517315,PySem.W.Fast.te2368527892694137696,PySem.W.Fast.te17067896673024979097,PySem.W.Fast.te6100277682786485075,PySem.W.Fast.te14364793385576792824,PySem.W.Fast.te9621378704136392807,PySem.W.Fast.te17373682658031312602,PySem.W.Fast.te18179956587731223367,PySem.W.Fast.te924846132689101100,PySem.W.Fast.te1601875519105137172,PySem.W.Fast.te5418422550117673030];kernel_rfl
theorem Ze (w:World) (os:OsState):(HX.topT treeTable PySem.Challenge.pw_loomwright_k29_a_loom_step_by_step w 11 (some (.ref 6)) 9570 (s2 w.params os) (restOf b1 env0 cd0 ⟨11,0,16,24⟩ [topFrame ⟨0,0,0,0⟩])).map (λ s=>(λ o=>(o.2.2.2.2.1,o.2.2.2.2.2.1,o.2.2.2.2.2.2.1,o.2.2.2.2.2.2.2.1,o.2.2.2.2.2.2.2.2)) (openSeen view [] (importedModules PySem.Challenge.pw_loomwright_k29_a_loom_step_by_step.main.body) Xt true s.abs))=some (pinGoodD (drecsOf view),plainGoodE view (looseW view []),plainGoodD view [],wideGood view,clsGoodW view []):=by
  unfold Xt;rw [PySem.W.Fast.te5923862056798008813,PySem.W.Fast.te4187177175401517315,PySem.W.Fast.te2368527892694137696,PySem.W.Fast.te17067896673024979097,PySem.W.Fast.te6100277682786485075,PySem.W.Fast.te14364793385576792824,PySem.W.Fast.te9621378704136392807,PySem.W.Fast.te17373682658031312602,PySem.W.Fast.te18179956587731223367,PySem.W.Fast.te924846132689101100,PySem.W.Fast.te1601875519105137172,PySem.W.Fast.te5418422550117673030];kernel_rfl
theorem Tq:(b0++b1)=bd:=by kernel_rfl
theorem left:LeftO PySem.Challenge.pw_loomwright_k29_a_loom_step_by_step view [] Xt hook.obs hook.val fuel:=HX.left_run (by kernel_rfl) (by decide) (λ s=>by kernel_rfl) HX.hb λ w os=>by
  obtain ⟨s,r,l⟩:=Option.map_eq_some_iff.mp (Zn w os);obtain ⟨s2,r2,l2⟩:=Option.map_eq_some_iff.mp (Y0 w os);cases r.symm.trans r2;obtain ⟨s3,r3,l3⟩:=Option.map_eq_some_iff.mp (Ze w os);cases r.symm.trans r3;rw [<-O5] at l;have t:=HX.topT_of r;have t:=piece_app (segRun_of (pc0 w os)) t;rw [Tq] at t;have t:=piece_block (segRun_of (block w os)) t;have t:=go_top (HX.goT_of (pre w os)) t;exact ⟨s.abs,t,HX.three l (HX.nine l2 l3)⟩
end K29
namespace L2
open PySem PySem.Spec PyProof.Rows
abbrev Key:=Sum Int Str
noncomputable def P2:Key->Value->Bool
  | .inl k,v=>Value.isInt k v
  | .inr x,v=>Value.isStrOf x v
noncomputable def Za (w:World):Key->Int
  | .inl k=>hashInt k
  | .inr x=>hashStr w x
theorem A3:∀ {k:Key} {v:Value},P2 k v=true->(∃ i t,k=Sum.inl i/\v=Value.int i t)\/(∃ x t,k=Sum.inr x/\v=Value.str x t)
  | .inl i,v,h=>by
    obtain ⟨t,e⟩:=Value.isInt_shape (k:=i) (v:=v) h;exact .inl ⟨i,t,rfl,e⟩
  | .inr x,v,h=>by
    obtain ⟨t,e⟩:=Value.isStrOf_shape (x:=x) (v:=v) h;exact .inr ⟨x,t,rfl,e⟩
theorem RN (a b:Int):decide ((Sum.inl a:Key)=Sum.inl b)=(a == b):=by
  by_cases e:a=b
  · subst e;simp
  · have h:¬ (Sum.inl a:Key)=Sum.inl b:=λ q=>e (Sum.inl.inj q);rw [decide_eq_false h];exact (beq_eq_false_iff_ne.mpr e).symm
theorem Ro (a b:Str):decide ((Sum.inr a:Key)=Sum.inr b)=decide (a=b):=by
  by_cases e:a=b
  · subst e;simp
  · have h:¬ (Sum.inr a:Key)=Sum.inr b:=λ q=>e (Sum.inr.inj q);rw [decide_eq_false h,decide_eq_false e]
theorem Rf (a:Int) (b:Str):decide ((Sum.inl a:Key)=Sum.inr b)=false:=decide_eq_false (λ q=>nomatch q)
theorem Q4 (a:Str) (b:Int):decide ((Sum.inr a:Key)=Sum.inl b)=false:=decide_eq_false (λ q=>nomatch q)
noncomputable def JE (prog:Program) (w:World):PySem.KeyKind prog w Key where
  is:=P2
  hash:=Za w
  inj:=λ v a b ha hb=>by
    rcases A3 ha with ⟨i,t,rfl,rfl⟩ | ⟨x,t,rfl,rfl⟩
    · rcases A3 hb with ⟨j,u,rfl,e⟩ | ⟨y,u,rfl,e⟩
      · injection e with e1 _;rw [e1]
      · exact nomatch e
    · rcases A3 hb with ⟨j,u,rfl,e⟩ | ⟨y,u,rfl,e⟩
      · exact nomatch e
      · injection e with e1 _;rw [e1]
  byValue:=λ k v h=>by
    rcases A3 h with ⟨i,t,rfl,rfl⟩ | ⟨x,t,rfl,rfl⟩ <;> rfl
  pyHash:=λ hv h=>by
    rcases A3 hv with ⟨i,t,rfl,rfl⟩ | ⟨x,t,rfl,rfl⟩
    · exact wpAny_pyHash_int h
    · exact wpAny_pyHash_str h
  eqBool:=λ hu hv h=>by
    rcases A3 hu with ⟨i,t,rfl,rfl⟩ | ⟨x,t,rfl,rfl⟩
    · rcases A3 hv with ⟨j,u,rfl,rfl⟩ | ⟨y,u,rfl,rfl⟩
      · rw [RN] at h;exact wpAny_eqBool_int h
      · rw [Rf] at h;exact SeqAt.EqAt.int_str i t y u _ _ _ _ h
    · rcases A3 hv with ⟨j,u,rfl,rfl⟩ | ⟨y,u,rfl,rfl⟩
      · rw [Q4] at h;exact SeqAt.EqAt.str_int x t j u _ _ _ _ h
      · rw [Ro] at h;exact wpAny_eqBool_str h
  «strs» := λ k x t v h=>by
    rcases A3 h with ⟨i,u,rfl,e⟩ | ⟨y,u,rfl,e⟩
    · exact nomatch e
    · injection e with e1 _;subst e1;cases v <;> rfl
inductive V where
  | non | bl (b:Bool) | int (i:Int) | str (x:Str) | byt (b:Array UInt8) | flt (b:UInt64) | ref (a:Addr) | ty (n:String)
  deriving DecidableEq
def RelV:V->Value->Prop
  | .non,u=>u=Value.none
  | .bl b,u=>u=Value.bool b
  | .int i,u=>∃ t,u=Value.int i t
  | .str x,u=>∃ t,u=Value.str x t
  | .byt b,u=>∃ t,u=Value.bytes b t
  | .flt b,u=>∃ t,u=Value.float b t
  | .ref a,u=>u=Value.ref a
  | .ty n,u=>u=Value.type n
abbrev Vals:List V->List Value->Prop:=Paired RelV
theorem Vals.length {xs:List V} {us:List Value} (r:Vals xs us):xs.length=us.length:=Paired.length r
theorem Vals.get:∀ {xs:List V} {us:List Value} {i:Nat} {x:V},Vals xs us->xs[i]?=some x->∃ u,us[i]?=some u/\RelV x u
  | _,_,_,_, .nil,e=>by simp at e
  | _,_,0,_, .cons r _,e=>by simp at e;subst e;exact ⟨_,rfl,r⟩
  | _,_,i+1,x, .cons _ t,e=>by
    obtain ⟨u,h1,h2⟩:=Vals.get (i:=i) (x:=x) t (by simpa using e);exact ⟨u,by simpa using h1,h2⟩
theorem Vals.set {x:V} {u:Value} (r:RelV x u):∀ {xs:List V} {us:List Value} (i:Nat),Vals xs us->Vals (xs.set i x) (us.set i u)
  | _,_,_, .nil=> .nil
  | _,_,0, .cons _ t=> .cons r t
  | _,_,i+1, .cons q t=> .cons q (Vals.set r i t)
theorem Vals.append:∀ {xs ys:List V} {us ws:List Value},Vals xs us->Vals ys ws->Vals (xs++ys) (us++ws)
  | _,_,_,_, .nil,s=>s
  | _,_,_,_, .cons r t,s=> .cons r (Vals.append t s)
theorem Vals.take:∀ {xs:List V} {us:List Value} (n:Nat),Vals xs us->Vals (xs.take n) (us.take n)
  | _,_,0,_=> .nil
  | _,_,_+1, .nil=> .nil
  | _,_,n+1, .cons r t=> .cons r (Vals.take n t)
theorem Vals.drop:∀ {xs:List V} {us:List Value} (n:Nat),Vals xs us->Vals (xs.drop n) (us.drop n)
  | _,_,0,r=>r
  | _,_,_+1, .nil=> .nil
  | _,_,n+1, .cons _ t=>Vals.drop n t
def RelO:Option V->Option Value->Prop
  | some v,some u=>RelV v u
  | none,none=>True
  | _,_=>False
def KV {κ:Type}:List (κ × V)->List (κ × Value)->Prop:=Paired λ (p:κ × V) (q:κ × Value)=>p.1=q.1/\RelV p.2 q.2
noncomputable def kV:Key->V
  | .inl i=> .int i
  | .inr x=> .str x
inductive HO where
  | lst (xs:List V)
  | tup (xs:List V)
  | dK (kvs:List (Key × V)) | dT (kvs:List (List Key × V))
  | set (S:Int->Bool) (n:Nat)
  | ins (C dx:Addr) (fs:List (Str × V))
  | own (x:Addr)
  | xd (fs:List (Str × V))
  | met (f x:Addr)
  | rng (lo hi:Int)
  | frz (o:Obj) (u:HO)
  | tbl (ps:Array Value)
  | ext (φ:Heap->Prop)
abbrev Hp:=Addr->Option HO
noncomputable def upd (H:Hp) (a:Addr) (o:HO):Hp:=λ b=>if b=a then some o else H b
theorem Ac {H:Hp} {a:Addr} {o:HO}:upd H a o a=some o:=by unfold upd;rw [if_pos rfl]
theorem Aj {H:Hp} {a b:Addr} {o:HO} (h:b≠a):upd H a o b=H b:=by unfold upd;rw [if_neg h]
theorem Ee {H:Hp} {a b:Addr} {o u:HO} (h:H a=some o) (h':H b=some u) (d:o≠u):a≠b:=by
  intro e;subst e;rw [h] at h';exact d (Option.some.inj h')
theorem Av {H:Hp} {a b:Addr} {o:HO} (h:H a=some o) (h':H b=none):a≠b:=by
  intro e;subst e;rw [h] at h';cases h'
section
variable (P:Program) (w:World)
def ObjOk (H:Hp) (h:Heap) (a:Addr):HO->Prop
  | .lst xs=>xs.length<=sizeLine/\∃ (its:List Value) (n:Nat),Vals xs its/\h.get? a=some { cls:= .type "list",data:= .seq its.toArray n }
  | .tup xs=>xs.length<=sizeLine/\∃ its:List Value,Vals xs its/\IsTup h a its.toArray
  | .dK kvs=>kvs.length<=sizeLine/\(a == sysModules)=false/\∃ vs,KV kvs vs/\h.DictOf (JE P w) a vs
  | .dT kvs=>kvs.length<=sizeLine/\(a == sysModules)=false/\∃ xs:List (List Key × Addr × Value),
      Paired (λ (p:List Key × V) (q:List Key × Addr × Value)=>p.1=q.1/\H q.2.1=some (.tup (p.1.map kV))/\RelV p.2 q.2.2) kvs xs/\
      ∃ o es ep,h.get? a=some o/\o.ExactDict/\o.data= .dict es ep/\es.toList=xs.map (entryOfKey (tupleKind (JE P w)))/\(xs.map (·.1)).Nodup
  | .set S n=>h.SetOf (intKind P w) a S n
  | .ins C dx fs=>H dx=some (.own a)/\fs.length<=1000/\dx≠a/\h.get? a=some (PySem.W.instObj C dx)/\
      ∃ mA,h.Ns1 dx mA/\(∀ f,RelO (fs.lookup f) (mA f))/\PySem.Within mA (fs.map (·.1))
  | .own _=>∃ o,h.get? a=some o
  | .xd fs=>∃ mA,h.Ns1 a mA/\∀ f,RelO (fs.lookup f) (mA f)
  | .rng lo hi=>∃ t u v,h.get? a=some { cls:= .type "range",data:= .fields #[.int lo t, .int hi u, .int 1 v] }
  | .frz o u=>h.get? a=some o/\ObjOk H h a u
  | .tbl ps=>h.get? a=some { cls:= .none,data:= .fields ps }
  | .met f x=>h.get? a=some (PySem.W.methodObj (.ref f) (.ref x))
  | .ext φ=>φ h/\(∃ o,h.get? a=some o)/\∀ h1 h2:Heap,φ h1->(∀ o,h1.get? a=some o->h2.get? a=some o)->φ h2
def HOk (H:Hp) (h:Heap):Prop:=∀ a o,H a=some o->ObjOk P w H h a o
end
section
variable {P:Program} {w:World} {H H':Hp} {h h':Heap} {a:Addr} {o:HO}
theorem ObjOk.lt (x:ObjOk P w H h a o):a<h.objs.size:=by
  cases o with
  | lst xs=>obtain ⟨_,_,_,_,e⟩:=x;exact Heap.lt_size e
  | tup xs=>obtain ⟨_,_,_,p⟩:=x;exact p.lt
  | dK kvs=>obtain ⟨_,_,_,_,o,_,_,e,_⟩:=x;exact Heap.lt_size e
  | dT kvs=>obtain ⟨_,_,_,_,o,_,_,e,_⟩:=x;exact Heap.lt_size e
  | set S n=>obtain ⟨o,_,_,_,e,_⟩:=x;exact Heap.lt_size e
  | ins C dx fs=>obtain ⟨_,_,_,e,_⟩:=x;exact Heap.lt_size e
  | own y=>obtain ⟨_,e⟩:=x;exact Heap.lt_size e
  | xd fs=>obtain ⟨_,⟨_,_,_,e,_⟩,_⟩:=x;exact Heap.lt_size e
  | rng lo hi=>obtain ⟨_,_,_,e⟩:=x;exact Heap.lt_size e
  | frz ob u=>obtain ⟨e,_⟩:=x;exact Heap.lt_size e
  | tbl ps=>exact Heap.lt_size (show h.get? a=some _ from x)
  | met f y=>exact Heap.lt_size (show h.get? a=some _ from x)
  | ext φ=>obtain ⟨_,⟨_,e⟩,_⟩:=x;exact Heap.lt_size e
theorem Paired.mapP {α β:Type} {F G:α->β->Prop}:∀ {l₁:List α} {l₂:List β},Paired F l₁ l₂->(∀ a b,F a b->G a b)->Paired G l₁ l₂
  | _,_, .nil,_=> .nil
  | _,_, .cons r t,f=> .cons (f _ _ r) (Paired.mapP t f)
theorem ObjOk.stay (x:ObjOk P w H h a o) (k:∀ b u,(b=a\/H b=some (.own a))->h.get? b=some u->h'.get? b=some u)
    (ho:∀ b,H b=some (.own a)->H' b=some (.own a)) (ht:∀ b xs,H b=some (.tup xs)->H' b=some (.tup xs)):ObjOk P w H' h' a o:=by
  induction o with
  | lst xs=>obtain ⟨z,its,n,r,e⟩:=x;exact ⟨z,its,n,r,k _ _ (.inl rfl) e⟩
  | tup xs=>obtain ⟨z,its,r,ob,e,c⟩:=x;exact ⟨z,its,r,ob,k _ _ (.inl rfl) e,c⟩
  | dK kvs=>obtain ⟨z,y,vs,r,ob,es,ep,e,c⟩:=x;exact ⟨z,y,vs,r,ob,es,ep,k _ _ (.inl rfl) e,c⟩
  | dT kvs=>
    obtain ⟨z,y,xs,r,ob,es,ep,e,c⟩:=x;exact ⟨z,y,xs,Paired.mapP r λ p q z=>⟨z.1,ht _ _ z.2.1,z.2.2⟩,ob,es,ep,k _ _ (.inl rfl) e,c⟩
  | set S n=>obtain ⟨ob,es,ep,t,e,c⟩:=x;exact ⟨ob,es,ep,t,k _ _ (.inl rfl) e,c⟩
  | ins C dx fs=>
    obtain ⟨d,z,ne,e,mA,⟨od,es,ep,e2,c⟩,r⟩:=x;exact ⟨ho _ d,z,ne,k _ _ (.inl rfl) e,mA,⟨od,es,ep,k _ _ (.inr d) e2,c⟩,r⟩
  | own y=>obtain ⟨ob,e⟩:=x;exact ⟨ob,k _ _ (.inl rfl) e⟩
  | xd fs=>obtain ⟨mA,⟨od,es,ep,e,c⟩,r⟩:=x;exact ⟨mA,⟨od,es,ep,k _ _ (.inl rfl) e,c⟩,r⟩
  | rng lo hi=>obtain ⟨t,u,v,e⟩:=x;exact ⟨t,u,v,k _ _ (.inl rfl) e⟩
  | frz ob u ih=>obtain ⟨e,q⟩:=x;exact ⟨k _ _ (.inl rfl) e,ih q⟩
  | tbl ps=>
    have e:h.get? a=some { cls:= .none,data:= .fields ps }:=x;show h'.get? a=some { cls:= .none,data:= .fields ps };exact k a _ (.inl rfl) e
  | met f y=>
    have e:h.get? a=some (PySem.W.methodObj (.ref f) (.ref y)):=x;show h'.get? a=some (PySem.W.methodObj (.ref f) (.ref y));exact k a _ (.inl rfl) e
  | ext φ=>obtain ⟨p,⟨o,e⟩,st⟩:=x;exact ⟨st _ _ p λ o q=>k _ _ (.inl rfl) q,⟨o,k _ _ (.inl rfl) e⟩,st⟩
theorem HOk.lt (x:HOk P w H h) (e:H a=some o):a<h.objs.size:=(x a o e).lt
theorem HOk.fresh (x:HOk P w H h) (e:h.objs.size<=a):H a=none:=by
  cases q:H a with
  | none=>rfl
  | some u=>exact absurd (Nat.lt_of_lt_of_le (x.lt q) e) (Nat.lt_irrefl _)
theorem HOk.kept (x:HOk P w H h) (k:∀ b u,h.get? b=some u->h'.get? b=some u):HOk P w H h':=λ a o e=>
  (x a o e).stay (λ b u _ q=>k b u q) (λ _ q=>q) λ _ _ q=>q
theorem HOk.laid (x:HOk P w H h) (k:∀ b u,h.get? b=some u->h'.get? b=some u) (hp:h.objs.size<=a) (new:ObjOk P w (upd H a o) h' a o):HOk P w (upd H a o) h':=λ b u e=>by
  have hn:=x.fresh hp;by_cases hb:b=a
  · subst hb;rw [Ac] at e;cases e;exact new
  · rw [Aj hb] at e;exact (x b u e).stay (λ c v _ q=>k c v q) (λ c q=>by rw [Aj (Av q hn)];exact q) λ c xs q=>by rw [Aj (Av q hn)];exact q
end
def Rd (H:Hp) (a:Addr) (u:HO):Prop:=H a=some u\/∃ o,H a=some (.frz o u)
theorem Rd.ok {P:Program} {w:World} {H:Hp} {h:Heap} {a:Addr} {u:HO} (r:Rd H a u) (x:HOk P w H h):ObjOk P w H h a u:=by
  rcases r with r | ⟨o,r⟩
  · exact x a u r
  · obtain ⟨_,q⟩:=x a _ r;exact q
def Mut:Option HO->Prop
  | some (.lst _)=>True
  | some (.dK _)=>True
  | some (.dT _)=>True
  | some (.set _ _)=>True
  | some (.ins _ _ _)=>True
  | some (.ext _)=>True
  | _=>False
section
variable {P:Program} {w:World} {H:Hp} {h h':Heap} {x e:Addr} {o':HO}
theorem HOk.write (ok:HOk P w H h) (mu:Mut (H x)) (he:e=x\/H e=some (.own x)) (k:∀ b u,b≠e->h.get? b=some u->h'.get? b=some u) (heo:∃ u,h'.get? e=some u)
    (new:ObjOk P w (upd H x o') h' x o'):HOk P w (upd H x o') h':=λ b u q=>by
  have nown:∀ c y,H c=some (.own y)->c≠x:=λ c y r z=>by subst z;rw [r] at mu;exact mu
  have ntup:∀ c xs,H c=some (.tup xs)->c≠x:=λ c xs r z=>by subst z;rw [r] at mu;exact mu
  by_cases hb:b=x
  · subst hb;rw [Ac] at q;cases q;exact new
  · rw [Aj hb] at q;by_cases hbe:b=e
    · have q':H b=some (.own x):=by
        rcases he with z | z
        · exact absurd (hbe.trans z) hb
        · rw [hbe];exact z
      rw [q] at q';cases q';obtain ⟨v,hv⟩:=heo;exact ⟨v,by rw [hbe];exact hv⟩
    · refine (ok b u q).stay (λ c v hc r=>k c v ?_ r) (λ c r=>by rw [Aj (nown c b r)];exact r) λ c xs r=>by rw [Aj (ntup c xs r)];exact r
      rcases hc with rfl | hc
      · exact hbe
      · rintro rfl;rcases he with z | z
        · exact nown c b hc z
        · rw [hc] at z;cases z;exact hb rfl
end
structure Un (fs ex:List Addr) (H H':Hp) (h h':Heap):Prop where
  keep:∀ b o,h.get? b=some o->H b=none->b∉fs->b∉ex->h'.get? b=some o
  slot:∀ b o,h.get? b=some o->H b=none->b∈fs->b∉ex->∃ sl,h'.get? b=some { o with slots:=sl }
  free:∀ b o,h.get? b=some o->H b=none->b∉ex->H' b=none
  there:∀ b o,h.get? b=some o->b∉ex->∃ o',h'.get? b=some o'
  tups:∀ b xs,H b=some (.tup xs)->H' b=some (.tup xs)
  frzs:∀ b o u,H b=some (.frz o u)->H' b=some (.frz o u)
  tbls:∀ b ps,H b=some (.tbl ps)->∃ more,H' b=some (.tbl (ps++more))
section
variable {fs fs' ex ex':List Addr} {H H1 H2:Hp} {h h1 h2 h':Heap} {a x e:Addr} {o:HO}
theorem Un.any (u:Un fs ex H H1 h h1) {b:Addr} {ob:Obj} (q:h.get? b=some ob) (n:H b=none) (hx:b∉ex):∃ sl,h1.get? b=some { ob with slots:=sl }:=by
  by_cases hb:b∈fs
  · exact u.slot b ob q n hb hx
  · exact ⟨ob.slots,u.keep b ob q n hb hx⟩
theorem Un.kept (k:∀ b u,h.get? b=some u->h'.get? b=some u):Un fs ex H H h h':=
  ⟨λ b ob q _ _ _=>k b ob q,λ b ob q _ _ _=>⟨ob.slots,k b ob q⟩,λ _ _ _ n _=>n,λ b ob q _=>⟨ob,k b ob q⟩,λ _ _ q=>q,λ _ _ _ q=>q,λ _ ps q=>⟨#[],by rw [q];simp⟩⟩
theorem Un.refl:Un fs ex H H h h:=Un.kept λ _ _ q=>q
theorem Un.laid (k:∀ b u,h.get? b=some u->h'.get? b=some u) (hp:h.objs.size<=a) (hn:H a=none):Un fs ex H (upd H a o) h h' where
  keep:=λ b u q _ _ _=>k b u q
  slot:=λ b u q _ _ _=>⟨u.slots,k b u q⟩
  free:=λ b u q n _=>by rw [Aj (Nat.ne_of_lt (Nat.lt_of_lt_of_le (Heap.lt_size q) hp))];exact n
  there:=λ b u q _=>⟨u,k b u q⟩
  tups:=λ b xs q=>by rw [Aj (Av q hn)];exact q
  frzs:=λ b u xs q=>by rw [Aj (Av q hn)];exact q
  tbls:=λ b ps q=>⟨#[],by rw [Aj (Av q hn),q];simp⟩
theorem Un.write (mu:Mut (H x)) (he:e=x\/H e=some (.own x)) (k:∀ b u,b≠e->h.get? b=some u->h'.get? b=some u) (heo:∃ u,h'.get? e=some u):Un fs ex H (upd H x o) h h':=by
  have hx:∀ b,H b=none->b≠x:=λ b n z=>by subst z;rw [n] at mu;exact mu
  have hb:∀ b,H b=none->b≠e:=λ b n z=>by
    subst z;rcases he with r | r
    · exact hx b n r
    · rw [n] at r;cases r
  have hm:∀ b u,H b=some u->¬ Mut (some u)->b≠x:=λ b u q nm z=>by subst z;rw [q] at mu;exact nm mu
  refine ⟨λ b u q n _ _=>k b u (hb b n) q,λ b u q n _ _=>⟨u.slots,k b u (hb b n) q⟩,λ b u q n _=>by rw [Aj (hx b n)];exact n,λ b u q _=> ?_,
    λ b xs q=>by rw [Aj (hm b _ q λ z=>z)];exact q,λ b u xs q=>by rw [Aj (hm b _ q λ z=>z)];exact q,λ b ps q=>⟨#[],by rw [Aj (hm b _ q λ z=>z),q];simp⟩⟩
  by_cases hbe:b=e
  · subst hbe;exact heo
  · exact ⟨u,k b u hbe q⟩
end
noncomputable def trk (h:Heap) (H:Hp):List Addr:=(List.range h.objs.size).filter λ a=>(H a).isSome
noncomputable def Ih (h:Heap) (H:Hp):Heap:=PySem.W.hideAll h (trk h H)
theorem Mp (h:Heap) (H:Hp):(Ih h H).objs.size=h.objs.size:=PySem.W.hideAll_size _ _
theorem Fl {h:Heap} {H:Hp} {b:Addr} {o:Obj} (e:h.get? b=some o) (n:H b=none):(Ih h H).get? b=some o:=
  PySem.W.hideAll_get _ e λ hm=>by
    have q:(H b).isSome=true:=(List.mem_filter.mp hm).2;rw [n] at q;simp at q
theorem OE {h:Heap} {H:Hp} {b:Addr} {o:Obj} (e:(Ih h H).get? b=some o):h.get? b=some o/\H b=none:=by
  have e':h.get? b=some o:=PySem.W.of_hideAll (trk h H) e;refine ⟨e',?_⟩;cases q:H b with
  | none=>rfl
  | some x=>
    have hm:b∈trk h H:=List.mem_filter.mpr ⟨List.mem_range.mpr (Heap.lt_size e'),by simp [q]⟩;have z:(Ih h H).get? b=none:=PySem.W.hideAll_none (trk h H) hm;rw [z] at e;cases e
noncomputable def OT (g h:Heap) (L:Addr):List (Addr × Obj):=(List.range h.objs.size).filterMap λ a=>if a=L\/(g.get? a).isSome=true then none else (h.get? a).map λ o=>(a,o)
noncomputable def rest (g h:Heap) (L d:Addr):List (Addr × Obj):=(OT g h L).filter λ p=>decide (p.1≠d)
structure Mod (K:PySem.W.Frag) (mg:Str->Option Value) (base:Heap):Prop where
  kin:K.In base
  glob:base.Ns mainGlobals mg
  blt:∃ mb,base.Ns builtinsNs mb/\∀ x:Str,x≠"__name__"->mb x=bootBuiltins x
  nolimit:base.NoLimit
structure Cx where
  prog:Program
  w:World
  K:PySem.W.Frag
  mg:Str->Option Value
  base:Heap
  A:Around
  N:List Str
  s₀:Shared
  H₀:Hp
  env:Env
  outer:List Env
  stack:List Env
  ex:List Addr
  fn:Str->Bool
  calm:Bool
  pn:List (Addr × Obj)
  xe:Value->Shared->Prop
noncomputable def frs (l:List Env):List Addr:=l.filterMap (·.frame)
noncomputable abbrev Cx.fs (X:Cx):List Addr:=frs X.outer
def Vis (sc:Scope) (x:Str):Prop:=sc.names.lookup x=some .local\/sc.names.lookup x=some .cell\/sc.names.lookup x=some .free
def Loc (sc:Scope) (x:Str):Prop:=sc.names.lookup x=some .local\/sc.names.lookup x=some .cell
def YZ (env:Env) (h:Heap) (m:Str->Option Value) (x:Str) (u:Value):Prop:=
  (env.kindOf x=some .local/\m x=some u)\/((env.kindOf x=some .cell\/env.kindOf x=some .free)/\∃ c,env.cells.lookup x=some c/\h.IsCell c (some u))
structure Cx.Ok (X:Cx):Prop where
  mod:Mod X.K X.mg X.base
  kind:X.env.scope.kind= .function
  glob:X.env.globals=mainGlobals
  blt:X.env.builtins=builtinsNs
  above:X.s₀.heap.objs.size<=X.env.locals
  inj:∀ x y c,X.env.cells.lookup x=some c->X.env.cells.lookup y=some c->x=y
  has:∀ x,(X.env.kindOf x=some .cell\/X.env.kindOf x=some .free)->∃ c,X.env.cells.lookup x=some c
  cab:∀ x c,X.fn x=true->X.env.cells.lookup x=some c->X.s₀.heap.objs.size<=c
  hd:X.calm=true->X.A.handled=none
  frames:X.A.frames=some X.stack
  stk:X.stack=X.outer\/(X.stack=X.env::X.outer/\X.env.frame=some X.env.locals)
  exf:∀ b∈X.ex,b≠X.env.locals/\∀ x c,X.env.cells.lookup x=some c->c≠b
  bs:∀ b o,X.base.get? b=some o->X.s₀.heap.get? b=some o/\X.H₀ b=none
  bsz:X.base.objs.size<=X.s₀.heap.objs.size
  noex:∀ b o,X.base.get? b=some o->b∉X.ex
  exfs:∀ b∈X.ex,b∉X.fs
  funs:X.s₀.heap.FunFrames X.base X.outer
  frf:∀ b∈X.fs,X.H₀ b=none
structure Inv (X:Cx) (pins:List (Addr × Obj)) (σ:List (Option V)) (H:Hp) (s:Shared):Prop where
  ok:X.Ok
  os:s.os=X.s₀.os
  bare:AllBare s.gens
  base:Un X.fs X.ex X.H₀ H X.s₀.heap s.heap
  loc:∃ m,s.heap.Ns X.env.locals m/\∀ (i:Nat) (x:Str) (v:V),X.N[i]?=some x->σ[i]?=some (some v)->Vis X.env.scope x->∃ u,RelV v u/\YZ X.env s.heap m x u
  cell:∀ x c,X.env.cells.lookup x=some c->∃ v,s.heap.IsCell c v
  free:H X.env.locals=none
  freeC:∀ x c,X.env.cells.lookup x=some c->H c=none
  pin:∀ p∈X.pn++pins,s.heap.get? p.1=some p.2/\H p.1=none/\p.1≠X.env.locals/\p.1∉X.fs/\∀ v,p.2.data≠ .cell v
  hok:HOk X.prog X.w H s.heap
  len:σ.length=X.N.length
section
variable {X:Cx} {pins:List (Addr × Obj)} {σ:List (Option V)} {H H':Hp} {s:Shared} {h':Heap}
theorem Cx.Ok.nofr (ok:X.Ok) {b:Addr} {o:Obj} (e:X.base.get? b=some o):b∉X.fs:=λ hb=>by
  have:=(ok.funs.mem hb).1;rw [e] at this;cases this
theorem Inv.bs (I:Inv X pins σ H s):∀ b o,X.base.get? b=some o->s.heap.get? b=some o/\H b=none:=λ b o e=>
  ⟨I.base.keep b o (I.ok.bs b o e).1 (I.ok.bs b o e).2 (I.ok.nofr e) (I.ok.noex b o e),I.base.free b o (I.ok.bs b o e).1 (I.ok.bs b o e).2 (I.ok.noex b o e)⟩
theorem Inv.bk (I:Inv X pins σ H s):∀ b o,X.base.get? b=some o->s.heap.get? b=some o:=λ b o e=>(I.bs b o e).1
theorem Inv.mod (I:Inv X pins σ H s):Mod X.K X.mg X.base:=I.ok.mod
theorem Inv.kIn (I:Inv X pins σ H s):X.K.In s.heap:=I.ok.mod.kin.keeps I.bk
theorem Inv.fr (I:Inv X pins σ H s):∃ m,Fr X.base X.env.locals s.heap m:=
  let ⟨m,hn,_⟩:=I.loc
  ⟨m,hn,I.bk,Nat.le_trans I.ok.bsz I.ok.above⟩
theorem Inv.lt (I:Inv X pins σ H s):X.env.locals<s.heap.objs.size:=let ⟨_,hn,_⟩:=I.loc;hn.lt
theorem Inv.sz (I:Inv X pins σ H s):X.s₀.heap.objs.size<=s.heap.objs.size:=Nat.le_trans I.ok.above (Nat.le_of_lt I.lt)
theorem Inv.nofs (I:Inv X pins σ H s) {a:Addr} (h:s.heap.objs.size<=a):a∉X.fs:=λ hb=>by
  obtain ⟨_,o,ho,_⟩:=I.ok.funs.mem hb;exact absurd (Nat.lt_of_lt_of_le (Heap.lt_size ho) (Nat.le_trans I.sz h)) (Nat.lt_irrefl _)
theorem Inv.cne (I:Inv X pins σ H s):∀ x c,X.env.cells.lookup x=some c->c≠X.env.locals:=λ x c e z=>by
  obtain ⟨v,o,ho,hd⟩:=I.cell x c e;obtain ⟨m,⟨o',es,ep,ho',hd',_⟩,_⟩:=I.loc;rw [z,ho'] at ho;cases ho;rw [hd'] at hd;cases hd
theorem Inv.funs (I:Inv X pins σ H s):s.heap.FunFrames X.base X.outer:=by
  have all:∀ (l:List Env),(∀ b∈frs l,b∈X.fs)->X.s₀.heap.FunFrames X.base l->s.heap.FunFrames X.base l:=by
    intro l
    induction l with
    | nil=>intro _ _;trivial
    | cons env r ih=>
      intro hs hl;obtain ⟨hk,⟨L,o,hf,hn,ho,hd⟩,hr⟩:=hl;have hL:L∈X.fs:=hs L (by unfold frs;rw [List.filterMap_cons,hf];exact List.mem_cons_self);obtain ⟨sl,e⟩:=I.base.slot L o ho (I.ok.frf L hL) hL λ z=>I.ok.exfs L z hL;exact ⟨hk,⟨L,_,hf,hn,e,hd⟩,ih (λ b hb=>hs b (by unfold frs;rw [List.filterMap_cons,hf];exact List.mem_cons_of_mem _ hb)) hr⟩
  exact all X.outer (λ _ hb=>hb) I.ok.funs
theorem Inv.stack (I:Inv X pins σ H s):s.heap.FunFrames X.base X.stack:=by
  rcases I.ok.stk with e | ⟨e,hf⟩
  · rw [e];exact I.funs
  · rw [e];obtain ⟨m,hn,_⟩:=I.loc;refine .cons (by rw [I.ok.kind];decide) hf hn ?_ I.funs;exact Heap.get?_none_of_le (Nat.le_trans I.ok.bsz I.ok.above)
theorem Inv.stkSub (I:Inv X pins σ H s):∀ b∈frs X.stack,b∈X.env.locals::X.fs:=λ b hb=>by
  rcases I.ok.stk with e | ⟨e,hf⟩
  · rw [e] at hb;exact List.mem_cons_of_mem _ hb
  · rw [e] at hb;unfold frs at hb;rw [List.filterMap_cons,hf] at hb;exact hb
theorem Inv.stkFree (I:Inv X pins σ H s):∀ b∈frs X.stack,H b=none:=λ b hb=>by
  rcases List.mem_cons.mp (I.stkSub b hb) with e | hb
  · rw [e];exact I.free
  · obtain ⟨_,o,ho,_⟩:=I.ok.funs.mem hb;exact I.base.free b o ho (I.ok.frf b hb) λ z=>I.ok.exfs b z hb
theorem Inv.step {g':Array GenState} {t':Nat} {d':Drawn} {ch:List Addr} (I:Inv X pins σ H s)
    (hch:∀ b∈ch,(b∈X.ex\/X.s₀.heap.objs.size<=b)/\b≠X.env.locals/\(∀ x c,X.env.cells.lookup x=some c->c≠b)/\∀ p∈X.pn++pins,p.1≠b)
    (keep:∀ b o,b≠X.env.locals->b∉X.fs->b∉ch->s.heap.get? b=some o->H b=none->h'.get? b=some o)
    (slot:∀ b o,b≠X.env.locals->b∈X.fs->b∉ch->s.heap.get? b=some o->H b=none->∃ sl,h'.get? b=some { o with slots:=sl }) (free:∀ b o,b∉ch->s.heap.get? b=some o->H b=none->H' b=none)
    (there:∀ b o,b∉ch->s.heap.get? b=some o->∃ o',h'.get? b=some o')
    (tups:∀ b xs,H b=some (.tup xs)->H' b=some (.tup xs)) (frzs:∀ b o u,H b=some (.frz o u)->H' b=some (.frz o u)) (tbls:∀ b ps,H b=some (.tbl ps)->∃ more,H' b=some (.tbl (ps++more)))
    (ns:∀ m,s.heap.Ns X.env.locals m->h'.Ns X.env.locals m) (hok:HOk X.prog X.w H' h') (hg:AllBare g'):
    Inv X pins σ H' { s with heap:=h',gens:=g',drawn:=d',toks:=t' }:=by
  have neL:∀ b o,X.s₀.heap.get? b=some o->b≠X.env.locals:=λ b o e=>Nat.ne_of_lt (Nat.lt_of_lt_of_le (Heap.lt_size e) I.ok.above);have neC:∀ b o,X.s₀.heap.get? b=some o->b∉X.ex->b∉ch:=λ b o e hx hb=>by
    rcases (hch b hb).1 with z | z
    · exact hx z
    · exact absurd (Nat.lt_of_lt_of_le (Heap.lt_size e) z) (Nat.lt_irrefl _)
  have cellK:∀ x c,X.env.cells.lookup x=some c->∀ v,s.heap.IsCell c v->h'.IsCell c v:=λ x c e v ⟨o,ho,hd⟩=>by
    have nch:c∉ch:=λ z=>(hch c z).2.2.1 x c e rfl;by_cases hc:c∈X.fs
    · obtain ⟨sl,q⟩:=slot c o (I.cne x c e) hc nch ho (I.freeC x c e);exact ⟨_,q,hd⟩
    · exact ⟨o,keep c o (I.cne x c e) hc nch ho (I.freeC x c e),hd⟩
  refine ⟨I.ok,I.os,hg,⟨λ b o e n hb hx=> ?_,λ b o e n hb hx=> ?_,λ b o e n hx=> ?_,λ b o e hx=> ?_,λ b xs e=>tups b xs (I.base.tups b xs e),λ b o xs e=>frzs b o xs (I.base.frzs b o xs e),λ b ps e=> ?_⟩,?_,λ x c e=> ?_,?_,λ x c e=> ?_,λ p hp=> ?_,hok,I.len⟩
  · exact keep b o (neL b o e) hb (neC b o e hx) (I.base.keep b o e n hb hx) (I.base.free b o e n hx)
  · obtain ⟨sl,e1⟩:=I.base.slot b o e n hb hx;obtain ⟨sl',e2⟩:=slot b _ (neL b o e) hb (neC b o e hx) e1 (I.base.free b o e n hx);exact ⟨sl',e2⟩
  · obtain ⟨o',e1⟩:=I.base.there b o e hx;exact free b o' (neC b o e hx) e1 (I.base.free b o e n hx)
  · obtain ⟨o',e1⟩:=I.base.there b o e hx;exact there b o' (neC b o e hx) e1
  · obtain ⟨m1,e1⟩:=I.base.tbls b ps e;obtain ⟨m2,e2⟩:=tbls b _ e1;exact ⟨m1++m2,by rw [e2,Array.append_assoc]⟩
  · obtain ⟨m,hn,hl⟩:=I.loc;refine ⟨m,ns m hn,λ i x v e1 e2 e3=> ?_⟩;obtain ⟨u,r,l⟩:=hl i x v e1 e2 e3;refine ⟨u,r,?_⟩;rcases l with l | ⟨k,c,e,z⟩
    · exact .inl l
    · exact .inr ⟨k,c,e,cellK x c e _ z⟩
  · obtain ⟨v,z⟩:=I.cell x c e;exact ⟨v,cellK x c e v z⟩
  · obtain ⟨m,⟨o,_,_,ho,_⟩,_⟩:=I.loc;exact free _ o (λ z=>(hch _ z).2.1 rfl) ho I.free
  · obtain ⟨v,o,ho,hd⟩:=I.cell x c e;exact free c o (λ z=>(hch c z).2.2.1 x c e rfl) ho (I.freeC x c e)
  · obtain ⟨e,n,ne,nf,d⟩:=I.pin p hp;have nch:p.1∉ch:=λ z=>(hch p.1 z).2.2.2 p hp rfl;exact ⟨keep p.1 p.2 ne nf nch e n,free p.1 p.2 nch e n,ne,nf,d⟩
theorem Inv.un {t':Nat} (I:Inv X pins σ H s) (u:Un X.fs [] H H' s.heap h') (hok:HOk X.prog X.w H' h'):Inv X pins σ H' { s with heap:=h',toks:=t' }:=by
  obtain ⟨m,⟨o,es,ep,ho,r⟩,_⟩:=id I.loc;obtain ⟨sl,hL⟩:=u.any ho I.free (by simp);exact I.step (g':=s.gens) (d':=s.drawn) (ch:=[]) (λ _ z=>nomatch z) (λ b o _ hb _ e n=>u.keep b o e n hb (by simp)) (λ b o _ hb _ e n=>u.slot b o e n hb (by simp)) (λ b o _ e n=>u.free b o e n (by simp)) (λ b o _ e=>u.there b o e (by simp)) u.tups u.frzs u.tbls (λ m' hm=>by
    obtain ⟨o',es',ep',ho',r'⟩:=hm;rw [ho] at ho';cases ho';exact ⟨_,es',ep',hL,r'⟩) hok I.bare
theorem Inv.call {g':Array GenState} {t':Nat} {d':Drawn} {ch:List Addr} (I:Inv X pins σ H s) (u:Un (frs X.stack) ch H H' s.heap h') (hok:HOk X.prog X.w H' h') (hg:AllBare g')
    (hch:∀ b∈ch,(b∈X.ex\/X.s₀.heap.objs.size<=b)/\b≠X.env.locals/\(∀ x c,X.env.cells.lookup x=some c->c≠b)/\∀ p∈X.pn++pins,p.1≠b):
    Inv X pins σ H' { s with heap:=h',gens:=g',drawn:=d',toks:=t' }:=by
  obtain ⟨m,⟨o,es,ep,ho,r⟩,_⟩:=id I.loc;obtain ⟨sl,hL⟩:=u.any ho I.free λ z=>(hch _ z).2.1 rfl;exact I.step (ch:=ch) hch (λ b o hL hb hc e n=>u.keep b o e n (λ z=>(List.mem_cons.mp (I.stkSub b z)).elim hL hb) hc) (λ b o _ _ hc e n=>u.any e n hc) (λ b o hc e n=>u.free b o e n hc) (λ b o hc e=>u.there b o e hc) u.tups u.frzs u.tbls (λ m' hm=>by
    obtain ⟨o',es',ep',ho',r'⟩:=hm;rw [ho] at ho';cases ho';exact ⟨_,es',ep',hL,r'⟩) hok hg
theorem Inv.turned {t':Nat} {it:Addr} (I:Inv X pins σ H s) (k:∀ b o,b≠it->s.heap.get? b=some o->h'.get? b=some o) (hn:H it=none) (hL:it≠X.env.locals)
    (h1:it∈X.ex\/X.s₀.heap.objs.size<=it) (h2:∀ x c,X.env.cells.lookup x=some c->c≠it) (h3:∀ p∈X.pn++pins,p.1≠it):Inv X pins σ H { s with heap:=h',toks:=t' }:=by
  have nit:∀ b u,H b=some u->b≠it:=λ b u e z=>by rw [z,hn] at e;cases e
  refine I.step (g':=s.gens) (d':=s.drawn) (ch:=[it]) (λ b hb=> ?_) (λ b o _ _ hc e _=>k b o (λ z=>hc (by simp [z])) e) (λ b o _ _ hc e _=>⟨o.slots,k b o (λ z=>hc (by simp [z])) e⟩) (λ _ _ _ _ n=>n)
    (λ b o hc e=>⟨o,k b o (λ z=>hc (by simp [z])) e⟩) (λ _ _ e=>e) (λ _ _ _ e=>e) (λ b ps e=>⟨#[],by rw [e];simp⟩) (λ m hm=> ?_) (λ b u e=> ?_) I.bare
  · have e:b=it:=by simpa using hb
    subst e;exact ⟨h1,hL,h2,h3⟩
  · obtain ⟨o,es,ep,ho,r⟩:=hm;exact ⟨o,es,ep,k _ o (Ne.symm hL) ho,r⟩
  · refine (I.hok b u e).stay (λ c v hc q=>k c v ?_ q) (λ _ q=>q) λ _ _ q=>q;rcases hc with z | z
    · rw [z];exact nit b u e
    · exact nit c _ z
theorem Inv.tok (I:Inv X pins σ H s) (t:Nat):Inv X pins σ H { s with toks:=t }:=I.un (h':=s.heap) (t':=t) Un.refl I.hok
theorem Inv.kept {t':Nat} (I:Inv X pins σ H s) (k:∀ b u,s.heap.get? b=some u->h'.get? b=some u):Inv X pins σ H { s with heap:=h',toks:=t' }:=I.un (Un.kept k) (I.hok.kept k)
theorem Inv.laid {a:Addr} {o:HO} {t':Nat} (I:Inv X pins σ H s) (k:∀ b u,s.heap.get? b=some u->h'.get? b=some u) (hp:s.heap.objs.size<=a) (new:ObjOk X.prog X.w (upd H a o) h' a o):
    Inv X pins σ (upd H a o) { s with heap:=h',toks:=t' }:=I.un (Un.laid k hp (I.hok.fresh hp)) (I.hok.laid k hp new)
theorem Inv.write {x e:Addr} {o:HO} {t':Nat} (I:Inv X pins σ H s) (mu:Mut (H x)) (he:e=x\/H e=some (.own x)) (k:∀ b u,b≠e->s.heap.get? b=some u->h'.get? b=some u) (heo:∃ u,h'.get? e=some u)
    (new:ObjOk X.prog X.w (upd H x o) h' x o):Inv X pins σ (upd H x o) { s with heap:=h',toks:=t' }:=I.un (Un.write mu he k heo) (I.hok.write mu he k heo new)
theorem Inv.weak {σ':List (Option V)} (I:Inv X pins σ H s) (hl:σ'.length=σ.length) (w:∀ (i:Nat) v,σ'[i]?=some (some v)->σ[i]?=some (some v)):Inv X pins σ' H s:=
  ⟨I.ok,I.os,I.bare,I.base,let ⟨m,hn,hl'⟩:=I.loc;⟨m,hn,λ i x v e1 e2 e3=>hl' i x v e1 (w i v e2) e3⟩,I.cell,I.free,I.freeC,I.pin,I.hok,hl.trans I.len⟩
theorem Inv.pins_of {pins':List (Addr × Obj)} (I:Inv X pins σ H s) (h:∀ p∈pins',s.heap.get? p.1=some p.2/\H p.1=none/\p.1≠X.env.locals/\p.1∉X.fs/\∀ v,p.2.data≠ .cell v):Inv X pins' σ H s:=
  ⟨I.ok,I.os,I.bare,I.base,I.loc,I.cell,I.free,I.freeC,λ p hp=>(List.mem_append.mp hp).elim (λ z=>I.pin p (List.mem_append_left _ z)) (h p),I.hok,I.len⟩
theorem Hs {N:List Str} (hN:N.Nodup) {i j:Nat} {x:Str} (a:N[i]?=some x) (b:N[j]?=some x):i=j:=by
  obtain ⟨h1,e1⟩:=List.getElem?_eq_some_iff.mp a;obtain ⟨h2,e2⟩:=List.getElem?_eq_some_iff.mp b;exact (List.getElem_inj hN).mp (e1.trans e2.symm)
theorem Mc {M:Model} {A:Around} {E:Value->Shared->Prop} {i:Nat} {x:Str} {v:V} {u:Value} {Q:Unit->Shared->Prop} (I:Inv X pins σ H s) (hN:X.N.Nodup) (hi:X.N[i]?=some x) (hx:Loc X.env.scope x) (r:RelV v u)
    (h:∀ s',Inv X pins (σ.set i (some v)) H s'->(∃ a,Heap.SameBut a s.heap s'.heap/\(a=X.env.locals\/X.env.cells.lookup x=some a))->Q () s') (hf:X.fn x=true\/X.env.scope.names.lookup x=some .local:=by first | exact .inl rfl | exact .inr rfl | assumption):wpAny M A (storeName X.env x u) Q E s:=by
  obtain ⟨m,hn,hl⟩:=id I.loc;have hcls:(X.env.scope.kind == .class||(X.env.scope.kind == .module&&X.env.locals != X.env.globals))=false:=by rw [I.ok.kind];rfl
  have hiσ:i<σ.length:=by rw [I.len];exact (List.getElem?_eq_some_iff.mp hi).1
  have cne:=I.cne;have tracked:∀ {a:Addr} {h':Heap},(∃ o,s.heap.get? a=some o/\H a=none)->Heap.SameBut a s.heap h'->HOk X.prog X.w H h':=λ {a h'} ha hs b ob e=>by
    obtain ⟨_,_,hfree⟩:=ha;refine (I.hok b ob e).stay (λ c w' hc q=>(hs.2 c ?_).trans q) (λ _ q=>q) λ _ _ q=>q;rintro rfl;rcases hc with rfl | hc
    · rw [hfree] at e;cases e
    · rw [hfree] at hc;cases hc
  rcases hx with hk | hk
  · refine wpAny_storeName_local hk hn (λ h' hn' hs=> ?_) hcls;obtain ⟨oL,_,_,hoL,_⟩:=id hn;refine h _ ⟨I.ok,I.os,I.bare,⟨λ b o e n hb hx=> ?_,λ b o e n hb hx=> ?_,I.base.free,λ b o e hx=> ?_,I.base.tups,I.base.frzs,I.base.tbls⟩,⟨_,hn',λ j y v' e1 e2 e3=> ?_⟩,λ y c e=> ?_,I.free,I.freeC,λ p hp=> ?_,tracked ⟨oL,hoL,I.free⟩ hs,by simpa using I.len⟩ ⟨_,hs, .inl rfl⟩
    · exact (hs.2 b (Nat.ne_of_lt (Nat.lt_of_lt_of_le (Heap.lt_size e) I.ok.above))).trans (I.base.keep b o e n hb hx)
    · obtain ⟨sl,e1⟩:=I.base.slot b o e n hb hx;exact ⟨sl,(hs.2 b (Nat.ne_of_lt (Nat.lt_of_lt_of_le (Heap.lt_size e) I.ok.above))).trans e1⟩
    · obtain ⟨o',e1⟩:=I.base.there b o e hx;exact ⟨o',(hs.2 b (Nat.ne_of_lt (Nat.lt_of_lt_of_le (Heap.lt_size e) I.ok.above))).trans e1⟩
    · by_cases hj:j=i
      · subst hj;rw [hi] at e1;cases e1;rw [List.getElem?_set_self hiσ] at e2;cases e2;exact ⟨u,r, .inl ⟨hk,by simp⟩⟩
      · rw [List.getElem?_set_ne (Ne.symm hj)] at e2;obtain ⟨u',r',q⟩:=hl j y v' e1 e2 e3;refine ⟨u',r',?_⟩;rcases q with ⟨k,e⟩ | ⟨k,c,e,z⟩
        · refine .inl ⟨k,?_⟩;have:y≠x:=λ e=>hj (Hs hN e1 (e▸hi));simp [this,e]
        · exact .inr ⟨k,c,e,z.sameBut hs (cne y c e)⟩
    · obtain ⟨w',z⟩:=I.cell y c e;exact ⟨w',z.sameBut hs (cne y c e)⟩
    · obtain ⟨e,n,ne,nf,d⟩:=I.pin p hp;exact ⟨(hs.2 p.1 ne).trans e,n,ne,nf,d⟩
  · have hfn:X.fn x=true:=by
      rcases hf with z | z
      · exact z
      · rw [z] at hk;cases hk
    obtain ⟨c,hc⟩:=I.ok.has x (.inl hk);obtain ⟨w',z⟩:=I.cell x c hc;refine wpAny_storeName_cell I.ok.kind hk hc z (λ h' hc' hs=> ?_);obtain ⟨oc,hoc,hocd⟩:=id z;refine h { s with heap:=h' } ⟨I.ok,I.os,I.bare,⟨λ b o e n hb hx=> ?_,λ b o e n hb hx=> ?_,I.base.free,λ b o e hx=> ?_,I.base.tups,I.base.frzs,I.base.tbls⟩,⟨m,hn.sameBut hs (Ne.symm (cne x c hc)),λ j y v' e1 e2 e3=> ?_⟩,λ y c' e=> ?_,I.free,I.freeC,λ p hp=> ?_,tracked ⟨oc,hoc,I.freeC x c hc⟩ hs,by simpa using I.len⟩ ⟨c,hs, .inr hc⟩
    · exact (hs.2 b (Nat.ne_of_lt (Nat.lt_of_lt_of_le (Heap.lt_size e) (I.ok.cab x c hfn hc)))).trans (I.base.keep b o e n hb hx)
    · obtain ⟨sl,e1⟩:=I.base.slot b o e n hb hx;exact ⟨sl,(hs.2 b (Nat.ne_of_lt (Nat.lt_of_lt_of_le (Heap.lt_size e) (I.ok.cab x c hfn hc)))).trans e1⟩
    · obtain ⟨o',e1⟩:=I.base.there b o e hx;exact ⟨o',(hs.2 b (Nat.ne_of_lt (Nat.lt_of_lt_of_le (Heap.lt_size e) (I.ok.cab x c hfn hc)))).trans e1⟩
    · by_cases hj:j=i
      · subst hj;rw [hi] at e1;cases e1;rw [List.getElem?_set_self hiσ] at e2;cases e2;exact ⟨u,r, .inr ⟨.inl hk,c,hc,hc'⟩⟩
      · rw [List.getElem?_set_ne (Ne.symm hj)] at e2;obtain ⟨u',r',q⟩:=hl j y v' e1 e2 e3;refine ⟨u',r',?_⟩;rcases q with q | ⟨k,c',e,z'⟩
        · exact .inl q
        · refine .inr ⟨k,c',e,z'.sameBut hs ?_⟩;rintro rfl;exact hj (Hs hN e1 (I.ok.inj _ _ _ e hc▸hi))
    · by_cases hcc:c'=c
      · subst hcc;exact ⟨_,hc'⟩
      · obtain ⟨w2,z2⟩:=I.cell y c' e;exact ⟨w2,z2.sameBut hs hcc⟩
    · obtain ⟨e,n,ne,nf,d⟩:=I.pin p hp;refine ⟨(hs.2 p.1 ?_).trans e,n,ne,nf,d⟩;intro q;rw [q,hoc] at e;have q':oc=p.2:=Option.some.inj e;exact d w' (by rw [<-q'];exact hocd)
theorem CJ {M:Model} {A:Around} {E:Value->Shared->Prop} {i:Nat} {x:Str} {v:V} {u:Value} {Q:Unit->Shared->Prop} (I:Inv X pins σ H s) (hN:X.N.Nodup) (hi:X.N[i]?=some x) (hx:Loc X.env.scope x) (r:RelV v u)
    (h:∀ s',Inv X pins (σ.set i (some v)) H s'->Q () s') (hf:X.fn x=true\/X.env.scope.names.lookup x=some .local:=by first | exact .inl rfl | exact .inr rfl | assumption):wpAny M A (storeName X.env x u) Q E s:=
  Mc I hN hi hx r (λ s' I' _=>h s' I') hf
theorem Inv.call' {s':Shared} {ch:List Addr} (I:Inv X pins σ H s) (ho:s'.os=s.os) (u:Un (frs X.stack) ch H H' s.heap s'.heap) (hok:HOk X.prog X.w H' s'.heap) (hg:AllBare s'.gens)
    (hch:∀ b∈ch,(b∈X.ex\/X.s₀.heap.objs.size<=b)/\b≠X.env.locals/\(∀ x c,X.env.cells.lookup x=some c->c≠b)/\∀ p∈X.pn++pins,p.1≠b):Inv X pins σ H' s':=by
  obtain ⟨h',g',d',t',o'⟩:=s';have e:o'=s.os:=ho;subst e;exact I.call (g':=g') (t':=t') (d':=d') u hok hg hch
end
abbrev XK:=Value->Option Addr->Hp->Prop
abbrev St:=List (Option V)
abbrev VK:=V->Hp->Prop
abbrev TE:=St->Hp->VK->Prop
abbrev TT:=St->Hp->(Bool->Hp->Prop)->Prop
abbrev TA:=St->Hp->(List V->Hp->Prop)->Prop
structure Ends where
  nx:St->Hp->Prop
  rt:VK
  bk:St->Hp->Prop:=λ _ _=>False
  ct:St->Hp->Prop:=λ _ _=>False
abbrev TS:=Ends->St->Hp->Prop
def EP (X:Cx) (pins:List (Addr × Obj)) (σ:St) (Q:VK) (u:Value) (s':Shared):Prop:=∃ v H',Inv X pins σ H' s'/\RelV v u/\Q v H'
def TP (X:Cx) (pins:List (Addr × Obj)) (σ:St) (Q:Bool->Hp->Prop) (b:Bool) (s':Shared):Prop:=∃ H',Inv X pins σ H' s'/\Q b H'
def AP (X:Cx) (pins:List (Addr × Obj)) (σ:St) (Q:List V->Hp->Prop) (us:List Value) (s':Shared):Prop:=∃ vs H',Inv X pins σ H' s'/\Vals vs us/\Q vs H'
def SP (X:Cx) (pins:List (Addr × Obj)) (D:Ends) (f:Flow) (s':Shared):Prop:=
  match f with
  | .next=>∃ σ' H',Inv X pins σ' H' s'/\D.nx σ' H'
  | .brk=>∃ σ' H',Inv X pins σ' H' s'/\D.bk σ' H'
  | .cont=>∃ σ' H',Inv X pins σ' H' s'/\D.ct σ' H'
  | .ret u=>∃ v σ' H',Inv X pins σ' H' s'/\RelV v u/\D.rt v H'
def PE (X:Cx) (e:Expr) (t:TE):Prop:=
  ∀ (pins:List (Addr × Obj)) (s:Shared) (σ:St) (H:Hp) (Q:VK),Inv X pins σ H s->t σ H Q->wpAny (model X.prog X.w) X.A (eval e X.env) (EP X pins σ Q) X.xe s
def PT (X:Cx) (e:Expr) (t:TT):Prop:=
  ∀ (pins:List (Addr × Obj)) (s:Shared) (σ:St) (H:Hp) (Q:Bool->Hp->Prop),Inv X pins σ H s->t σ H Q->wpAny (model X.prog X.w) X.A (isTrue e X.env (eval e X.env)) (TP X pins σ Q) X.xe s
def PW (X:Cx) (e:Expr) (t:TT):Prop:=
  ∀ (whole:Sem Value) (pins:List (Addr × Obj)) (s:Shared) (σ:St) (H:Hp) (Q:Bool->Hp->Prop),Inv X pins σ H s->t σ H Q->wpAny (model X.prog X.w) X.A (isTrue e X.env whole) (TP X pins σ Q) X.xe s
theorem PW.pt {X:Cx} {e:Expr} {t:TT} (h:PW X e t):PT X e t:=h _
def PA (X:Cx) (es:List Expr) (t:TA):Prop:=
  ∀ (pos:Pos) (pins:List (Addr × Obj)) (s:Shared) (σ:St) (H:Hp) (Q:List V->Hp->Prop),Inv X pins σ H s->t σ H Q->wpAny (model X.prog X.w) X.A (spliced (backTo pos (starEach es X.env))) (AP X pins σ Q) X.xe s
def PS (X:Cx) (st:Stmt) (t:TS):Prop:=
  ∀ (pins:List (Addr × Obj)) (s:Shared) (σ:St) (H:Hp) (D:Ends),Inv X pins σ H s->t D σ H->wpAny (model X.prog X.w) X.A (exec st X.env) (SP X pins D) X.xe s
def PSs (X:Cx) (st:List Stmt) (t:TS):Prop:=
  ∀ (pins:List (Addr × Obj)) (s:Shared) (σ:St) (H:Hp) (D:Ends),Inv X pins σ H s->t D σ H->wpAny (model X.prog X.w) X.A (execs st X.env) (SP X pins D) X.xe s
theorem thn {α:Type} {t:Sem α} {Q Q':α->Shared->Prop} {M:Model} {A:Around} {E:Value->Shared->Prop} {s:Shared} (h:wpAny M A t Q E s) (hQ:∀ a s,Q a s->Q' a s):wpAny M A t Q' E s:=wpAny_mono h hQ λ _ _ x=>x
section
variable {X:Cx}
theorem bin {a b:Expr} {ta tb:TE} (ha:PE X a ta) (hb:PE X b tb) {pins:List (Addr × Obj)} {s:Shared} {σ:St} {H:Hp} {R:V->V->Hp->Prop} (I:Inv X pins σ H s) (h:ta σ H λ x H1=>tb σ H1 λ y H2=>R x y H2)
    {α:Type} {Q:α->Shared->Prop} {f:Value->Value->Sem α}
    (hf:∀ v u s2 x y H2,Inv X pins σ H2 s2->RelV x v->RelV y u->R x y H2->wpAny (model X.prog X.w) X.A (f v u) Q X.xe s2):
    wpAny (model X.prog X.w) X.A (eval a X.env) (λ v s₁=>wpAny (model X.prog X.w) X.A (eval b X.env) (λ u s₂=>wpAny (model X.prog X.w) X.A (f v u) Q X.xe s₂) X.xe s₁) X.xe s:=by
  refine thn (ha pins s σ H _ I h) λ v s1 ⟨x,H1,I1,r1,q1⟩=> ?_;refine thn (hb pins s1 σ H1 _ I1 q1) λ u s2 ⟨y,H2,I2,r2,q2⟩=> ?_;exact hf v u s2 x y H2 I2 r1 r2 q2
def Hv (i:Nat):TE:=λ σ H Q=>∃ v,σ[i]?=some (some v)/\Q v H
def tC (v:V):TE:=λ _ H Q=>Q v H
theorem QH {i:Nat} {x:Str} {pos:Pos} (hN:X.N[i]?=some x) (hv:Vis X.env.scope x) (hd:(x == ("__debug__":Str))=false:=by decide) (hcd:(x == ("__classdict__":Str))=false:=by decide):PE X (.Name x pos) (Hv i):=by
  intro pins s σ H Q I h;obtain ⟨v,e,h⟩:=h;obtain ⟨m,hn,hl⟩:=I.loc;obtain ⟨u,r,l⟩:=hl i x v hN e hv;have fin:EP X pins σ Q u s:=⟨v,H,I,r,h⟩;rcases l with ⟨hk,hm⟩ | ⟨hk,c,hc,hcell⟩
  · exact wpAny_Name (wpAny_loadName_local I.ok.kind hk hn hm fin) hd
  · rcases hk with hk | hk
    · exact wpAny_Name (wpAny_loadName_cell I.ok.kind hk hc hcell fin) hd
    · exact wpAny_Name (wpAny_loadName_free I.ok.kind hk hc hcell fin hcd) hd
theorem Ae {i j pos}:PE X (.Constant (.int i) j pos) (tC (.int i)):=λ _ _ _ H _ I h=>wpAny_Constant_int ⟨.int i,H,I.tok _,⟨_,rfl⟩,h⟩
theorem ED {b j pos}:PE X (.Constant (.bool b) j pos) (tC (.bl b)):=λ _ _ _ H _ I h=>Constant_bool ⟨.bl b,H,I,rfl,h⟩
theorem Cv {j pos}:PE X (.Constant .none j pos) (tC .non):=λ _ _ _ H _ I h=>Constant_none ⟨.non,H,I,rfl,h⟩
theorem Ap {x j pos}:PE X (.Constant (.str x) j pos) (tC (.str x)):=λ _ _ _ H _ I h=>Calls.Constant_str ⟨.str x,H,I.tok _,⟨_,rfl⟩,h⟩
def Gl (X:Cx) (x:Str):Prop:=X.env.kindOf x=some .globalImplicit
theorem Fi {E:Value->Shared->Prop} {pins:List (Addr × Obj)} {s:Shared} {σ:St} {H:Hp} {x:Str} {u:Value} {pos:Pos} {Q:Value->Shared->Prop} (I:Inv X pins σ H s) (hg:Gl X x) (hm:X.mg x=some u) (h:Q u s)
    (hd:(x == ("__debug__":Str))=false:=by decide):wpAny (model X.prog X.w) X.A (eval (.Name x pos) X.env) Q E s:=
  Calls.Name_function_global I.ok.kind hg (Calls.loadGlobal_global (by rw [I.ok.glob];exact I.mod.glob.keeps I.bk) hm h) hd
theorem CZ {E:Value->Shared->Prop} {pins:List (Addr × Obj)} {s:Shared} {σ:St} {H:Hp} {x:Str} {u:Value} {pos:Pos} {Q:Value->Shared->Prop} (I:Inv X pins σ H s) (hg:Gl X x) (hm:X.mg x=none) (hv:bootBuiltins x=some u) (h:Q u s)
    (hn:x≠"__name__":=by decide) (hd:(x == ("__debug__":Str))=false:=by decide):wpAny (model X.prog X.w) X.A (eval (.Name x pos) X.env) Q E s:=by
  obtain ⟨mb,h1,h2⟩:=I.mod.blt;exact Calls.Name_function_global I.ok.kind hg (Calls.loadGlobal_builtin (by rw [I.ok.glob];exact I.mod.glob.keeps I.bk) hm (by rw [I.ok.blt];exact h1.keeps I.bk) ((h2 x hn).trans hv) h) hd
theorem Jj {x:Str} {v:V} {u:Value} {pos:Pos} (hg:Gl X x) (hm:X.mg x=some u) (r:RelV v u) (hd:(x == ("__debug__":Str))=false:=by decide):PE X (.Name x pos) (tC v):=
  λ _ _ _ H _ I h=>Fi I hg hm ⟨v,H,I,r,h⟩ hd
theorem OI {x:Str} {v:V} {u:Value} {pos:Pos} (hg:Gl X x) (hm:X.mg x=none) (hv:bootBuiltins x=some u) (r:RelV v u) (hn:x≠"__name__":=by decide) (hd:(x == ("__debug__":Str))=false:=by decide):PE X (.Name x pos) (tC v):=
  λ _ _ _ H _ I h=>CZ I hg hm hv ⟨v,H,I,r,h⟩ hn hd
variable {a b:Expr} {ta tb:TE} {pos:Pos}
def PC (X:Cx) (op:CmpOp) (a b:Expr) (t:TE):Prop:=
  ∀ (pins:List (Addr × Obj)) (s:Shared) (σ:St) (H:Hp) (Q:VK),Inv X pins σ H s->t σ H Q->
    wpAny (model X.prog X.w) X.A (eval a X.env) (λ v s₁=>wpAny (model X.prog X.w) X.A (eval b X.env) (λ u s₂=>wpAny (model X.prog X.w) X.A (compareOp op v u) (EP X pins σ Q) X.xe s₂) X.xe s₁) X.xe s
theorem Oj (b:Expr) {op:CmpOp} (h:op≠ .In) (h2:op≠ .NotIn):behindInMarks op b=false:=by
  have e1:(op == CmpOp.In)=false:=by cases op <;> first | rfl | exact absurd rfl h
  have e2:(op == CmpOp.NotIn)=false:=by cases op <;> first | rfl | exact absurd rfl h2
  cases b <;> simp [behindInMarks,e1,e2]
def tB (t:TE):TT:=λ σ H Q=>t σ H λ x H1=>∃ c,x= .bl c/\Q c H1
theorem YU {op:CmpOp} {t:TE} (h:PC X op a b t) (h1:behindInMarks op b=false:=by first | exact Oj _ (by decide) (by decide) | rfl):PT X (.Compare a [op] [b] pos) (tB t):=by
  intro pins s σ H Q I hw;refine wpAny_isTrue_Compare1 (thn (h pins s σ H _ I hw) λ v s1 h1=>thn h1 λ u s2 h2=>thn h2 λ c s3 ⟨x,H1,I1,r1,q1⟩=> ?_) h1;obtain ⟨d,rfl,q⟩:=q1;cases r1;exact wpAny_truthy_bool ⟨H1,I1,q⟩
theorem Bs {e:Expr} {t:TE} (h:PE X e t) (he:∀ whole,isTrue e X.env whole=(do let v <-whole;standAt e.pos;holding [v] (truthy v)):=by intro _;rfl):PT X e (tB t):=by
  intro pins s σ H Q I hw;refine isTrue_plain (thn (h pins s σ H _ I hw) λ v s1 ⟨x,H1,I1,r1,q1⟩=> ?_) (he _);obtain ⟨d,rfl,q⟩:=q1;cases r1;exact wpAny_truthy_bool ⟨H1,I1,q⟩
variable {tA tB':TT} {rest:List Expr}
def SE (t u:TT):TT:=λ σ H Q=>t σ H λ c H1=>if c=true then u σ H1 Q else Q false H1
def tOr (t u:TT):TT:=λ σ H Q=>t σ H λ c H1=>if c=true then Q true H1 else u σ H1 Q
def UM (t:TT):TT:=λ σ H Q=>t σ H λ c H1=>Q (!c) H1
theorem Jz (ha:PT X a tA):PW X (.BoolOp .And [a] pos) tA:=by
  intro wh pins s σ H Q I h;refine isTrue_and (thn (ha pins s σ H Q I h) λ c s1 e=> ?_);cases c with
  | true=>exact isTrue_and_nil e
  | false=>exact e
theorem GZ (ha:PT X a tA):PW X (.BoolOp .Or [a] pos) tA:=by
  intro wh pins s σ H Q I h;refine isTrue_or (thn (ha pins s σ H Q I h) λ c s1 e=> ?_);cases c with
  | false=>exact isTrue_or_nil e
  | true=>exact e
theorem JH (ha:PT X a tA) (hb:PW X (.BoolOp .And (b::rest) pos) tB'):PW X (.BoolOp .And (a::b::rest) pos) (SE tA tB'):=by
  intro wh pins s σ H Q I h;refine isTrue_and (thn (ha pins s σ H _ I h) λ c s1 ⟨H1,I1,q1⟩=> ?_);cases c with
  | true=>exact hb wh pins s1 σ H1 Q I1 q1
  | false=>exact ⟨H1,I1,q1⟩
theorem IC (ha:PT X a tA) (hb:PW X (.BoolOp .Or (b::rest) pos) tB'):PW X (.BoolOp .Or (a::b::rest) pos) (tOr tA tB'):=by
  intro wh pins s σ H Q I h;refine isTrue_or (thn (ha pins s σ H _ I h) λ c s1 ⟨H1,I1,q1⟩=> ?_);cases c with
  | true=>exact ⟨H1,I1,q1⟩
  | false=>exact hb wh pins s1 σ H1 Q I1 q1
theorem Cn (ha:PT X a tA):PT X (.UnaryOp .Not a pos) (UM tA):=by
  intro pins s σ H Q I h;exact isTrue_not (ha pins s σ H (λ c H1=>Q (!c) H1) I h)
def Ly (ta tb:TE):TE:=λ σ H Q=>ta σ H λ x H1=>∃ c,x= .bl c/\if c=true then tb σ H1 Q else Q (.bl false) H1
def Ql (ta:TE):TE:=λ σ H Q=>ta σ H λ x H1=>∃ c,x= .bl c/\Q (.bl (!c)) H1
theorem EJ {op} {t:TE} (h:PE X a t):PE X (.BoolOp op [a] pos) t:=λ pins s σ H Q I hw=>BoolOp_one (h pins s σ H Q I hw)
theorem De (ha:PE X a ta) (hb:PE X (.BoolOp .And (b::rest) pos) tb):PE X (.BoolOp .And (a::b::rest) pos) (Ly ta tb):=by
  intro pins s σ H Q I h;refine BoolOp_and (thn (ha pins s σ H _ I h) λ v s1 ⟨x,H1,I1,r1,q1⟩=> ?_);obtain ⟨c,rfl,q1⟩:=q1;cases r1;refine wpAny_truthy_bool ?_;cases c with
  | true=>exact hb pins s1 σ H1 Q I1 q1
  | false=>exact ⟨.bl false,H1,I1,rfl,q1⟩
theorem N9 (ha:PE X a ta):PE X (.UnaryOp .Not a pos) (Ql ta):=by
  intro pins s σ H Q I h;refine UnaryOp_ (thn (ha pins s σ H _ I h) λ v s1 ⟨x,H1,I1,r1,q1⟩=> ?_);obtain ⟨c,rfl,q1⟩:=q1;cases r1;exact not_of (wpAny_truthy_bool ⟨.bl (!c),H1,I1,rfl,q1⟩)
def tIf (t:TT) (ta tb:TE):TE:=λ σ H Q=>t σ H λ c H1=>if c=true then ta σ H1 Q else tb σ H1 Q
theorem GQ {c:Expr} (hc:PT X c tA) (ha:PE X a ta) (hb:PE X b tb):PE X (.IfExp c a b pos) (tIf tA ta tb):=by
  intro pins s σ H Q I h;refine wpAny_IfExp (thn (hc pins s σ H _ I h) λ d s1 ⟨H1,I1,q1⟩=> ?_);cases d with
  | true=>exact ha pins s1 σ H1 Q I1 q1
  | false=>exact hb pins s1 σ H1 Q I1 q1
end
def SqL (K:PySem.W.Frag) (H:Hp) (a:Addr) (xs:List V):Prop:=
  Rd H a (.lst xs)\/
    ∃ (o:Obj) (its:Array Value) (n:Nat),K.lookup a=some o/\o.cls= .type "list"/\o.dict=none/\o.data= .seq its n/\its.size<=sizeLine/\Vals xs its.toList
def SqT (K:PySem.W.Frag) (H:Hp) (a:Addr) (xs:List V):Prop:=
  Rd H a (.tup xs)\/
    ∃ (o:Obj) (its:Array Value) (n:Nat),K.lookup a=some o/\o.cls= .type "tuple"/\o.data= .seq its n/\its.size<=sizeLine/\Vals xs its.toList
noncomputable def YX:Value->Option V
  | .none=>some .non
  | .bool b=>some (.bl b)
  | .int i _=>some (.int i)
  | .str x _=>some (.str x)
  | .bytes b _=>some (.byt b)
  | .float b _=>some (.flt b)
  | .ref a=>some (.ref a)
  | .type n=>some (.ty n)
  | _=>none
theorem RelV.abs {x:V} {u:Value} (r:RelV x u):YX u=some x:=by
  cases x with
  | non=>cases r;rfl
  | bl _=>cases r;rfl
  | int _=>obtain ⟨t,rfl⟩:=r;rfl
  | str _=>obtain ⟨t,rfl⟩:=r;rfl
  | byt _=>obtain ⟨t,rfl⟩:=r;rfl
  | flt _=>obtain ⟨t,rfl⟩:=r;rfl
  | ref _=>cases r;rfl
  | ty _=>cases r;rfl
theorem RelV.inj {x y:V} {u:Value} (r:RelV x u) (q:RelV y u):x=y:=Option.some.inj (r.abs.symm.trans q.abs)
theorem Vals.inj:∀ {xs ys:List V} {us:List Value},Vals xs us->Vals ys us->xs=ys
  | _,_,_, .nil, .nil=>rfl
  | _,_,_, .cons r t, .cons r' t'=>by rw [r.inj r',Vals.inj t t']
section
variable {X:Cx} {pins:List (Addr × Obj)} {σ:St} {H:Hp} {s:Shared} {a:Addr} {xs ys:List V}
theorem SqL.of {K:PySem.W.Frag} (h:H a=some (.lst xs)):SqL K H a xs:= .inl (.inl h)
theorem SqT.of {K:PySem.W.Frag} (h:H a=some (.tup xs)):SqT K H a xs:= .inl (.inl h)
theorem Inv.list (I:Inv X pins σ H s) (h:SqL X.K H a xs):∃ its:List Value,Vals xs its/\PlainL s.heap a its.toArray/\xs.length<=sizeLine:=by
  rcases h with h | ⟨o,its,n,hk,hc,hd,hs,hz,r⟩
  · obtain ⟨z,its,n,r,e⟩:=h.ok I.hok;exact ⟨its,r,⟨_,n,e,rfl,rfl,rfl⟩,z⟩
  · refine ⟨its.toList,r,⟨o,n,I.kIn a o hk,hc,hd,by simpa using hs⟩,?_⟩;have e:=r.length;simp only [Array.length_toList] at e;omega
theorem Inv.tuple (I:Inv X pins σ H s) (h:SqT X.K H a xs):∃ its:List Value,Vals xs its/\IsTup s.heap a its.toArray/\xs.length<=sizeLine:=by
  rcases h with h | ⟨o,its,n,hk,hc,hs,hz,r⟩
  · obtain ⟨z,its,r,p⟩:=h.ok I.hok;exact ⟨its,r,p,z⟩
  · refine ⟨its.toList,r,⟨o,I.kIn a o hk,hc,n,by simpa using hs⟩,?_⟩;have e:=r.length;simp only [Array.length_toList] at e;omega
theorem Inv.list_inj (I:Inv X pins σ H s) (h:SqL X.K H a xs) (h':SqL X.K H a ys):xs=ys:=by
  obtain ⟨its,r,⟨o,n,e,_,_,d⟩,_⟩:=I.list h;obtain ⟨its',r',⟨o',n',e',_,_,d'⟩,_⟩:=I.list h';rw [e] at e';cases e';rw [d] at d';injection d' with d1 _;have:its=its':=by simpa using congrArg Array.toList d1
  subst this;exact r.inj r'
theorem Inv.tuple_inj (I:Inv X pins σ H s) (h:SqT X.K H a xs) (h':SqT X.K H a ys):xs=ys:=by
  obtain ⟨its,r,⟨o,e,_,n,d⟩,_⟩:=I.tuple h;obtain ⟨its',r',⟨o',e',_,n',d'⟩,_⟩:=I.tuple h';rw [e] at e';cases e';rw [d] at d';injection d' with d1 _;have:its=its':=by simpa using congrArg Array.toList d1
  subst this;exact r.inj r'
end
noncomputable abbrev Cx.wish (X:Cx) (E:Value->Shared->Prop):Cx:={ X with xe:=E }
noncomputable abbrev Cx.nox (X:Cx):Cx:=X.wish λ _ _=>False
theorem Cx.Ok.wish {X:Cx} (ok:X.Ok) (E:Value->Shared->Prop):(X.wish E).Ok:=
  ⟨ok.mod,ok.kind,ok.glob,ok.blt,ok.above,ok.inj,ok.has,ok.cab,ok.hd,ok.frames,ok.stk,ok.exf,ok.bs,ok.bsz,ok.noex,ok.exfs,ok.funs,ok.frf⟩
theorem Cx.Ok.unwish {X:Cx} {E:Value->Shared->Prop} (ok:(X.wish E).Ok):X.Ok:=
  ⟨ok.mod,ok.kind,ok.glob,ok.blt,ok.above,ok.inj,ok.has,ok.cab,ok.hd,ok.frames,ok.stk,ok.exf,ok.bs,ok.bsz,ok.noex,ok.exfs,ok.funs,ok.frf⟩
section
variable {X:Cx} {pins:List (Addr × Obj)} {σ:St} {H:Hp} {s:Shared} {E:Value->Shared->Prop}
theorem Inv.wish (I:Inv X pins σ H s) (E:Value->Shared->Prop):Inv (X.wish E) pins σ H s:=⟨I.ok.wish E,I.os,I.bare,I.base,I.loc,I.cell,I.free,I.freeC,I.pin,I.hok,I.len⟩
theorem Inv.unwish (I:Inv (X.wish E) pins σ H s):Inv X pins σ H s:=⟨I.ok.unwish,I.os,I.bare,I.base,I.loc,I.cell,I.free,I.freeC,I.pin,I.hok,I.len⟩
theorem SP.unwish {D:Ends} {f:Flow} {s':Shared} (h:SP (X.wish E) pins D f s'):SP X pins D f s':=by
  cases f with
  | next=>obtain ⟨σ',H',I,q⟩:=h;exact ⟨σ',H',I.unwish,q⟩
  | brk=>obtain ⟨σ',H',I,q⟩:=h;exact ⟨σ',H',I.unwish,q⟩
  | cont=>obtain ⟨σ',H',I,q⟩:=h;exact ⟨σ',H',I.unwish,q⟩
  | ret u=>obtain ⟨v,σ',H',I,r,q⟩:=h;exact ⟨v,σ',H',I.unwish,r,q⟩
theorem PSs.nox {st:List Stmt} {t:TS} (h:PSs X.nox st t):PSs X st t:=λ pins s σ H D I hw=>
  wpAny_mono (h pins s σ H D (I.wish _) hw) (λ _ _ q=>q.unwish) λ _ _ z=>False.elim z
end
section
variable {X:Cx} {st:Stmt} {rest:List Stmt} {t u:TS} {e:Expr} {te:TE} {pos:Pos}
def NN:TS:=λ D σ H=>D.nx σ H
def QQ (t u:TS):TS:=λ D σ H=>t { D with nx:=u D } σ H
theorem Az:PSs X [] NN:=λ _ _ σ H _ I h=>wpAny_execs_nil ⟨σ,H,I,h⟩
theorem Ad (h1:PS X st t) (h2:PSs X rest u):PSs X (st::rest) (QQ t u):=by
  intro pins s σ H D I h;refine wpAny_execs_cons (thn (h1 pins s σ H { D with nx:=u D } I h) λ f s1 q=> ?_);cases f with
  | next=>
    obtain ⟨σ',H',I',q⟩:=q;exact h2 pins s1 σ' H' D I' q
  | ret v=>exact q
  | brk=>exact q
  | cont=>exact q
theorem Ah (h1:PS X st t):PSs X [st] t:=by
  intro pins s σ H D I h;refine wpAny_execs_cons (thn (h1 pins s σ H D I h) λ f s1 q=> ?_);cases f with
  | next=>exact wpAny_execs_nil q
  | ret v=>exact q
  | brk=>exact q
  | cont=>exact q
theorem OQ:PS X (.Pass pos) NN:=λ _ _ σ H _ I h=>wpAny_Pass ⟨σ,H,I,h⟩
theorem Inv.quiet {pins:List (Addr × Obj)} {σ:St} {H:Hp} {s:Shared} (I:Inv X pins σ H s):interactive X.env=false:=by simp [interactive,I.ok.kind]
def Qm (te:TE):TS:=λ D σ H=>te σ H λ _ H1=>D.nx σ H1
theorem AT (he:PE X e te) (hs:swapsWith e none pos.line X.env=pure false:=by rfl):PS X (.Expr e pos) (Qm te):=by
  intro pins s σ H D I h;exact wpAny_Expr_any (thn (he pins s σ H _ I h) λ v s1 ⟨x,H1,I1,r1,q1⟩=>⟨σ,H1,I1,q1⟩) I.quiet hs
def RK (te:TE):TS:=λ D σ H=>te σ H D.rt
theorem An (he:PE X e te):PS X (.Return (some e) pos) (RK te):=by
  intro pins s σ H D I h;exact wpAny_Return_some (thn (he pins s σ H _ I h) λ v s1 ⟨x,H1,I1,r1,q1⟩=>⟨x,σ,H1,I1,r1,q1⟩)
def OD (c:TT) (t u:TS):TS:=λ D σ H=>c σ H λ b H1=>if b=true then t D σ H1 else u D σ H1
theorem A7 {c:Expr} {a b:List Stmt} {tc:TT} (hc:PT X c tc) (ha:PSs X a t) (hb:PSs X b u):PS X (.If c a b pos) (OD tc t u):=by
  intro pins s σ H D I h;refine wpAny_If (thn (hc pins s σ H _ I h) λ d s1 ⟨H1,I1,q1⟩=> ?_);cases d with
  | true=>exact ha pins s1 σ H1 D I1 q1
  | false=>exact hb pins s1 σ H1 D I1 q1
def R3:TS:=λ _ _ _=>False
theorem M0:PS X st R3:=λ _ _ _ _ _ _ h=>h.elim
end
abbrev TG:=V->St->Hp->(St->Hp->Prop)->Prop
abbrev TGs:=List V->St->Hp->(St->Hp->Prop)->Prop
def PG (X:Cx) (target:Expr) (t:TG):Prop:=
  ∀ (pins:List (Addr × Obj)) (s:Shared) (σ:St) (H:Hp) (v:V) (u:Value) (Q:St->Hp->Prop),Inv X pins σ H s->RelV v u->t v σ H Q->
    wpAny (model X.prog X.w) X.A (assign target X.env u) (λ _ s'=>∃ σ' H',Inv X pins σ' H' s'/\Q σ' H') X.xe s
def PGs (X:Cx) (ts:List Expr) (t:TGs):Prop:=
  ∀ (pins:List (Addr × Obj)) (s:Shared) (σ:St) (H:Hp) (vs:List V) (us:List Value) (Q:St->Hp->Prop),Inv X pins σ H s->Vals vs us->t vs σ H Q->
    wpAny (model X.prog X.w) X.A (assignInOrder ((assignEach ts X.env).map (·.2)) us) (λ _ s'=>∃ σ' H',Inv X pins σ' H' s'/\Q σ' H') X.xe s
abbrev KM:=V->V->V->Hp->(Hp->Prop)->Prop
def QC (X:Cx) (t:KM):Prop:=
  ∀ (pins:List (Addr × Obj)) (s:Shared) (σ:St) (H:Hp) (o i v:V) (ov iv u:Value) (Q:Hp->Prop),Inv X pins σ H s->RelV o ov->RelV i iv->RelV v u->t o i v H Q->
    wpAny (model X.prog X.w) X.A (setItem ov iv u) (λ _ s'=>∃ H',Inv X pins σ H' s'/\Q H') X.xe s
abbrev TIp:=V->V->Hp->VK->Prop
def PIp (X:Cx) (op:Operator) (t:TIp):Prop:=
  ∀ (pins:List (Addr × Obj)) (s:Shared) (σ:St) (H:Hp) (x y:V) (v u:Value) (Q:VK),Inv X pins σ H s->RelV x v->RelV y u->t x y H Q->
    wpAny (model X.prog X.w) X.A (inplaceOp op v u) (EP X pins σ Q) X.xe s
section
variable {X:Cx} {pos:Pos}
def AK (i:Nat):TG:=λ v σ H Q=>Q (σ.set i (some v)) H
theorem AO {i:Nat} {x:Str} (hN:X.N.Nodup) (hi:X.N[i]?=some x) (hx:Loc X.env.scope x) (hf:X.fn x=true\/X.env.scope.names.lookup x=some .local:=by first | exact .inl rfl | exact .inr rfl | assumption):PG X (.Name x pos) (AK i):=by
  intro pins s σ H v u Q I r h;exact wpAny_assign_Name (CJ I hN hi hx r (λ s' I'=>⟨_,H,I',h⟩) hf)
def HS:TGs:=λ vs σ H Q=>vs=[]/\Q σ H
def BB (t:TG) (u:TGs):TGs:=λ vs σ H Q=>∃ v r,vs=v::r/\t v σ H λ σ' H'=>u r σ' H' Q
theorem En:PGs X [] HS:=by
  intro pins s σ H vs us Q I r h;obtain ⟨e,h⟩:=h;subst e;cases r;exact assignInOrder_nil ⟨σ,H,I,h⟩
theorem A2 {e:Expr} {es:List Expr} {t:TG} {u:TGs} (h1:PG X e t) (h2:PGs X es u)
    (hs:(assignEach (e::es) X.env).map (·.2)=assign e X.env::(assignEach es X.env).map (·.2):=by rfl):PGs X (e::es) (BB t u):=by
  intro pins s σ H vs us Q I r h;obtain ⟨v,vr,e1,h⟩:=h;subst e1;cases r with
  | cons r rr=>
    rw [hs];refine assignInOrder_cons (thn (h1 pins s σ H _ _ _ I r h) λ _ s1 ⟨σ1,H1,I1,q1⟩=> ?_);exact h2 pins s1 σ1 H1 _ _ Q I1 rr q1
def GW (K:PySem.W.Frag) (n:Nat) (t:TGs):TG:=λ v σ H Q=>∃ a xs,v= .ref a/\SqT K H a xs/\xs.length=n/\t xs σ H Q
theorem NO {es:List Expr} {k:Nat} {t:TGs} {n:Nat} (hc:X.calm=true) (h:PGs X es t)
    (hn:(assignEach es X.env).length=n:=by rfl) (hst:(assignEach es X.env).findIdx? (·.1)=none:=by rfl):PG X (.Tuple es k pos) (GW X.K n t):=by
  intro pins s σ H v u Q I r hw;obtain ⟨a,xs,e1,hq,hl,hw⟩:=hw;subst e1;cases r;obtain ⟨its,rv,ht,hz⟩:=I.tuple hq;refine assign_Tuple_tuple (I.ok.hd hc) ht (by simp [hn, <-hl,rv.length]) hst λ h' hx=> ?_;have I1:Inv X pins σ H { s with heap:=h' }:=I.kept (t':=s.toks) λ b o e=>hx b o (Nat.ne_of_lt (Heap.lt_size e)) e;exact h pins _ σ H xs _ Q I1 (by simpa using rv) hw
def WI (to ti:TE) (t:KM):TG:=λ v σ H Q=>to σ H λ o H1=>ti σ H1 λ i H2=>t o i v H2 λ H3=>Q σ H3
theorem KK {o i:Expr} {to ti:TE} {t:KM} (ho:PE X o to) (hi:PE X i ti) (hs:QC X t)
    (ha:∀ v,assign (.Subscript o i pos) X.env v=(do
      let ov <-holding [v] (eval o X.env);let iv <-holding [v,ov] (eval i X.env)
      standAt pos
      holding [v,ov,iv] (setItem ov iv v)
      release [v,ov,iv] []):=by intro _;rfl):PG X (.Subscript o i pos) (WI to ti t):=by
  intro pins s σ H v u Q I r h;rw [ha];refine wpAny_bind (wpAny_holding (thn (ho pins s σ H _ I h) λ ov s1 ⟨x,H1,I1,r1,q1⟩=> ?_));refine wpAny_bind (wpAny_holding (thn (hi pins s1 σ H1 _ I1 q1) λ iv s2 ⟨y,H2,I2,r2,q2⟩=> ?_));refine wpAny_bind (wpAny_standAt (wpAny_bind (wpAny_holding (thn (hs pins s2 σ H2 x y v ov iv u _ I2 r1 r2 r q2) λ _ s3 ⟨H3,I3,q3⟩=> ?_))));exact wpAny_release ⟨σ,H3,I3,q3⟩
def Mi (te:TE) (g:TG):TS:=λ D σ H=>te σ H λ x H1=>g x σ H1 D.nx
theorem Jo {tg e:Expr} {te:TE} {g:TG} (he:PE X e te) (hg:PG X tg g) (hs:swapsWithSole [tg] e pos.line X.env=pure false:=by rfl) (hw:swappedStores [tg] e X.env=pure none:=by rfl)
    (h1:(assignEach [tg] X.env).map (·.2)=[assign tg X.env]:=by rfl):PS X (.Assign [tg] e pos) (Mi te g):=by
  intro pins s σ H D I h;refine wpAny_Assign_stores (thn (he pins s σ H _ I h) λ v s1 ⟨x,H1,I1,r1,q1⟩=> ?_) hs hw;rw [h1];exact thn (hg pins s1 σ H1 x v _ I1 r1 q1) λ _ s2 q=>q
theorem Ao {i:Nat} {x:Str} {e:Expr} {te:TE} {pos':Pos} (hN:X.N.Nodup) (hi:X.N[i]?=some x) (hx:Loc X.env.scope x) (he:PE X e te) (hs:swapsWith e (some (.Name x pos')) pos.line X.env=pure false:=by rfl) (hf:X.fn x=true\/X.env.scope.names.lookup x=some .local:=by first | exact .inl rfl | exact .inr rfl | assumption):
    PS X (.Assign [.Name x pos'] e pos) (Mi te (AK i)):=by
  intro pins s σ H D I h;refine wpAny_Assign_Name (thn (he pins s σ H _ I h) λ v s1 ⟨y,H1,I1,r1,q1⟩=> ?_) hs;exact CJ I1 hN hi hx r1 (λ s2 I2=>⟨_,H1,I2,q1⟩) hf
def Tt (i:Nat) (te:TE) (ti:TIp):TS:=λ D σ H=>∃ x,σ[i]?=some (some x)/\te σ H λ y H1=>ti x y H1 λ z H2=>D.nx (σ.set i (some z)) H2
theorem Nd {i:Nat} {x:Str} {e:Expr} {te:TE} {op:Operator} {ti:TIp} {pos':Pos} (hN:X.N.Nodup) (hi:X.N[i]?=some x) (hx:Loc X.env.scope x) (he:PE X e te) (ho:PIp X op ti) (hf:X.fn x=true\/X.env.scope.names.lookup x=some .local:=by first | exact .inl rfl | exact .inr rfl | assumption):
    PS X (.AugAssign (.Name x pos') op e pos) (Tt i te ti):=by
  intro pins s σ H D I h;obtain ⟨v,e1,h⟩:=h;obtain ⟨m,hn,hl⟩:=I.loc;have vis:Vis X.env.scope x:=by rcases hx with k | k;exact .inl k;exact .inr (.inl k)
  obtain ⟨u,r,l⟩:=hl i x v hi e1 vis;refine wpAny_AugAssign_Name ?_;have go:wpAny (model X.prog X.w) X.A (eval e X.env) (λ w s₂=>wpAny (model X.prog X.w) X.A (inplaceOp op u w) (λ r s₃=>wpAny (model X.prog X.w) X.A (storeName X.env x r) (λ _=>SP X pins D .next) X.xe s₃) X.xe s₂) X.xe s:=by
    refine thn (he pins s σ H _ I h) λ w s1 ⟨y,H1,I1,r1,q1⟩=> ?_;refine thn (ho pins s1 σ H1 v y u w _ I1 r r1 q1) λ z s2 ⟨zv,H2,I2,r2,q2⟩=> ?_;exact CJ I2 hN hi hx r2 (λ s3 I3=>⟨_,H2,I3,q2⟩) hf
  rcases l with ⟨hk,hm⟩ | ⟨hk,c,hc,hcell⟩
  · exact wpAny_loadName_local I.ok.kind hk hn hm go
  · rcases hk with hk | hk
    · exact wpAny_loadName_cell I.ok.kind hk hc hcell go
    · rcases hx with k | k
      · have:X.env.scope.names.lookup x=some .free:=hk;rw [k] at this;cases this
      · have:X.env.scope.names.lookup x=some .free:=hk;rw [k] at this;cases this
def P1 (to ti te:TE) (tget:V->V->Hp->VK->Prop) (tip:TIp) (tset:KM):TS:=λ D σ H=>to σ H λ o H1=>ti σ H1 λ i H2=>tget o i H2 λ x H3=>te σ H3 λ y H4=>tip x y H4 λ z H5=>tset o i z H5 λ H6=>D.nx σ H6
def QR (X:Cx) (t:V->V->Hp->VK->Prop):Prop:=
  ∀ (pins:List (Addr × Obj)) (s:Shared) (σ:St) (H:Hp) (o i:V) (ov iv:Value) (Q:VK),Inv X pins σ H s->RelV o ov->RelV i iv->t o i H Q->
    wpAny (model X.prog X.w) X.A (getItem ov iv) (EP X pins σ Q) X.xe s
theorem Ot {o i e:Expr} {to ti te:TE} {tget:V->V->Hp->VK->Prop} {tip:TIp} {tset:KM} {op:Operator} {tpos:Pos} (ho:PE X o to) (hi:PE X i ti) (hg:QR X tget) (he:PE X e te) (hp:PIp X op tip) (hs:QC X tset)
    (ha:∀ ov iv new,augStore i ov iv new=(do holding [new,ov,iv] (setItem ov iv new);release [new,ov,iv] [];pure .next):=by intros;rfl):PS X (.AugAssign (.Subscript o i tpos) op e pos) (P1 to ti te tget tip tset):=by
  intro pins s σ H D I h;refine wpAny_AugAssign_SubscriptAny (thn (ho pins s σ H _ I h) λ ov s1 ⟨x1,H1,I1,r1,q1⟩=> ?_) ha;refine thn (hi pins s1 σ H1 _ I1 q1) λ iv s2 ⟨x2,H2,I2,r2,q2⟩=> ?_;refine thn (hg pins s2 σ H2 x1 x2 ov iv _ I2 r1 r2 q2) λ old s3 ⟨x3,H3,I3,r3,q3⟩=> ?_;refine thn (he pins s3 σ H3 _ I3 q3) λ v s4 ⟨x4,H4,I4,r4,q4⟩=> ?_;refine thn (hp pins s4 σ H4 x3 x4 old v _ I4 r3 r4 q4) λ new s5 ⟨x5,H5,I5,r5,q5⟩=> ?_;exact thn (hs pins s5 σ H5 x1 x2 x5 ov iv new _ I5 r1 r2 r5 q5) λ _ s6 ⟨H6,I6,q6⟩=>⟨σ,H6,I6,q6⟩
end
section
variable {X:Cx} {pos:Pos}
def Q1 (c:TT) (tb:TS):TS:=λ D σ H=>∃ W:Nat->St->Hp->Prop,(∃ m,W m σ H)/\∀ m σ H,W m σ H->
  c σ H λ b H1=>if b=true then ∃ N:St->Hp->Prop,(∀ σ' H',N σ' H'->∃ m',m'<m/\W m' σ' H')/\tb { D with nx:=N,ct:=N,bk:=D.nx } σ H1 else D.nx σ H1
theorem NP {c:Expr} {body:List Stmt} {tc:TT} {tb:TS} (hp:PassesOwn (model X.prog X.w) X.A X.env X.xe) (hc:PT X c tc) (hb:PSs X body tb):PS X (.While c body [] pos) (Q1 tc tb):=by
  intro pins s σ H D I h;obtain ⟨W,⟨m0,w0⟩,turn⟩:=h;refine wpAny_While (codeAny_whileLoop (λ n s'=>∃ σ' H',Inv X pins σ' H' s'/\W n σ' H') ?_ m0 ⟨σ,H,I,w0⟩);rintro n s1 ⟨σ1,H1,I1,w1⟩;refine wpAny_passesOwn hp (thn (hc pins s1 σ1 H1 _ I1 (turn n σ1 H1 w1)) λ b s2 ⟨H2,I2,q2⟩=> ?_);cases b with
  | true=>
    obtain ⟨N,hN,q2⟩:=q2;rw [if_pos rfl];refine wpAny_passesOwn hp (thn (hb pins s2 σ1 H2 _ I2 q2) λ f s3 q3=> ?_);cases f with
    | next=>
      obtain ⟨σ3,H3,I3,n3⟩:=q3;obtain ⟨m',hm,w3⟩:=hN σ3 H3 n3;exact ⟨m',hm,σ3,H3,I3,w3⟩
    | cont=>
      obtain ⟨σ3,H3,I3,n3⟩:=q3;obtain ⟨m',hm,w3⟩:=hN σ3 H3 n3;exact ⟨m',hm,σ3,H3,I3,w3⟩
    | brk=>exact q3
    | ret v=>exact q3
  | false=>
    rw [if_neg Bool.false_ne_true];exact wpAny_execs_nil ⟨σ1,H2,I2,q2⟩
end
structure It where
  go:Nat->Hp->Prop
  yld:Nat->Hp->V->Hp->Prop
  stop:Nat->Hp->Prop
def DG (X:Cx) (pins:List (Addr × Obj)) (H:Hp) (b:Addr):Prop:=
  H b=none/\b≠X.env.locals/\b∉X.fs/\(b∈X.ex\/X.s₀.heap.objs.size<=b)/\(∀ x c,X.env.cells.lookup x=some c->c≠b)/\∀ p∈X.pn++pins,p.1≠b
theorem Inv.fpOk {X:Cx} {pins:List (Addr × Obj)} {σ:St} {H H':Hp} {s:Shared} {b:Addr} (I:Inv X pins σ H s) (hb:s.heap.objs.size<=b) (hn:H' b=none):DG X pins H' b:=by
  refine ⟨hn,Nat.ne_of_gt (Nat.lt_of_lt_of_le I.lt hb),I.nofs hb, .inr (Nat.le_trans I.sz hb),λ x c e z=> ?_,λ p hp z=> ?_⟩
  · obtain ⟨v,q⟩:=I.cell x c e;exact absurd (Nat.lt_of_lt_of_le q.lt (by rw [z];exact hb)) (Nat.lt_irrefl _)
  · exact absurd (Nat.lt_of_lt_of_le (Heap.lt_size (I.pin p hp).1) (by rw [z];exact hb)) (Nat.lt_irrefl _)
structure Turn (P:Program) (w:World) (K:PySem.W.Frag) (tg:Expr) (J:It) (fp:List Addr) (it:Addr) (tn:Nat->Heap->Prop):Prop where
  mem:it∈fp
  obj:∀ i h,tn i h->∀ b∈fp,∃ o,h.get? b=some o/\∀ v,o.data≠ .cell v
  keep:∀ i h h',tn i h->(∀ b∈fp,∀ o,h.get? b=some o->h'.get? b=some o)->tn i h'
  item:∀ (X:Cx),X.prog=P->X.w=w->X.K=K->X.calm=true->∀ (i:Nat) (pins:List (Addr × Obj)) (s:Shared) (σ:St) (H:Hp) (E:Value->Shared->Prop),Inv X pins σ H s->(∀ b∈fp,DG X pins H b)->tn i s.heap->J.go i H->
    wpAny (model P w) X.A (pyNext (.ref it)) (λ r s1=>∃ u,r=some u/\
      wpAny (model P w) X.A (letOwnedTupleGo tg (.ref it) u) (λ _ s2=>∃ x H',Inv X pins σ H' s2/\RelV x u/\J.yld i H x H'/\tn (i+1) s2.heap/\∀ b∈fp,H' b=none) E s1) E s
  done:∀ (X:Cx),X.prog=P->X.w=w->X.K=K->X.calm=true->∀ (i:Nat) (pins:List (Addr × Obj)) (s:Shared) (σ:St) (H:Hp) (E:Value->Shared->Prop),Inv X pins σ H s->(∀ b∈fp,DG X pins H b)->tn i s.heap->J.stop i H->
    wpAny (model P w) X.A (pyNext (.ref it)) (λ r s1=>r=none/\Inv X pins σ H s1) E s
  self:∀ (A:Around) (i:Nat) (s:Shared) (Q:Value->Shared->Prop) (E:Value->Shared->Prop),tn i s.heap->Q (.ref it) s->wpAny (model P w) A (pyIter (.ref it)) Q E s
abbrev TI:=St->Hp->(It->Hp->Prop)->Prop
def PIE (X:Cx) (pins:List (Addr × Obj)) (σ:St) (tg:Expr) (R:It->Hp->Prop) (itv:Value) (s2:Shared):Prop:=
  ∃ (it:Addr) (fp:List Addr) (tn:Nat->Heap->Prop) (J:It) (H':Hp),itv= .ref it/\Inv X pins σ H' s2/\Turn X.prog X.w X.K tg J fp it tn/\tn 0 s2.heap/\(∀ b∈fp,DG X pins H' b)/\R J H'
def PI (X:Cx) (tg iter:Expr) (wi:TI):Prop:=
  ∀ (pins:List (Addr × Obj)) (s:Shared) (σ:St) (H:Hp) (R:It->Hp->Prop),Inv X pins σ H s->wi σ H R->
    wpAny (model X.prog X.w) X.A (eval iter X.env) (λ v s1=>wpAny (model X.prog X.w) X.A (pyIter v) (PIE X pins σ tg R) X.xe s1) X.xe s
theorem LV {M:Model} {A:Around} {E:Value->Shared->Prop} {s:Shared} {tg:Expr} {it:Addr} {u:Value} {o:Obj} {n:String} {vs:Array Value} {Q:Unit->Shared->Prop} (ho:s.heap.get? it=some o) (hc:o.cls= .type n) (hd:o.data= .fields vs)
    (hn:["enumerate","zip","dict_itemiterator","dict_reverseitemiterator","odict_iterator","itertools.zip_longest","itertools.pairwise"].contains n=false) (hQ:Q () s):wpAny M A (letOwnedTupleGo tg (.ref it) u) Q E s:=by
  unfold letOwnedTupleGo;cases tg <;> first
    | exact wpAny_pure hQ
    | (cases u <;> first
        | exact wpAny_pure hQ
        | (refine wpAny_bind (wpAny_load ho ?_)
           rw [hc,hd];show wpAny M A (if (["enumerate","zip","dict_itemiterator","dict_reverseitemiterator","odict_iterator","itertools.zip_longest","itertools.pairwise"].contains n&&vs[0]? == some (rawInt _))=true then _ else _) Q E s;rw [if_neg (by intro h;rw [hn,Bool.false_and] at h;cases h)];exact wpAny_pure hQ))
noncomputable def Itl (K:PySem.W.Frag) (a:Addr):It:=
  ⟨λ i H=>∃ xs x,SqL K H a xs/\xs[i]?=some x,λ i H x H'=>H'=H/\∀ xs,SqL K H a xs->xs[i]?=some x,λ i H=>∃ xs,SqL K H a xs/\xs.length<=i⟩
noncomputable def Itt (K:PySem.W.Frag) (a:Addr):It:=
  ⟨λ i H=>∃ xs x,SqT K H a xs/\xs[i]?=some x,λ i H x H'=>H'=H/\∀ xs,SqT K H a xs->xs[i]?=some x,λ i H=>∃ xs,SqT K H a xs/\xs.length<=i⟩
noncomputable def Itr (lo:Int) (n:Nat):It:=⟨λ i _=>i<n,λ i H x H'=>H'=H/\x= .int (lo+i),λ i _=>n<=i⟩
theorem Iw {P:Program} {w:World} {K:PySem.W.Frag} {tg:Expr} (a it:Addr):Turn P w K tg (Itl K a) [it] it (λ i h=>h.IsListIter it a i) where
  mem:=by simp
  obj:=λ i h st b hb=>by
    have e:b=it:=by simpa using hb
    subst e;obtain ⟨o,e,c,d⟩:=st;exact ⟨o,e,λ v z=>by rw [d] at z;cases z⟩
  keep:=λ i h h' st k=>st.at λ o e=>k it (by simp) o e
  item:=by
    intro X hP hw hK hc i pins s σ H E I hf st hg;subst hP hw hK;obtain ⟨xs,x,hq,hx⟩:=hg;obtain ⟨its,rv,p,hz⟩:=I.list hq;obtain ⟨u,hu,ru⟩:=rv.get hx;obtain ⟨f0,f1,f2,f3,f4,f5⟩:=hf it (by simp);refine wpAny_pyNext_list_item st p.isList (x:=u) (by simpa using hu) λ h' st' sb=> ?_;have I1:Inv X pins σ H { s with heap:=h' }:=I.turned (t':=s.toks) (λ b o hb e=>(sb.2 b hb).trans e) f0 f1 f3 f4 f5;obtain ⟨o,e,c,d⟩:=id st';exact ⟨u,rfl,LV (s:={ s with heap:=h' }) e c d (by decide) ⟨x,H,I1,ru,⟨rfl,λ ys hy=>by rw [I.list_inj hy hq];exact hx⟩,st',λ b hb=>(hf b hb).1⟩⟩
  done:=by
    intro X hP hw hK hc i pins s σ H E I hf st hg;subst hP hw hK;obtain ⟨xs,hq,hx⟩:=hg;obtain ⟨its,rv,p,hz⟩:=I.list hq;obtain ⟨f0,f1,f2,f3,f4,f5⟩:=hf it (by simp);have hl:=rv.length;exact wpAny_pyNext_list_end (I.ok.hd hc) st p.isList (by simp;omega) λ h' eb=>⟨rfl,I.turned (t':=s.toks) (λ b o hb e=>eb b o hb e) f0 f1 f3 f4 f5⟩
  self:=λ _ _ _ _ _ st h=>wpAny_pyIter_listiter st h
theorem G8 {P:Program} {w:World} {K:PySem.W.Frag} {tg:Expr} (a it:Addr):Turn P w K tg (Itt K a) [it] it (λ i h=>h.IsTupleIter it a i) where
  mem:=by simp
  obj:=λ i h st b hb=>by
    have e:b=it:=by simpa using hb
    subst e;obtain ⟨o,e,c,d⟩:=st;exact ⟨o,e,λ v z=>by rw [d] at z;cases z⟩
  keep:=λ i h h' st k=>st.at λ o e=>k it (by simp) o e
  item:=by
    intro X hP hw hK hc i pins s σ H E I hf st hg;subst hP hw hK;obtain ⟨xs,x,hq,hx⟩:=hg;obtain ⟨its,rv,p,hz⟩:=I.tuple hq;obtain ⟨u,hu,ru⟩:=rv.get hx;obtain ⟨f0,f1,f2,f3,f4,f5⟩:=hf it (by simp);refine wpAny_pyNext_tuple_item st (show s.heap.IsTuple a its.toArray from p) (x:=u) (by simpa using hu) λ h' st' sb=> ?_;have I1:Inv X pins σ H { s with heap:=h' }:=I.turned (t':=s.toks) (λ b o hb e=>(sb.2 b hb).trans e) f0 f1 f3 f4 f5;obtain ⟨o,e,c,d⟩:=id st';exact ⟨u,rfl,LV (s:={ s with heap:=h' }) e c d (by decide) ⟨x,H,I1,ru,⟨rfl,λ ys hy=>by rw [I.tuple_inj hy hq];exact hx⟩,st',λ b hb=>(hf b hb).1⟩⟩
  done:=by
    intro X hP hw hK hc i pins s σ H E I hf st hg;subst hP hw hK;obtain ⟨xs,hq,hx⟩:=hg;obtain ⟨its,rv,p,hz⟩:=I.tuple hq;obtain ⟨f0,f1,f2,f3,f4,f5⟩:=hf it (by simp);have hl:=rv.length;exact wpAny_pyNext_tuple_end (I.ok.hd hc) st (show s.heap.IsTuple a its.toArray from p) (by simp;omega) λ h' eb=>⟨rfl,I.turned (t':=s.toks) (λ b o hb e=>eb b o hb e) f0 f1 f3 f4 f5⟩
  self:=λ _ _ _ _ _ st h=>wpAny_pyIter_tupleiter st h
theorem Ll {P:Program} {w:World} {K:PySem.W.Frag} {tg:Expr} (it:Addr) (lo:Int) (n:Nat):Turn P w K tg (Itr lo n) [it] it (λ i h=>IsRangeIter h it (lo+(i:Nat)*1) ((n:Int) - (i:Nat)) 1) where
  mem:=by simp
  obj:=λ i h st b hb=>by
    have e:b=it:=by simpa using hb
    subst e;exact ⟨_,st,λ v z=>by
      have z':Data.fields _=Data.cell v:=z;cases z'⟩
  keep:=λ i h h' st k=>k it (by simp) _ st
  item:=by
    intro X hP hw hK hc i pins s σ H E I hf st hg;subst hP hw hK;obtain ⟨f0,f1,f2,f3,f4,f5⟩:=hf it (by simp);have W:=Walks.range (prog:=X.prog) (w:=X.w) (I.ok.hd hc) it lo 1 n;refine W.item i s _ _ hg st λ v h' tk hv st' kk=> ?_;obtain ⟨t,rfl⟩:=hv;have I1:Inv X pins σ H { s with heap:=h',toks:=tk }:=I.turned (λ b o hb e=>kk b o (by simpa using hb) e) f0 f1 f3 f4 f5;refine ⟨_,rfl,LV (s:={ s with heap:=h',toks:=tk }) (n:="range_iterator") st' rfl rfl (by decide) ⟨.int (lo+i),H,I1,⟨t,?_⟩,⟨rfl,rfl⟩,st',λ b hb=>(hf b hb).1⟩⟩;rw [Int.mul_one]
  done:=by
    intro X hP hw hK hc i pins s σ H E I hf st hg;subst hP hw hK;obtain ⟨f0,f1,f2,f3,f4,f5⟩:=hf it (by simp);exact wpAny_pyNext_range_end (I.ok.hd hc) st (by have:n<=i:=hg;omega) λ h' eb=>⟨rfl,I.turned (t':=s.toks) (λ b o hb e=>eb b o hb e) f0 f1 f3 f4 f5⟩
  self:=λ _ _ _ _ _ st h=>wpAny_pyIter_rangeiter st h
section
variable {X:Cx} {tg:Expr}
def Od (K:PySem.W.Frag) (tl:TE):TI:=λ σ H R=>tl σ H λ x H1=>∃ a,x= .ref a/\(∃ xs,SqL K H1 a xs)/\R (Itl K a) H1
def QK (K:PySem.W.Frag) (tl:TE):TI:=λ σ H R=>tl σ H λ x H1=>∃ a,x= .ref a/\(∃ xs,SqT K H1 a xs)/\R (Itt K a) H1
theorem Pi {l:Expr} {tl:TE} (hl:PE X l tl):PI X tg l (Od X.K tl):=by
  intro pins s σ H R I h;refine thn (hl pins s σ H _ I h) λ v s1 ⟨x,H1,I1,r1,q1⟩=> ?_;obtain ⟨a,e,⟨xs,hq⟩,q⟩:=q1;subst e;cases r1;obtain ⟨its,rv,p,hz⟩:=I1.list hq;refine wpAny_pyIter_list p.isList ?_;refine ⟨s1.heap.objs.size,[s1.heap.objs.size],_,_,H1,rfl,I1.kept (t':=s1.toks) λ b o e=>Heap.get?_push_of_some _ e,Iw a _,⟨_,Heap.get?_push_size _ rfl,rfl,rfl⟩,λ b hb=> ?_,q⟩;have e:b=s1.heap.objs.size:=by simpa using hb
  subst e;exact I1.fpOk (Nat.le_refl _) (I1.hok.fresh (Nat.le_refl _))
theorem RE {l:Expr} {tl:TE} (hl:PE X l tl):PI X tg l (QK X.K tl):=by
  intro pins s σ H R I h;refine thn (hl pins s σ H _ I h) λ v s1 ⟨x,H1,I1,r1,q1⟩=> ?_;obtain ⟨a,e,⟨xs,hq⟩,q⟩:=q1;subst e;cases r1;obtain ⟨its,rv,p,hz⟩:=I1.tuple hq;refine wpAny_pyIter_tuple (show s1.heap.IsTuple a its.toArray from p) ?_;refine ⟨s1.heap.objs.size,[s1.heap.objs.size],_,_,H1,rfl,I1.kept (t':=s1.toks) λ b o e=>Heap.get?_push_of_some _ e,G8 a _,⟨_,Heap.get?_push_size _ rfl,rfl,rfl⟩,λ b hb=> ?_,q⟩;have e:b=s1.heap.objs.size:=by simpa using hb
  subst e;exact I1.fpOk (Nat.le_refl _) (I1.hok.fresh (Nat.le_refl _))
theorem J7 {pins:List (Addr × Obj)} {σ:St} {H:Hp} {s:Shared} {R:It->Hp->Prop} {E:Value->Shared->Prop} {lo hi:Int} {t u v:Tok} {tk:Nat} (I:Inv X pins σ H s) (h1: -(2 ^ 62)<=lo) (h2:lo<2 ^ 62) (h3: -(2 ^ 62)<=hi) (h4:hi<2 ^ 62)
    (q:R (Itr lo (hi - lo).toNat) H):wpAny (model X.prog X.w) X.A (pyIter (.ref s.heap.objs.size)) (PIE X pins σ tg R) E { s with heap:=s.heap.push { cls:= .type "range",data:= .fields #[.int lo t, .int hi u, .int 1 v] },toks:=tk }:=by
  refine wpAny_pyIter_range (IsRange.new ..) (small_one h1 h2 h3 h4) ?_;have I1:Inv X pins σ H { s with heap:=s.heap.push { cls:= .type "range",data:= .fields #[.int lo t, .int hi u, .int 1 v] },toks:=tk }:=I.kept λ b o e=>Heap.get?_push_of_some _ e;refine ⟨(s.heap.push { cls:= .type "range",data:= .fields #[.int lo t, .int hi u, .int 1 v] }).objs.size,[(s.heap.push { cls:= .type "range",data:= .fields #[.int lo t, .int hi u, .int 1 v] }).objs.size],_,_,H,rfl,
    I1.kept (t':=tk) λ b o e=>Heap.get?_push_of_some _ e,Ll _ lo (hi - lo).toNat,?_,λ b hb=> ?_,q⟩
  · have e1:lo+((0:Nat):Int)*1=lo:=by simp
    have e2:(((hi - lo).toNat:Nat):Int) - ((0:Nat):Int)=Builtin.Range.rangeSize lo hi 1:=by rw [rangeSize_one];split <;> omega
    show IsRangeIter _ _ (lo+((0:Nat):Int)*1) ((((hi - lo).toNat:Nat):Int) - ((0:Nat):Int)) 1;rw [e1,e2];exact Heap.get?_push_size _ rfl
  · have e:b=(s.heap.push { cls:= .type "range",data:= .fields #[.int lo t, .int hi u, .int 1 v] }).objs.size:=by simpa using hb
    subst e;exact I1.fpOk (Nat.le_refl _) (I1.hok.fresh (Nat.le_refl _))
def Qg (ta:TA):TI:=λ σ H R=>ta σ H λ vs H1=>∃ j:Int,vs=[.int j]/\ -(2 ^ 62)<=j/\j<2 ^ 62/\R (Itr 0 j.toNat) H1
def P7 (ta:TA):TI:=λ σ H R=>ta σ H λ vs H1=>∃ i j:Int,vs=[.int i, .int j]/\(-(2 ^ 62)<=i/\i<2 ^ 62/\ -(2 ^ 62)<=j/\j<2 ^ 62)/\R (Itr i (j - i).toNat) H1
theorem Bi {a:Expr} {ta:TA} {p pos:Pos} (hg:Gl X "range") (hm:X.mg "range"=none) (ha:PA X [a] ta) (hs:starEach [a] X.env=[(false,eval a X.env)]:=by rfl):PI X tg (.Call (.Name "range" p) [a] [] pos) (Qg ta):=by
  intro pins s σ H R I h;refine Call_ (CZ I hg hm boot_range (PyProof.Rows.callWith_type1 (thn (ha pos pins s σ H _ I h) λ us s1 ⟨vs,H1,I1,r1,q1⟩=> ?_) hs rfl));obtain ⟨j,e,q1,q2,q⟩:=q1;subst e;cases r1 with
  | cons r rr=>
    cases rr;obtain ⟨t,rfl⟩:=r;exact call_range_1 (J7 I1 (by omega) (by omega) q1 q2 (by simpa using q))
theorem CN {a b:Expr} {ta:TA} {p pos:Pos} (hg:Gl X "range") (hm:X.mg "range"=none) (ha:PA X [a,b] ta) (hs:starEach [a,b] X.env=[(false,eval a X.env),(false,eval b X.env)]:=by rfl) (hs2:starEach [b] X.env=[(false,eval b X.env)]:=by rfl):
    PI X tg (.Call (.Name "range" p) [a,b] [] pos) (P7 ta):=by
  intro pins s σ H R I h;refine Call_ (CZ I hg hm boot_range (PyProof.Rows.callWith_type1 (thn (ha pos pins s σ H _ I h) λ us s1 ⟨vs,H1,I1,r1,q1⟩=> ?_) (by rw [hs,hs2]) (by rw [hs2];rfl)));obtain ⟨i,j,e,⟨q1,q2,q3,q4⟩,q⟩:=q1;subst e;cases r1 with
  | cons r rr=>
    cases rr with
    | cons r' rr=>
      cases rr;obtain ⟨t,rfl⟩:=r;obtain ⟨t',rfl⟩:=r';exact call_range_2 (J7 I1 q1 q2 q3 q4 q)
def UI (wi:TI) (g:TG) (tb:TS):TS:=λ D σ H=>wi σ H λ J H1=>∃ W:Nat->Nat->St->Hp->Prop,(∃ m,W 0 m σ H1)/\∀ i m σ H,W i m σ H->
  (J.stop i H/\D.nx σ H)\/(J.go i H/\∃ N:St->Hp->Prop,(∀ σ' H',N σ' H'->∃ m',m'<m/\W (i+1) m' σ' H')/\∀ x H',J.yld i H x H'->g x σ H' λ σ2 H2=>tb { D with nx:=N,ct:=N,bk:=D.nx } σ2 H2)
noncomputable def Hk (fp:List Addr) (h:Heap):List (Addr × Obj):=fp.filterMap λ b=>(h.get? b).map λ o=>(b,o)
theorem Da {fp:List Addr} {h:Heap} {b:Addr} {o:Obj} (hb:b∈fp) (e:h.get? b=some o):(b,o)∈Hk fp h:=List.mem_filterMap.mpr ⟨b,hb,by rw [e];rfl⟩
theorem Mn {fp:List Addr} {h:Heap} {p:Addr × Obj} (hp:p∈Hk fp h):p.1∈fp/\h.get? p.1=some p.2:=by
  obtain ⟨b,hb,e⟩:=List.mem_filterMap.mp hp;cases q:h.get? b with
  | none=>rw [q] at e;cases e
  | some o=>
    rw [q] at e;have e':(b,o)=p:=Option.some.inj e;subst e';exact ⟨hb,q⟩
theorem Inv.pinned {pins:List (Addr × Obj)} {σ:St} {H:Hp} {s:Shared} {fp:List Addr} (I:Inv X pins σ H s) (hf:∀ b∈fp,DG X pins H b) (ho:∀ b∈fp,∃ o,s.heap.get? b=some o/\∀ v,o.data≠ .cell v):Inv X (pins++Hk fp s.heap) σ H s:=
  I.pins_of λ p hp=>(List.mem_append.mp hp).elim (λ z=>I.pin p (List.mem_append_right _ z)) λ z=>by
    obtain ⟨hb,e⟩:=Mn z;obtain ⟨f0,f1,f2,_⟩:=hf p.1 hb;obtain ⟨o,e',d⟩:=ho p.1 hb;rw [e] at e';cases e';exact ⟨e,f0,f1,f2,d⟩
theorem Inv.unpinned {pins pl:List (Addr × Obj)} {σ:St} {H:Hp} {s:Shared} (I:Inv X (pins++pl) σ H s):Inv X pins σ H s:=I.pins_of λ p hp=>I.pin p (List.mem_append_right _ (List.mem_append_left _ hp))
theorem BW {iter:Expr} {body:List Stmt} {wi:TI} {g:TG} {tb:TS} {pos:Pos} (hp:PassesOwn (model X.prog X.w) X.A X.env X.xe) (hc:X.calm=true) (hi:PI X tg iter wi) (hg:PG X tg g) (hb:PSs X body tb)
    (hs:∀ x,foldedSetIterable iter X.env x=pure x:=by intro _;rfl):PS X (.For tg iter body [] pos) (UI wi g tb):=by
  intro pins s σ H D I h;refine wpAny_For (thn (hi pins s σ H _ I h) λ v s1 h1=>thn h1 λ itv s2 h2=> ?_) hs;obtain ⟨it,fp,tn,J,H2,e,I2,T,st2,f2,W,⟨m0,w0⟩,turn⟩:=h2;subst e;have stat:∀ {H':Hp},(∀ b∈fp,H' b=none)->∀ b∈fp,DG X pins H' b:=λ hn b hb=>⟨hn b hb,(f2 b hb).2⟩;refine codeAny_forLoop_any (λ n s'=>∃ i σ' H',Inv X pins σ' H' s'/\tn i s'.heap/\(∀ b∈fp,H' b=none)/\W i n σ' H') ?_ m0 ⟨0,σ,H2,I2,st2,λ b hb=>(f2 b hb).1,w0⟩;rintro n s3 ⟨i,σ3,H3,I3,st3,fr3,w3⟩;rcases turn i n σ3 H3 w3 with ⟨stop,qn⟩ | ⟨go,N,hN,step⟩
  · refine wpAny_passesOwn hp (thn (T.done X rfl rfl rfl hc i pins s3 σ3 H3 X.xe I3 (stat fr3) st3 stop) λ r s4 ⟨hr,I4⟩=> ?_);subst hr;exact wpAny_execs_nil ⟨σ3,H3,I4,qn⟩
  · refine wpAny_passesOwn hp (thn (T.item X rfl rfl rfl hc i pins s3 σ3 H3 X.xe I3 (stat fr3) st3 go) λ r s4 ⟨u,hr,h4⟩=> ?_);subst hr;refine wpAny_passesOwn hp (thn h4 λ _ s5 ⟨x,H5,I5,r5,y5,st5,fr5⟩=> ?_);have I5':=I5.pinned (stat fr5) (T.obj _ _ st5);refine wpAny_passesOwn hp (thn (hg _ s5 σ3 H5 x u _ I5' r5 (step x H5 y5)) λ _ s6 ⟨σ6,H6,I6,q6⟩=> ?_);refine wpAny_passesOwn hp (thn (hb _ s6 σ6 H6 _ I6 q6) λ f s7 q7=> ?_);have again:∀ {σ7:St} {H7:Hp},Inv X (pins++Hk fp s5.heap) σ7 H7 s7->N σ7 H7->∃ m,m<n/\∃ i σ' H',Inv X pins σ' H' s7/\tn i s7.heap/\(∀ b∈fp,H' b=none)/\W i m σ' H':=λ {σ7 H7} I7 n7=>by
      obtain ⟨m',hm,w7⟩:=hN σ7 H7 n7;refine ⟨m',hm,i+1,σ7,H7,I7.unpinned,T.keep _ _ _ st5 λ b hb o e=>(I7.pin (b,o) (List.mem_append_right _ (List.mem_append_right _ (Da hb e)))).1,λ b hb=> ?_,w7⟩;obtain ⟨o,e,d⟩:=T.obj _ _ st5 b hb;exact (I7.pin (b,o) (List.mem_append_right _ (List.mem_append_right _ (Da hb e)))).2.1
    cases f with
    | next=>obtain ⟨σ7,H7,I7,n7⟩:=q7;exact again I7 n7
    | cont=>obtain ⟨σ7,H7,I7,n7⟩:=q7;exact again I7 n7
    | brk=>obtain ⟨σ7,H7,I7,q7⟩:=q7;exact ⟨σ7,H7,I7.unpinned,q7⟩
    | ret v=>obtain ⟨x7,σ7,H7,I7,r7,q7⟩:=q7;exact ⟨x7,σ7,H7,I7.unpinned,r7,q7⟩
end
abbrev R2:=V->V->Hp->VK->Prop
def OpR (X:Cx) (f:Value->Value->Sem Value) (r:R2):Prop:=
  ∀ (pins:List (Addr × Obj)) (s:Shared) (σ:St) (H:Hp) (x y:V) (v u:Value) (Q:VK),Inv X pins σ H s->RelV x v->RelV y u->r x y H Q->
    wpAny (model X.prog X.w) X.A (f v u) (EP X pins σ Q) X.xe s
def UnR (X:Cx) (f:Value->Sem Value) (r:V->Hp->VK->Prop):Prop:=
  ∀ (pins:List (Addr × Obj)) (s:Shared) (σ:St) (H:Hp) (x:V) (v:Value) (Q:VK),Inv X pins σ H s->RelV x v->r x H Q->
    wpAny (model X.prog X.w) X.A (f v) (EP X pins σ Q) X.xe s
def BA (X:Cx) (f:Value) (r:List V->Hp->VK->Prop):Prop:=
  ∀ (pins:List (Addr × Obj)) (s:Shared) (σ:St) (H:Hp) (xs:List V) (us:List Value) (Q:VK),Inv X pins σ H s->Vals xs us->r xs H Q->
    wpAny (model X.prog X.w) X.A (call f us) (EP X pins σ Q) X.xe s
def YY (X:Cx) (r:V->Hp->(Bool->Hp->Prop)->Prop):Prop:=
  ∀ (pins:List (Addr × Obj)) (s:Shared) (σ:St) (H:Hp) (x:V) (v:Value) (Q:Bool->Hp->Prop),Inv X pins σ H s->RelV x v->r x H Q->
    wpAny (model X.prog X.w) X.A (truthy v) (TP X pins σ Q) X.xe s
def tOp (r:R2) (ta tb:TE):TE:=λ σ H Q=>ta σ H λ x H1=>tb σ H1 λ y H2=>r x y H2 Q
def tUn (r:V->Hp->VK->Prop) (ta:TE):TE:=λ σ H Q=>ta σ H λ x H1=>r x H1 Q
def rI (C:Int->Int->Prop) (g:Int->Int->V):R2:=λ x y H Q=>∃ i j,x= .int i/\y= .int j/\C i j/\Q (g i j) H
def rI0 (g:Int->Int->V):R2:=λ x y H Q=>∃ i j,x= .int i/\y= .int j/\Q (g i j) H
def rU (g:Int->V):V->Hp->VK->Prop:=λ x H Q=>∃ i,x= .int i/\Q (g i) H
section
variable {X:Cx} {a b c:Expr} {ta tb tc:TE} {pos:Pos}
theorem QF (ha:PE X a ta) (hb:PE X b tb) {pins:List (Addr × Obj)} {s:Shared} {σ:St} {H:Hp} {R:V->V->Hp->Prop} (I:Inv X pins σ H s)
    (h:ta σ H λ x H1=>tb σ H1 λ y H2=>R x y H2) {Q:Value->Shared->Prop} {f:Value->Value->Sem Value}
    (hf:∀ v u s2 x y H2,Inv X pins σ H2 s2->RelV x v->RelV y u->R x y H2->wpAny (model X.prog X.w) X.A (f v u) Q X.xe s2):
    wpAny (model X.prog X.w) X.A (eval a X.env) (λ v s₁=>wpAny (model X.prog X.w) X.A (eval b X.env) (λ u s₂=>wpAny (model X.prog X.w) X.A (f v u) Q X.xe s₂) X.xe s₁) X.xe s:=by
  refine thn (ha pins s σ H _ I h) λ v s1 ⟨x,H1,I1,r1,q1⟩=> ?_;refine thn (hb pins s1 σ H1 _ I1 q1) λ u s2 ⟨y,H2,I2,r2,q2⟩=> ?_;exact hf v u s2 x y H2 I2 r1 r2 q2
theorem Ak {op:Operator} {r:R2} (ho:OpR X (binaryOp op) r) (ha:PE X a ta) (hb:PE X b tb):PE X (.BinOp a op b pos) (tOp r ta tb):=by
  intro pins s σ H Q I h;exact wpAny_BinOp (QF ha hb I h λ v u s2 x y H2 I2 rx ry q=>ho pins s2 σ H2 x y v u Q I2 rx ry q)
theorem XW {op:UnaryOp} {r:V->Hp->VK->Prop} (ho:UnR X (unaryOp op) r) (ha:PE X a ta):PE X (.UnaryOp op a pos) (tUn r ta):=by
  intro pins s σ H Q I h;exact UnaryOp_ (thn (ha pins s σ H _ I h) λ v s1 ⟨x,H1,I1,r1,q1⟩=>ho pins s1 σ H1 x v Q I1 r1 q1)
theorem opI {f:Value->Value->Sem Value} {C:Int->Int->Prop} {g:Int->Int->Int}
    (rule:∀ (i j:Int) (t u:Tok) (s:Shared) (Q:Value->Shared->Prop) (E:Value->Shared->Prop),C i j->Q (.int (g i j) s.toks) { s with toks:=s.toks+1 }->wpAny (model X.prog X.w) X.A (f (.int i t) (.int j u)) Q E s):
    OpR X f (rI C λ i j=> .int (g i j)):=by
  intro pins s σ H x y v u Q I rx ry h;obtain ⟨i,j,rfl,rfl,hc,q⟩:=h;obtain ⟨t,rfl⟩:=rx;obtain ⟨t',rfl⟩:=ry;exact rule i j t t' s _ _ hc ⟨.int (g i j),H,I.tok _,⟨_,rfl⟩,q⟩
theorem MD {f:Value->Value->Sem Value} {g:Int->Int->Int}
    (rule:∀ (i j:Int) (t u:Tok) (s:Shared) (Q:Value->Shared->Prop) (E:Value->Shared->Prop),Q (.int (g i j) s.toks) { s with toks:=s.toks+1 }->wpAny (model X.prog X.w) X.A (f (.int i t) (.int j u)) Q E s):
    OpR X f (rI0 λ i j=> .int (g i j)):=by
  intro pins s σ H x y v u Q I rx ry h;obtain ⟨i,j,rfl,rfl,q⟩:=h;obtain ⟨t,rfl⟩:=rx;obtain ⟨t',rfl⟩:=ry;exact rule i j t t' s _ _ ⟨.int (g i j),H,I.tok _,⟨_,rfl⟩,q⟩
theorem QV {f:Value->Value->Sem Value} {g:Int->Int->Bool}
    (rule:∀ (i j:Int) (t u:Tok) (s:Shared) (Q:Value->Shared->Prop) (E:Value->Shared->Prop),Q (.bool (g i j)) s->wpAny (model X.prog X.w) X.A (f (.int i t) (.int j u)) Q E s):
    OpR X f (rI0 λ i j=> .bl (g i j)):=by
  intro pins s σ H x y v u Q I rx ry h;obtain ⟨i,j,rfl,rfl,q⟩:=h;obtain ⟨t,rfl⟩:=rx;obtain ⟨t',rfl⟩:=ry;exact rule i j t t' s _ _ ⟨.bl (g i j),H,I,rfl,q⟩
def Zh (i j:Int):Prop:=0<=j/\j<=1000000/\i.natAbs<2 ^ 64
def CMul (i j:Int):Prop:=(-(2 ^ 64)<i/\i<2 ^ 64)\/(-(2 ^ 64)<j/\j<2 ^ 64)
theorem CMul.ok {i j:Int} (h:CMul i j):IntMulOk i j:=by
  rcases h with ⟨h1,h2⟩ | ⟨h1,h2⟩
  · exact .of_left (intBits_le_64 h1 h2)
  · exact .of_right (intBits_le_64 h1 h2)
theorem Lf (k:Nat):(0:Int)<=2 ^ k:=by
  rw [two_pow_cast];exact Int.natCast_nonneg _
theorem AG:OpR X (binaryOp .Add) (rI0 λ i j=> .int (i+j)):=MD λ _ _ _ _ _ _ _ q=>add_int q
theorem Ce:OpR X (binaryOp .Sub) (rI0 λ i j=> .int (i - j)):=MD λ _ _ _ _ _ _ _ q=>sub_int q
theorem FI:OpR X (binaryOp .Mult) (rI CMul λ i j=> .int (i*j)):=opI λ _ _ _ _ _ _ _ hc q=>mul_int q hc.ok
theorem A8:OpR X (binaryOp .Mod) (rI (λ _ j=>0<j) λ i j=> .int (i%j)):=opI λ i j _ _ _ _ _ hc q=>by
  have h1:(0:Int)<j:=hc;exact mod_int' (by omega) (by rw [Int.fmod_eq_emod_of_nonneg i (by omega)];exact q)
theorem DJ:OpR X (binaryOp .LShift) (rI Zh λ i j=> .int (i*2 ^ j.toNat)):=opI λ _ _ _ _ _ _ _ hc q=>lshift_int_small hc.1 hc.2.1 hc.2.2 q
theorem Nu:OpR X (binaryOp .RShift) (rI (λ _ j=>0<=j) λ i j=> .int (i / 2 ^ j.toNat)):=opI λ i j _ _ _ _ _ hc q=>
  rshift_int hc (by rw [Int.fdiv_eq_ediv_of_nonneg i (Lf _)];exact q)
theorem Ju:OpR X (binaryOp .BitAnd) (rI0 λ i j=> .int (Builtin.bitAnd i j)):=MD λ _ _ _ _ _ _ _ q=>and_int q
theorem Oh:OpR X (binaryOp .BitOr) (rI0 λ i j=> .int (Builtin.bitOr i j)):=MD λ _ _ _ _ _ _ _ q=>or_int q
theorem Oi:OpR X (inplaceOp .BitOr) (rI0 λ i j=> .int (Builtin.bitOr i j)):=MD λ _ _ _ _ _ _ _ q=>ior_int q
theorem OL:OpR X (inplaceOp .BitXor) (rI0 λ i j=> .int (Builtin.bitXor i j)):=MD λ _ _ _ _ _ _ _ q=>ixor_int q
theorem unI {f:Value->Sem Value} {g:Int->Int}
    (rule:∀ (i:Int) (t:Tok) (s:Shared) (Q:Value->Shared->Prop) (E:Value->Shared->Prop),Q (.int (g i) s.toks) { s with toks:=s.toks+1 }->wpAny (model X.prog X.w) X.A (f (.int i t)) Q E s):
    UnR X f (rU λ i=> .int (g i)):=by
  intro pins s σ H x v Q I rx h;obtain ⟨i,rfl,q⟩:=h;obtain ⟨t,rfl⟩:=rx;exact rule i t s _ _ ⟨.int (g i),H,I.tok _,⟨_,rfl⟩,q⟩
theorem RY:UnR X (unaryOp .Invert) (rU λ i=> .int (Builtin.bitNot i)):=unI λ _ _ _ _ _ q=>invert_int q
end
noncomputable def SR:V->V->Bool
  | .non, .non=>true | .non, .int _=>true | .int _, .non=>true | .non, .bl _=>true | .bl _, .non=>true | .non, .str _=>true | .str _, .non=>true
  | .int _, .int _=>true | .bl _, .bl _=>true | .str _, .str _=>true | .byt _, .byt _=>true
  | .int _, .str _=>true | .str _, .int _=>true | .bl _, .str _=>true | .str _, .bl _=>true
  | _,_=>false
def rEq:R2:=λ x y H Q=>SR x y=true/\Q (.bl (decide (x=y))) H
def rNe:R2:=λ x y H Q=>SR x y=true/\Q (.bl (!decide (x=y))) H
theorem Lx {i j:Int}:decide (V.int i=V.int j)=(i == j):=by
  rw [Bool.eq_iff_iff];simp
theorem MZ {i j:Bool}:decide (V.bl i=V.bl j)=(i == j):=by
  rw [Bool.eq_iff_iff];simp
theorem Gn {i j:Str}:decide (V.str i=V.str j)=(i == j):=by
  rw [Bool.eq_iff_iff];simp
theorem Lq {i j:Array UInt8}:decide (V.byt i=V.byt j)=(i.toList == j.toList):=by
  rw [Bool.eq_iff_iff];cases i;cases j;simp
section
variable {X:Cx} {a b c:Expr} {ta tb tc:TE} {pos:Pos}
theorem AC {pins:List (Addr × Obj)} {σ:St} {H:Hp} {s:Shared} {Q:VK} {k k':Bool} (I:Inv X pins σ H s) (q:Q (.bl k) H) (e:k=k'):EP X pins σ Q (.bool k') s:=by
  subst e;exact ⟨.bl k,H,I,rfl,q⟩
theorem B0:OpR X (compareOp .Eq) rEq:=by
  intro pins s σ H x y v u Q I rx ry h;obtain ⟨hs,q⟩:=h;cases x with
  | non=>
    cases rx;cases y with
    | non=>cases ry;exact PySem.EqNone.eq_none_none (AC I q (by simp))
    | bl j=>cases ry;exact PySem.EqNone.eq_none_bool (AC I q (by simp))
    | int j=>obtain ⟨t',rfl⟩:=ry;exact PySem.EqNone.eq_none_int (AC I q (by simp))
    | str j=>obtain ⟨t',rfl⟩:=ry;exact PySem.EqNone.eq_none_str (AC I q (by simp))
    | _=>exact absurd (show false=true from hs) Bool.false_ne_true
  | bl i=>
    cases rx;cases y with
    | non=>cases ry;exact PySem.EqNone.eq_bool_none (AC I q (by simp))
    | bl j=>cases ry;exact eq_bool (AC I q MZ)
    | str j=>obtain ⟨t',rfl⟩:=ry;exact PySem.EqMixed.eq_bool_str (AC I q (by simp))
    | _=>exact absurd (show false=true from hs) Bool.false_ne_true
  | int i=>
    obtain ⟨t,rfl⟩:=rx;cases y with
    | non=>cases ry;exact PySem.EqNone.eq_int_none (AC I q (by simp))
    | int j=>obtain ⟨t',rfl⟩:=ry;exact eq_int (AC I q Lx)
    | str j=>obtain ⟨t',rfl⟩:=ry;exact PySem.EqMixed.eq_int_str (AC I q (by simp))
    | _=>exact absurd (show false=true from hs) Bool.false_ne_true
  | str i=>
    obtain ⟨t,rfl⟩:=rx;cases y with
    | non=>cases ry;exact PySem.EqNone.eq_str_none (AC I q (by simp))
    | bl j=>cases ry;exact PySem.EqMixed.eq_str_bool (AC I q (by simp))
    | int j=>obtain ⟨t',rfl⟩:=ry;exact PySem.EqMixed.eq_str_int (AC I q (by simp))
    | str j=>obtain ⟨t',rfl⟩:=ry;exact eq_str (AC I q Gn)
    | _=>exact absurd (show false=true from hs) Bool.false_ne_true
  | byt i=>
    obtain ⟨t,rfl⟩:=rx;cases y with
    | byt j=>obtain ⟨t',rfl⟩:=ry;exact PySem.W.eq_bytes (AC I q Lq)
    | _=>exact absurd (show false=true from hs) Bool.false_ne_true
  | _=>cases y <;> exact absurd (show false=true from hs) Bool.false_ne_true
theorem Lr:OpR X (compareOp .NotEq) rNe:=by
  intro pins s σ H x y v u Q I rx ry h;obtain ⟨hs,q⟩:=h;cases x with
  | non=>
    cases rx;cases y with
    | non=>cases ry;exact PySem.EqNone.ne_none_none (AC I q (by simp))
    | bl j=>cases ry;exact PySem.EqNone.ne_none_bool (AC I q (by simp))
    | int j=>obtain ⟨t',rfl⟩:=ry;exact PySem.EqNone.ne_none_int (AC I q (by simp))
    | str j=>obtain ⟨t',rfl⟩:=ry;exact PySem.EqNone.ne_none_str (AC I q (by simp))
    | _=>exact absurd (show false=true from hs) Bool.false_ne_true
  | bl i=>
    cases rx;cases y with
    | non=>cases ry;exact PySem.EqNone.ne_bool_none (AC I q (by simp))
    | bl j=>cases ry;exact ne_bool (AC I q (congrArg not MZ))
    | str j=>obtain ⟨t',rfl⟩:=ry;exact PySem.EqMixed.ne_bool_str (AC I q (by simp))
    | _=>exact absurd (show false=true from hs) Bool.false_ne_true
  | int i=>
    obtain ⟨t,rfl⟩:=rx;cases y with
    | non=>cases ry;exact PySem.EqNone.ne_int_none (AC I q (by simp))
    | int j=>obtain ⟨t',rfl⟩:=ry;exact ne_int (AC I q (congrArg not Lx))
    | str j=>obtain ⟨t',rfl⟩:=ry;exact PySem.EqMixed.ne_int_str (AC I q (by simp))
    | _=>exact absurd (show false=true from hs) Bool.false_ne_true
  | str i=>
    obtain ⟨t,rfl⟩:=rx;cases y with
    | non=>cases ry;exact PySem.EqNone.ne_str_none (AC I q (by simp))
    | bl j=>cases ry;exact PySem.EqMixed.ne_str_bool (AC I q (by simp))
    | int j=>obtain ⟨t',rfl⟩:=ry;exact PySem.EqMixed.ne_str_int (AC I q (by simp))
    | str j=>obtain ⟨t',rfl⟩:=ry;exact ne_str (AC I q (congrArg not Gn))
    | _=>exact absurd (show false=true from hs) Bool.false_ne_true
  | byt i=>
    obtain ⟨t,rfl⟩:=rx;cases y with
    | byt j=>obtain ⟨t',rfl⟩:=ry;exact PySem.W.ne_bytes (AC I q (congrArg not Lq))
    | _=>exact absurd (show false=true from hs) Bool.false_ne_true
  | _=>cases y <;> exact absurd (show false=true from hs) Bool.false_ne_true
theorem Yw:OpR X (compareOp .Lt) (rI0 λ i j=> .bl (decide (i<j))):=QV λ _ _ _ _ _ _ _ q=>lt_int q
theorem Qa:OpR X (compareOp .LtE) (rI0 λ i j=> .bl (decide (i<=j))):=QV λ _ _ _ _ _ _ _ q=>le_int q
theorem Tc:OpR X (compareOp .Gt) (rI0 λ i j=> .bl (decide (j<i))):=QV λ _ _ _ _ _ _ _ q=>gt_int q
theorem Mx:OpR X (compareOp .In) (λ x y H Q=>∃ i j,x= .str i/\y= .str j/\Q (.bl (!(Builtin.Str.occurrences j i 0 j.length 1).isEmpty)) H):=by
  intro pins s σ H x y v u Q I rx ry h;obtain ⟨i,j,rfl,rfl,q⟩:=h;obtain ⟨t,rfl⟩:=rx;obtain ⟨t',rfl⟩:=ry;exact in_str (AC I q rfl)
theorem Rl:OpR X (compareOp .Is) (λ x y H Q=>y= .non/\Q (.bl (decide (x= .non))) H):=by
  intro pins s σ H x y v u Q I rx ry h;obtain ⟨rfl,q⟩:=h;cases ry;refine is_none_gen (AC I q ?_);cases x <;> first
    | (cases rx;rfl)
    | (obtain ⟨t,rfl⟩:=rx;rfl)
theorem Gq:OpR X (compareOp .IsNot) (λ x y H Q=>y= .non/\Q (.bl (!decide (x= .non))) H):=by
  intro pins s σ H x y v u Q I rx ry h;obtain ⟨rfl,q⟩:=h;cases ry;refine isnot_none_gen (AC I q ?_);cases x <;> first
    | (cases rx;rfl)
    | (obtain ⟨t,rfl⟩:=rx;rfl)
theorem Ay (b:Expr) {op:CmpOp} (h:op≠ .In:=by decide) (h2:op≠ .NotIn:=by decide):behindInMarks op b=false:=by
  have e1:(op == CmpOp.In)=false:=by cases op <;> first | rfl | exact absurd rfl h
  have e2:(op == CmpOp.NotIn)=false:=by cases op <;> first | rfl | exact absurd rfl h2
  cases b <;> simp [behindInMarks,e1,e2]
theorem BN {op:CmpOp} {r:R2} (ho:OpR X (compareOp op) r) (ha:PE X a ta) (hb:PE X b tb) (hm:behindInMarks op b=false):PE X (.Compare a [op] [b] pos) (tOp r ta tb):=by
  intro pins s σ H Q I h;exact wpAny_Compare1 (QF ha hb I h λ v u s2 x y H2 I2 rx ry q=>ho pins s2 σ H2 x y v u Q I2 rx ry q) hm
def Qp (t:TE):TT:=λ σ H Q=>t σ H λ x H'=>∃ k,x= .bl k/\Q k H'
theorem As {op:CmpOp} {r:R2} (ho:OpR X (compareOp op) r) (ha:PE X a ta) (hb:PE X b tb) (hm:behindInMarks op b=false):PT X (.Compare a [op] [b] pos) (Qp (tOp r ta tb)):=by
  intro pins s σ H Q I h;refine wpAny_isTrue_Compare1 (thn (ha pins s σ H _ I h) λ v s1 ⟨x,H1,I1,r1,q1⟩=>thn (hb pins s1 σ H1 _ I1 q1) λ u s2 ⟨y,H2,I2,r2,q2⟩=>
    thn (ho pins s2 σ H2 x y v u _ I2 r1 r2 q2) λ c s3 ⟨z,H3,I3,r3,k,e,q3⟩=> ?_) hm
  subst e;cases r3;exact wpAny_truthy_bool ⟨H3,I3,q3⟩
def NB (r r':R2) (ta tb tc:TE):TE:=λ σ H Q=>ta σ H λ x H1=>tb σ H1 λ y H2=>r x y H2 λ z H3=>∃ k,z= .bl k/\
  (if k=true then tc σ H3 λ w' H4=>r' y w' H4 Q else Q (.bl false) H3)
theorem N1 {op op':CmpOp} {r r':R2} (ho:OpR X (compareOp op) r) (ho':OpR X (compareOp op') r') (ha:PE X a ta) (hb:PE X b tb) (hc:PE X c tc)
    (hm:lastMarks [op,op'] [b,c]=false:=by with_unfolding_all rfl):PE X (.Compare a [op,op'] [b,c] pos) (NB r r' ta tb tc):=by
  intro pins s σ H Q I h;refine Compare_chain (thn (ha pins s σ H _ I h) λ v s1 ⟨x,H1,I1,r1,q1⟩=>chain_link (thn (hb pins s1 σ H1 _ I1 q1) λ u s2 ⟨y,H2,I2,r2,q2⟩=>
    thn (ho pins s2 σ H2 x y v u _ I2 r1 r2 q2) λ d s3 ⟨z,H3,I3,r3,k,e,q3⟩=> ?_)) hm
  subst e;cases r3;refine wpAny_truthy_bool ?_;cases k with
  | false=>exact ite_ff ⟨.bl false,H3,I3,rfl,q3⟩
  | true=>exact ite_tt (chain_last (thn (hc pins s3 σ H3 _ I3 q3) λ w' s4 ⟨z',H4,I4,r4,q4⟩=>ho' pins s4 σ H4 y z' u w' Q I4 r2 r4 q4))
def Zj (K:PySem.W.Frag) (x:V) (H:Hp) (k:Bool):Prop:=
  match x with
  | .non=>k=false
  | .bl b=>k=b
  | .int i=>k=(i != 0)
  | .str y=>y.length<=sizeLine/\k=((y.length:Int) != 0)
  | .byt y=>y.size<=sizeLine/\k=((y.size:Int) != 0)
  | .ref p=>(∃ xs,SqL K H p xs/\k= !xs.isEmpty)\/(∃ xs,SqT K H p xs/\k= !xs.isEmpty)\/∃ kvs,H p=some (.dK kvs)/\k= !kvs.isEmpty
  | _=>False
theorem K7 {κ:Type} {kvs:List (κ × V)} {vs:List (κ × Value)} (r:KV kvs vs):(!vs.isEmpty)= !kvs.isEmpty:=by
  cases r <;> rfl
theorem GR {xs:List V} {its:List Value} (r:Vals xs its):(!its.toArray.isEmpty)= !xs.isEmpty:=by
  cases r <;> simp
theorem EN:(sizeLine:Nat)<2 ^ 63:=by rw [sizeLine_eq];decide
theorem Y3:YY X (λ x H Q=>∃ k,Zj X.K x H k/\Q k H):=by
  intro pins s σ H x v Q I rx h;obtain ⟨k,e,q⟩:=h;have hl:=EN;have hs:sizeLine=16777216:=sizeLine_eq;cases x with
  | non=>
    cases rx;have e':k=false:=e;subst e';exact truthy_none ⟨H,I,q⟩
  | bl b=>
    cases rx;have e':k=b:=e;subst e';exact wpAny_truthy_bool ⟨H,I,q⟩
  | int i=>
    obtain ⟨t,rfl⟩:=rx;have e':k=(i != 0):=e;subst e';exact PySem.P.truthy_int ⟨H,I,q⟩
  | str y=>
    obtain ⟨t,rfl⟩:=rx;obtain ⟨hy,e'⟩:y.length<=sizeLine/\k=((y.length:Int) != 0):=e;subst e';exact PySem.P.truthy_str (by omega) ⟨H,I.tok _,q⟩
  | byt y=>
    obtain ⟨t,rfl⟩:=rx;obtain ⟨hy,e'⟩:y.size<=sizeLine/\k=((y.size:Int) != 0):=e;subst e';exact PySem.W.truthy_bytes (by omega) ⟨H,I.tok _,q⟩
  | ref p=>
    cases rx;have e':(∃ xs,SqL X.K H p xs/\k= !xs.isEmpty)\/(∃ xs,SqT X.K H p xs/\k= !xs.isEmpty)\/∃ kvs,H p=some (.dK kvs)/\k= !kvs.isEmpty:=e;rcases e' with ⟨xs,hx,e'⟩ | ⟨xs,hx,e'⟩ | ⟨kvs,hx,e'⟩
    · subst e';obtain ⟨its,r,pl,hz⟩:=I.list hx;have hlen:=r.length;exact wpAny_truthy_list pl.isList (by simp only [List.size_toArray];omega) ⟨H,I.tok _,by rw [GR r];exact q⟩
    · subst e';obtain ⟨its,r,pl,hz⟩:=I.tuple hx;have hlen:=r.length;exact truthy_tuple pl (by simp only [List.size_toArray];omega) ⟨H,I.tok _,by rw [GR r];exact q⟩
    · subst e';obtain ⟨hz,hS,vs,r,m⟩:kvs.length<=sizeLine/\(p == sysModules)=false/\∃ vs,KV kvs vs/\s.heap.DictOf (JE X.prog X.w) p vs:=I.hok p _ hx;have hlen:kvs.length=vs.length:=Paired.length r;exact wpAny_truthy_dict hS m (by omega) ⟨H,I.tok _,by rw [K7 r];exact q⟩
  | _=>exact (show False from e).elim
theorem G9 {x:V} {us:List Value} (r:Vals [x] us):∃ u,us=[u]/\RelV x u:=by
  cases r with
  | cons r1 r2=>cases r2;exact ⟨_,rfl,r1⟩
theorem Nw {x y:V} {us:List Value} (r:Vals [x,y] us):∃ u w',us=[u,w']/\RelV x u/\RelV y w':=by
  cases r with
  | cons r1 r2=>
    cases r2 with
    | cons r3 r4=>cases r4;exact ⟨_,_,rfl,r1,r3⟩
theorem ML:BA X (.type "int") (λ xs H Q=>(∃ i,xs=[.int i]/\Q (.int i) H)\/∃ k,xs=[.bl k]/\Q (.int (if k then 1 else 0)) H):=by
  intro pins s σ H xs us Q I r h;rcases h with ⟨i,rfl,q⟩ | ⟨k,rfl,q⟩
  · obtain ⟨u,rfl,t,rfl⟩:=G9 r;exact call_int_int ⟨.int i,H,I,⟨_,rfl⟩,q⟩
  · obtain ⟨u,rfl,r1⟩:=G9 r;cases r1;exact call_int_bool ⟨.int (if k then 1 else 0),H,I.tok _,⟨_,rfl⟩,q⟩
def US (K:PySem.W.Frag) (x:V) (H:Hp) (n:Nat):Prop:=
  match x with
  | .str y=>y.length<=sizeLine/\n=y.length
  | .byt y=>y.size<=sizeLine/\n=y.size
  | .ref p=>(∃ xs,SqL K H p xs/\n=xs.length)\/∃ xs,SqT K H p xs/\n=xs.length
  | _=>False
theorem NS:BA X (.builtin "len") (λ xs H Q=>∃ x n,xs=[x]/\US X.K x H n/\Q (.int n) H):=by
  intro pins s σ H xs us Q I r h;obtain ⟨x,n,rfl,e,q⟩:=h;obtain ⟨u,rfl,rx⟩:=G9 r;have hl:=EN;have hs:sizeLine=16777216:=sizeLine_eq;cases x with
  | str y=>
    obtain ⟨t,rfl⟩:=rx;obtain ⟨hy,e'⟩:y.length<=sizeLine/\n=y.length:=e;subst e';exact len_str (by omega) ⟨.int _,H,I.tok _,⟨_,rfl⟩,q⟩
  | byt y=>
    obtain ⟨t,rfl⟩:=rx;obtain ⟨hy,e'⟩:y.size<=sizeLine/\n=y.size:=e;subst e';exact PySem.W.len_bytes (by omega) ⟨.int _,H,I.tok _,⟨_,rfl⟩,q⟩
  | ref p=>
    cases rx;have e':(∃ xs,SqL X.K H p xs/\n=xs.length)\/∃ xs,SqT X.K H p xs/\n=xs.length:=e;rcases e' with ⟨xs,hx,e'⟩ | ⟨xs,hx,e'⟩
    · subst e';obtain ⟨its,r',pl,hz⟩:=I.list hx;have hlen:=r'.length;exact Calls.call_len_list pl.isList (by simp only [List.size_toArray];omega) ⟨.int xs.length,H,I.tok _,⟨_,by simp only [List.size_toArray];rw [hlen]⟩,q⟩
    · subst e';obtain ⟨its,r',pl,hz⟩:=I.tuple hx;have hlen:=r'.length;exact len_tuple pl (by simp only [List.size_toArray];omega) ⟨.int xs.length,H,I.tok _,⟨_,by simp only [List.size_toArray];rw [hlen]⟩,q⟩
  | _=>exact (show False from e).elim
end
structure ObjM (h:Heap) (x dx C:Addr) (mA:Str->Option Value):Prop where
  obj:h.get? x=some (PySem.W.instObj C dx)
  ns:h.Ns1 dx mA
  ne:dx≠x
theorem Md {h:Heap} {dx:Addr} {mA:Str->Option Value} (n:h.Ns1 dx mA):∃ od,h.get? dx=some od/\∀ name,PySem.W.lookIn name od=some (mA name):=by
  obtain ⟨o,es,ep,ho,hd,hk,_,hm⟩:=n;refine ⟨o,ho,λ name=> ?_⟩;have e:=hm name;unfold nsFind findBy at e;rw [<-Array.find?_toList] at e;unfold PySem.W.lookIn;rw [hd];dsimp only;split
  · rename_i y q
    rw [q] at e;exact congrArg some e
  · rename_i q
    rw [q] at e;have a:es.toList.any (·.refKey)=false:=by
      rw [List.any_eq_false];intro y hy;obtain ⟨z,t,hkey⟩:=hk y (Array.mem_toList_iff.mp hy);simp [DictEntry.refKey,hkey]
    have a':¬ es.toList.any (·.refKey)=true:=by rw [a];exact Bool.false_ne_true
    rw [if_neg a'];exact congrArg some e
theorem ObjM.look {h:Heap} {x dx C:Addr} {mA:Str->Option Value} (I:ObjM h x dx C mA):∃ od,PySem.W.InstAt h x (PySem.W.instObj C dx) C (some od)/\∀ name,PySem.W.lookIn name od=some (mA name):=
  let ⟨od,ho,hl⟩:=Md I.ns
  ⟨od,⟨I.obj,rfl,rfl,ho⟩,hl⟩
section
variable {prog:Program} {w:World} {A:Around} {E:Value->Shared->Prop} {s:Shared} {K:PySem.W.Frag} {x dx C f:Addr} {mA:Str->Option Value} {name:Str} {v:Value}
theorem OJ {expr:Bool} {Q:Value->Shared->Prop} (X:K.In s.heap) (I:ObjM s.heap x dx C mA) (hg:PySem.W.plainGet K C name=true) (hh:PySem.W.hasDictIn K C=true)
    (ha:PySem.W.findIn K (.ref C) name=some none) (hv:mA name=some v) (hv':PySem.W.handedIn v=true) (h:Q v { s with toks:=s.toks+1 }):
    wpAny (model prog w) A (getAttr (.ref x) name expr) Q E s:=by
  obtain ⟨od,J,hl⟩:=I.look;exact PySem.W.get_value X J (PySem.W.plainGet_of hg).1 (PySem.W.findObj_own hh ha rfl (by rw [hl,hv])) hv' h
theorem N5 {pl:Sem Bool} {Q:Value × List Value->Shared->Prop} (X:K.In s.heap) (I:ObjM s.heap x dx C mA) (hg:PySem.W.plainGet K C name=true)
    (hf:PySem.W.findIn K (.ref C) name=some (some (.ref f))) (ht:PySem.W.isFn K (.ref f)=true) (hv:mA name=none) (h:Q (.ref f,[.ref x]) s):
    wpAny (model prog w) A (getMethod (.ref x) name pl) Q E s:=by
  obtain ⟨od,J,hl⟩:=I.look;exact PySem.W.method_fn X J (PySem.W.plainGet_of hg).1 (PySem.W.plainGet_of hg).2 hf (beq_iff_eq.mp ht) (by show (PySem.W.lookIn name od).map (·.isSome)=some false;rw [hl,hv];rfl) h
theorem Pk {ns:List Str} {Q:Unit->Shared->Prop} (X:K.In s.heap) (I:ObjM s.heap x dx C mA)
    (hs:PySem.W.findIn K (.ref C) "__setattr__"=some (some (.builtin "object.__setattr__"))) (hp:PySem.W.plainOver K C=true) (ht:PySem.W.takerIn K C name=some none) (hh:PySem.W.hasDictIn K C=true)
    (hw:PySem.Within mA ns) (hsz:ns.length<=sizeLine)
    (h:∀ h',ObjM h' x dx C (λ y=>if y=name then some v else mA y)->Heap.SameBut dx s.heap h'->Q () { s with heap:=h',toks:=s.toks+2 }):
    wpAny (model prog w) A (setAttr (.ref x) name v) Q E s:=by
  obtain ⟨od,J,hl⟩:=I.look;refine PySem.W.set_plain X J hs (PySem.W.osa_open (s:={ s with toks:=s.toks+1 }) (r:=none) X J hp ht λ b=> ?_);obtain ⟨cd,hc,hd'⟩:=PySem.W.any_some hh;have hx:s.heap.get? x=some ⟨.ref C,some dx, .plain, #[]⟩:=I.obj;refine wpAny_bind (wpAny_pure (wpAny_bind (wpAny_bind (wpAny_loadPart hx (wpAny_bind (PySem.W.Looks.here (s:={ s with toks:=s.toks+1 }) (PySem.W.looks_clsIn X hc) ?_))))));rw [hd'];refine wpAny_pure (a:=some dx) (wpAny_bind (wpAny_pure (wpAny_bind ?_)));refine wpAny_nsSet1 (s:={ s with toks:=s.toks+1 }) I.ns λ h' hn2 hs2=> ?_;obtain ⟨oD,esD,epD,hoD,hdD,hcD⟩:=hn2.count (PySem.Within.cons name v hw);refine wpAny_bind (wpAny_lookBehind hoD (by rw [hdD];exact pastItsLine_dict (Nat.le_trans hcD (by rw [List.length_cons];omega))) ?_);exact wpAny_pure (h _ ⟨(hs2.2 _ (Ne.symm I.ne)).trans I.obj,hn2,I.ne⟩ hs2)
theorem N4 {R:Result->Shared->Prop} {vs:List Value} {kw:List (Str × Value)} (X:K.In s.heap) (hm:PySem.W.makesIn K C=true)
    (hi:PySem.W.findIn K (.ref C) "__init__"=some (some (.ref f))) (hf:PySem.W.typeIn K (.ref f)=some (.type "function"))
    (h:codeAny (model prog w) (A.under (.builtin "type.__call__" ⟨.ref C::vs,kw⟩)) (.call (.ref f) ⟨.ref (s.heap.objs.size+1)::vs,kw⟩) (PySem.W.InitBack (s.heap.objs.size+1) R)
      { s with heap:=(s.heap.push PySem.W.emptyDict).push (PySem.W.instObj C s.heap.objs.size) }):
    codeAny (model prog w) A (.call (.ref C) ⟨vs,kw⟩) R s:=by
  obtain ⟨hh,g,d,t,os⟩:=s;exact PySem.W.make_core (PySem.W.makes_of X hm) (PySem.W.looks_findIn X hi) (λ self=>PySem.W.bind_fn X self hf) (.inl rfl) h
end
noncomputable def AR (f:Str) (v:V):List (Str × V)->List (Str × V)
  | []=>[(f,v)]
  | (g,x)::r=>if g=f then (g,v)::r else (g,x)::AR f v r
theorem F9 (f g:Str) (v:V):∀ fs:List (Str × V),(AR f v fs).lookup g=if g=f then some v else fs.lookup g
  | []=>by
    show List.lookup g [(f,v)]=_;by_cases h:g=f
    · have hb:(g == f)=true:=beq_iff_eq.mpr h;simp only [List.lookup,hb,if_pos h]
    · have hb:(g == f)=false:=beq_eq_false_iff_ne.mpr h;simp only [List.lookup,hb,if_neg h]
  | (k,x)::r=>by
    have ih:=F9 f g v r;rw [show AR f v ((k,x)::r)=(if k=f then (k,v)::r else (k,x)::AR f v r) from rfl];by_cases hk:k=f
    · rw [if_pos hk];by_cases h:g=k
      · have hb:(g == k)=true:=beq_iff_eq.mpr h;simp only [List.lookup,hb,if_pos (h.trans hk)]
      · have hb:(g == k)=false:=beq_eq_false_iff_ne.mpr h;simp only [List.lookup,hb,if_neg (λ e:g=f=>h (e.trans hk.symm))]
    · rw [if_neg hk];by_cases h:g=k
      · have hb:(g == k)=true:=beq_iff_eq.mpr h;simp only [List.lookup,hb,if_neg (λ e:g=f=>hk (h.symm.trans e))]
      · have hb:(g == k)=false:=beq_eq_false_iff_ne.mpr h;simp only [List.lookup,hb];exact ih
theorem FU (f:Str) (v:V):∀ fs:List (Str × V),f∈(AR f v fs).map (·.1)/\∀ g,g∈fs.map (·.1)->g∈(AR f v fs).map (·.1)
  | []=>⟨by simp [AR],λ g h=>by simp at h⟩
  | (k,x)::r=>by
    obtain ⟨i1,i2⟩:=FU f v r;rw [show AR f v ((k,x)::r)=(if k=f then (k,v)::r else (k,x)::AR f v r) from rfl];by_cases hk:k=f
    · rw [if_pos hk];subst hk;exact ⟨by simp,λ g h=>by simpa using h⟩
    · rw [if_neg hk];refine ⟨?_,λ g h=> ?_⟩
      · rw [List.map_cons];exact List.mem_cons_of_mem _ i1
      · rw [List.map_cons] at h ⊢;rcases List.mem_cons.mp h with e | e
        · exact List.mem_cons.mpr (.inl e)
        · exact List.mem_cons_of_mem _ (i2 g e)
theorem F0 (f:Str) (v:V):∀ fs:List (Str × V),(AR f v fs).length<=fs.length+1
  | []=>by simp [AR]
  | (k,x)::r=>by
    have ih:=F0 f v r;rw [show AR f v ((k,x)::r)=(if k=f then (k,v)::r else (k,x)::AR f v r) from rfl];by_cases hk:k=f
    · rw [if_pos hk,List.length_cons,List.length_cons];omega
    · rw [if_neg hk,List.length_cons,List.length_cons];omega
theorem RelO.some_of {v:V} {o:Option Value} (r:RelO (some v) o):∃ u,o=some u/\RelV v u:=by
  cases o with
  | none=>exact (show False from r).elim
  | some u=>exact ⟨u,rfl,r⟩
theorem RelO.none_of {o:Option Value} (r:RelO none o):o=none:=by
  cases o with
  | none=>rfl
  | some u=>exact (show False from r).elim
theorem Ma {v:V} {u:Value} (r:RelV v u):PySem.W.handedIn u=true:=by
  cases v with
  | non=>cases (show u=Value.none from r);rfl
  | bl b=>cases (show u=Value.bool b from r);rfl
  | int i=>obtain ⟨t,e⟩:=(show ∃ t,u=Value.int i t from r);cases e;rfl
  | str x=>obtain ⟨t,e⟩:=(show ∃ t,u=Value.str x t from r);cases e;rfl
  | byt b=>obtain ⟨t,e⟩:=(show ∃ t,u=Value.bytes b t from r);cases e;rfl
  | flt b=>obtain ⟨t,e⟩:=(show ∃ t,u=Value.float b t from r);cases e;rfl
  | ref a=>cases (show u=Value.ref a from r);rfl
  | ty n=>cases (show u=Value.type n from r);rfl
section
variable {P:Program} {w:World} {H H':Hp} {h h':Heap} {a C dx:Addr} {fs fs':List (Str × V)}
theorem Gw (hok:HOk P w H h) (e:H a=some (.ins C dx fs)):∃ mA,ObjM h a dx C mA/\(∀ f,RelO (fs.lookup f) (mA f))/\PySem.Within mA (fs.map (·.1))/\fs.length<=1000/\H dx=some (.own a):=by
  obtain ⟨d,z,ne,ob,mA,n,r,q⟩:=(show ObjOk P w H h a (.ins C dx fs) from hok a _ e);exact ⟨mA,⟨ob,n,ne⟩,r,q,z,d⟩
end
structure Cls (K:PySem.W.Frag) (C:Addr):Prop where
  pg:PySem.W.plainGet K C Str.empty=true
  hd:PySem.W.hasDictIn K C=true
  po:PySem.W.plainOver K C=true
  sa:PySem.W.findIn K (.ref C) "__setattr__"=some (some (.builtin "object.__setattr__"))
theorem Cls.get {K:PySem.W.Frag} {C:Addr} (c:Cls K C) (f:Str):PySem.W.plainGet K C f=true:=c.pg
def NoAttr (K:PySem.W.Frag) (C:Addr) (f:Str):Prop:=PySem.W.findIn K (.ref C) f=some none
theorem NoAttr.taker {K:PySem.W.Frag} {C:Addr} {f:Str} (n:NoAttr K C f):PySem.W.takerIn K C f=some none:=by
  unfold PySem.W.takerIn;rw [show PySem.W.findIn K (.ref C) f=some none from n];rfl
structure Con (K:PySem.W.Frag) (C:Addr) (f:Str) (v:V) (u:Value):Prop where
  at_:PySem.W.findIn K (.ref C) f=some (some u)
  rel:RelV v u
  get:PySem.W.specialIn K u "__get__"=some none
  cp:PySem.W.copiedNames.contains f=false
structure Meth (K:PySem.W.Frag) (C:Addr) (m:Str) (f:Addr):Prop where
  at_:PySem.W.findIn K (.ref C) m=some (some (.ref f))
  fn:PySem.W.isFn K (.ref f)=true
  kp:PySem.W.keepIn K (.ref f)=true
section
variable {X:Cx} {pins:List (Addr × Obj)} {σ:St} {H:Hp} {s:Shared} {a C dx:Addr} {fs:List (Str × V)} {f:Str} {v:V} {A:Around} {E:Value->Shared->Prop}
theorem K3 {b:Bool} {Q:Value->Shared->Prop} (I:Inv X pins σ H s) (e:H a=some (.ins C dx fs)) (c:Cls X.K C) (n:NoAttr X.K C f) (l:fs.lookup f=some v)
    (h:∀ u s',Inv X pins σ H s'->RelV v u->Q u s'):wpAny (model X.prog X.w) A (getAttr (.ref a) f b) Q E s:=by
  obtain ⟨mA,O,r,_,_,_⟩:=Gw I.hok e;obtain ⟨u,hu,ru⟩:=RelO.some_of (v:=v) (o:=mA f) (by rw [<-l];exact r f);exact OJ I.kIn O (c.get f) c.hd n hu (Ma ru) (h u _ (I.tok _) ru)
theorem EV {m:Str} {g:Addr} {pl:Sem Bool} {Q:Value × List Value->Shared->Prop} (I:Inv X pins σ H s) (e:H a=some (.ins C dx fs)) (c:Cls X.K C) (k:Meth X.K C m g) (l:fs.lookup m=none)
    (h:Q (.ref g,[.ref a]) s):wpAny (model X.prog X.w) A (getMethod (.ref a) m pl) Q E s:=by
  obtain ⟨mA,O,r,_,_,_⟩:=Gw I.hok e;have hn:mA m=none:=RelO.none_of (by rw [<-l];exact r m);exact N5 I.kIn O (c.get m) k.at_ k.fn hn h
theorem KO {y:V} {u:Value} {Q:Unit->Shared->Prop} (I:Inv X pins σ H s) (e:H a=some (.ins C dx fs)) (c:Cls X.K C) (n:NoAttr X.K C f) (hl:fs.length<1000) (ry:RelV y u)
    (h:∀ s',Inv X pins σ (upd H a (.ins C dx (AR f y fs))) s'->Q () s'):wpAny (model X.prog X.w) A (setAttr (.ref a) f u) Q E s:=by
  obtain ⟨mA,O,r,wi,_,ho⟩:=Gw I.hok e;have hz:(fs.map (·.1)).length<=sizeLine:=by rw [List.length_map,sizeLine_eq];omega
  refine Pk I.kIn O c.sa c.po n.taker c.hd wi hz λ h' O' sb=>h _ ?_;have hd:∃ o,h'.get? dx=some o:=let ⟨o,_,_,e',_⟩:=O'.ns;⟨o,e'⟩;refine I.write (x:=a) (e:=dx) (by rw [e];exact True.intro) (.inr ho) (λ b q hb z=>(sb.2 b hb).trans z) hd ?_;refine ⟨by rw [Aj O.ne];exact ho,?_,O.ne,O'.obj,_,O'.ns,λ g=> ?_,λ g hg=> ?_⟩
  · have:=F0 f y fs;omega
  · show RelO ((AR f y fs).lookup g) (if g=f then some u else mA g);rw [F9];by_cases q:g=f
    · rw [if_pos q,if_pos q];exact ry
    · rw [if_neg q,if_neg q];exact r g
  · by_cases q:g=f
    · rw [q];exact (FU f y fs).1
    · refine (FU f y fs).2 g (wi g λ z=>hg ?_);show (if g=f then some u else mA g)=none;rw [if_neg q];exact z
theorem Inv.made (I:Inv X pins σ H s):Inv X pins σ (upd (upd H s.heap.objs.size (.own (s.heap.objs.size+1))) (s.heap.objs.size+1) (.ins C s.heap.objs.size []))
    { s with heap:=(s.heap.push PySem.W.emptyDict).push (PySem.W.instObj C s.heap.objs.size) }:=by
  have e1:(s.heap.push PySem.W.emptyDict).get? s.heap.objs.size=some PySem.W.emptyDict:=Heap.get?_push_size s.heap rfl;have e2:((s.heap.push PySem.W.emptyDict).push (PySem.W.instObj C s.heap.objs.size)).get? (s.heap.objs.size+1)=some (PySem.W.instObj C s.heap.objs.size):=by
    have:=Heap.get?_push_size (s.heap.push PySem.W.emptyDict) (o:=PySem.W.instObj C s.heap.objs.size) rfl
    rwa [Heap.size_push] at this
  have e3:(s.heap.push PySem.W.emptyDict).Ns s.heap.objs.size (λ _=>none):=⟨PySem.W.emptyDict, #[],_,e1,rfl,(λ e he=>absurd he (by simp)),λ _=>rfl⟩;have I1:=I.laid (a:=s.heap.objs.size) (o:= .own (s.heap.objs.size+1)) (h':=s.heap.push PySem.W.emptyDict) (t':=s.toks) (λ b u q=>Heap.get?_push_of_some _ q) (Nat.le_refl _) ⟨_,e1⟩;refine I1.laid (a:=s.heap.objs.size+1) (o:= .ins C s.heap.objs.size []) (t':=s.toks) (λ b u q=>Heap.get?_push_of_some _ q) (Nat.le_of_eq (Heap.size_push _ _)) ?_;have ne:s.heap.objs.size≠s.heap.objs.size+1:=Nat.ne_of_lt (Nat.lt_succ_self _);refine ⟨by rw [Aj ne,Ac],Nat.zero_le _,ne,e2,λ _=>none,(Heap.Ns1.of_empty e3).at λ o q=>Heap.get?_push_of_some _ q,λ _=>True.intro,λ y hy=>absurd rfl hy⟩
theorem Pt {prog:Program} {w:World} {env:Env} {e:Expr} {f:Str} {pos:Pos} {s:Shared} {Q:Value->Shared->Prop} (hb:attributeBase e f env (eval e env)=eval e env)
    (h:wpAny (model prog w) A (eval e env) (λ o s₁=>wpAny (model prog w) A (getAttr o f true) Q E s₁) E s):wpAny (model prog w) A (eval (.Attribute e f pos) env) Q E s:=
  Attribute_any_ h (by rw [arm_eval_Attribute,hb])
end
def RJ (K:PySem.W.Frag) (ta:TE) (f:Str):TE:=λ σ H Q=>ta σ H λ x H1=>∃ a C dx fs v,x= .ref a/\H1 a=some (.ins C dx fs)/\Cls K C/\NoAttr K C f/\fs.lookup f=some v/\Q v H1
def Ts (K:PySem.W.Frag) (ta tv:TE) (f:Str):TS:=λ D σ H=>tv σ H λ y H1=>ta σ H1 λ x H2=>∃ a C dx fs,x= .ref a/\H2 a=some (.ins C dx fs)/\Cls K C/\NoAttr K C f/\fs.length<1000/\
  D.nx σ (upd H2 a (.ins C dx (AR f y fs)))
section
variable {X:Cx} {o e value:Expr} {f:Str} {pos pos' tpos:Pos} {ta tv:TE}
theorem Qu (he:PE X e ta) (hb:attributeBase e f X.env (eval e X.env)=eval e X.env):PE X (.Attribute e f pos) (RJ X.K ta f):=by
  intro pins s σ H Q I h;refine Pt hb (thn (he pins s σ H _ I h) λ u s1 ⟨x,H1,I1,rx,a,C,dx,fs,v,ex,ea,c,n,l,q⟩=> ?_);subst ex;obtain rfl:u=Value.ref a:=rx;exact K3 I1 ea c n l λ u' s2 I2 ru=>⟨v,H1,I2,ru,q⟩
theorem Bm (ha:PE X o ta) (hv:PE X value tv) (hs:swapsWith value (some (.Attribute o f pos')) pos.line X.env=pure false):PS X (.Assign [.Attribute o f pos'] value pos) (Ts X.K ta tv f):=by
  intro pins s σ H D I h;refine plainObj_wpAny_Assign_Attribute (thn (hv pins s σ H _ I h) λ u s1 ⟨y,H1,I1,ry,q⟩=>thn (ha pins s1 σ H1 _ I1 q) λ ov s2 ⟨x,H2,I2,rx,a,C,dx,fs,ex,ea,c,n,l,q2⟩=> ?_) hs;subst ex;obtain rfl:ov=Value.ref a:=rx;exact KO I2 ea c n l ry λ s3 I3=>⟨σ,_,I3,q2⟩
theorem PZ {pl:Sem Bool} {m:Str} {apos:Pos} {args:List Expr} {pins:List (Addr × Obj)} {s:Shared} {σ:St} {H:Hp} {Q:Value->Shared->Prop} {te:TE} (he:PE X e te) (I:Inv X pins σ H s)
    (h:te σ H λ x H1=>∃ a C dx fs g,x= .ref a/\H1 a=some (.ins C dx fs)/\Cls X.K C/\Meth X.K C m g/\fs.lookup m=none/\
      ∀ s1,Inv X pins σ H1 s1->wpAny (model X.prog X.w) X.A (callWith pos (.ref g) [.ref a] (backTo pos (starEach args X.env)) (backToKw pos (keywordEach [] X.env))) Q X.xe s1)
    (ht:eval (.Call (.Attribute e m apos) args [] pos) X.env=(do
      let ov <-eval e X.env
      standAt apos.atName
      let (f,first) <-holding [ov] (getMethod ov m pl)
      callWith pos f first (backTo pos (starEach args X.env)) (backToKw pos (keywordEach [] X.env)))):
    wpAny (model X.prog X.w) X.A (eval (.Call (.Attribute e m apos) args [] pos) X.env) Q X.xe s:=by
  refine PySem.W.methodCall_KW (pl:=pl) (thn (he pins s σ H _ I h) λ u s1 ⟨x,H1,I1,rx,a,C,dx,fs,g,ex,ea,c,k,l,q⟩=> ?_) ht;subst ex;obtain rfl:u=Value.ref a:=rx;exact EV I1 ea c k l (q s1 I1)
end
section
variable {X:Cx} {pins:List (Addr × Obj)} {σ:St} {H:Hp} {s:Shared} {A:Around} {E:Value->Shared->Prop} {Q:Value->Shared->Prop} {c:Value} {b:Bool}
inductive TyOf (K:PySem.W.Frag) (H:Hp):V->Value->Prop where
  | non:TyOf K H .non (.type "NoneType")
  | bl (x:Bool):TyOf K H (.bl x) (.type "bool")
  | int (i:Int):TyOf K H (.int i) (.type "int")
  | str (x:Str):TyOf K H (.str x) (.type "str")
  | flt (x:UInt64):TyOf K H (.flt x) (.type "float")
  | lst {a:Addr} {xs:List V} (e:H a=some (.lst xs)):TyOf K H (.ref a) (.type "list")
  | frz {a:Addr} {o:Obj} {xs:List V} (e:H a=some (.frz o (.lst xs))):TyOf K H (.ref a) (.type "list")
  | tup {a:Addr} {xs:List V} (e:H a=some (.tup xs)):TyOf K H (.ref a) (.type "tuple")
  | dK {a:Addr} {kvs:List (Key × V)} (e:H a=some (.dK kvs)):TyOf K H (.ref a) (.type "dict")
  | dT {a:Addr} {kvs:List (List Key × V)} (e:H a=some (.dT kvs)):TyOf K H (.ref a) (.type "dict")
  | ins {a C dx:Addr} {fs:List (Str × V)} (e:H a=some (.ins C dx fs)) (cl:Cls K C) (ha:PySem.W.findIn K (.ref C) "__class__"=some (some (.builtin "object.__class__")))
      (hn:PySem.W.specialIn K (.builtin "object.__class__") "__get__"=some (some (.builtin "getset_descriptor.__get__"))) (htk:PySem.W.takesIn K (.builtin "object.__class__")=some true)
      (hm:PySem.W.mroIn K C (.type "object")=some true):TyOf K H (.ref a) (.ref C)
theorem Fz {x:V} {u t:Value} (I:Inv X pins σ H s) (rx:RelV x u) (ty:TyOf X.K H x t) (e:PySem.W.kitOne X.K t c=some b) (h:∀ tk,Q (.bool b) { s with toks:=tk }):
    wpAny (model X.prog X.w) A (call (.builtin "isinstance") [u,c]) Q E s:=by
  cases ty with
  | non=>cases (show u=Value.none from rx);exact PySem.W.kia_one PySem.W.kitx_none I.kIn True.intro e (λ z=>nomatch z) h
  | bl y=>cases (show u=Value.bool y from rx);exact PySem.W.kia_one PySem.W.kitx_bool I.kIn True.intro e (λ z=>nomatch z) h
  | int i=>obtain ⟨t,q⟩:=(show ∃ t,u=Value.int i t from rx);cases q;exact PySem.W.kia_one PySem.W.kitx_int I.kIn True.intro e (λ z=>nomatch z) h
  | str y=>obtain ⟨t,q⟩:=(show ∃ t,u=Value.str y t from rx);cases q;exact PySem.W.kia_one PySem.W.kitx_str I.kIn True.intro e (λ z=>nomatch z) h
  | flt y=>obtain ⟨t,q⟩:=(show ∃ t,u=Value.float y t from rx);cases q;exact PySem.W.kia_one PySem.W.kitx_float I.kIn True.intro e (λ z=>nomatch z) h
  | @lst a xs ea=>
    cases (show u=Value.ref a from rx);obtain ⟨_,_,n,_,h1⟩:=(show ObjOk X.prog X.w H s.heap a (.lst xs) from I.hok a _ ea);exact PySem.W.kia_one PySem.W.kitx_list I.kIn ⟨_,h1,rfl⟩ e (λ z=>nomatch z) h
  | @frz a ob xs ea=>
    cases (show u=Value.ref a from rx);obtain ⟨_,_,_,n,_,h1⟩:=(show ObjOk X.prog X.w H s.heap a (.frz ob (.lst xs)) from I.hok a _ ea);exact PySem.W.kia_one PySem.W.kitx_list I.kIn ⟨_,h1,rfl⟩ e (λ z=>nomatch z) h
  | @tup a xs ea=>
    cases (show u=Value.ref a from rx);obtain ⟨_,_,_,p⟩:=(show ObjOk X.prog X.w H s.heap a (.tup xs) from I.hok a _ ea);obtain ⟨o,h1,h2,_⟩:=p;exact PySem.W.kia_one PySem.W.kitx_tuple I.kIn ⟨o,h1,h2⟩ e (λ z=>nomatch z) h
  | @dK a kvs ea=>
    cases (show u=Value.ref a from rx);obtain ⟨_,_,vs,_,p⟩:=(show ObjOk X.prog X.w H s.heap a (.dK kvs) from I.hok a _ ea);obtain ⟨o,es,ep,h1,h2,_⟩:=p;exact PySem.W.kia_one PySem.W.kitx_dict I.kIn ⟨o,h1,h2.1⟩ e (λ z=>nomatch z) h
  | @dT a kvs ea=>
    cases (show u=Value.ref a from rx);obtain ⟨_,_,xs,_,o,es,ep,h1,h2,_⟩:=(show ObjOk X.prog X.w H s.heap a (.dT kvs) from I.hok a _ ea);exact PySem.W.kia_one PySem.W.kitx_dict I.kIn ⟨o,h1,h2.1⟩ e (λ z=>nomatch z) h
  | @ins a C dx fs ea cl ha hn htk hm=>
    cases (show u=Value.ref a from rx);obtain ⟨mA,O,_⟩:=Gw I.hok ea;obtain ⟨od,J,_⟩:=O.look;exact PySem.W.kia_one (PySem.W.kitx_own (cl.get _) cl.hd ha hn htk hm) I.kIn J e (λ z=>nomatch z) h
end
structure Room (k:Nat) (A:Around):Prop where
  hd:A.handled=none
  dp:A.depth+3*k+5<recursionLimit
  un:A.units+16*k+200<cLine
theorem Room.mono {j k:Nat} {A:Around} (r:Room k A) (h:j<=k):Room j A:=⟨r.hd,by have:=r.dp;omega,by have:=r.un;omega⟩
theorem Room.deeper {k:Nat} {A:Around} (r:Room (k+1) A) (env:Env):Room k (A.deeper env):=
  ⟨r.hd,by have:=r.dp;show A.depth+1+3*k+5<_;omega,by have:=r.un;show A.units+3+16*k+200<_;omega⟩
theorem Lb {A:Around} {C:Addr} {us:List Value} {kw:List (Str × Value)}:(A.under (.builtin "type.__call__" ⟨.ref C::us,kw⟩)).depth=A.depth+1:=by
  first | rfl | simp [Around.under,Code.weight,Code.isCreation,Code.isGuard,Code.isCaller,Code.frames,Code.isFrame,guardIds]
theorem KU {A:Around} {C:Addr} {us:List Value} {kw:List (Str × Value)}:(A.under (.builtin "type.__call__" ⟨.ref C::us,kw⟩)).units=A.units+1:=by
  first | rfl | simp [Around.under,Code.cUnits,Code.frames,Code.isFrame]
theorem Room.make {k:Nat} {A:Around} (r:Room (k+1) A) (C:Addr) (us:List Value) (kw:List (Str × Value)):Room k (A.under (.builtin "type.__call__" ⟨.ref C::us,kw⟩)):=
  ⟨r.hd,by have:=r.dp;rw [Lb];omega,by have:=r.un;rw [KU];omega⟩
theorem Room.depth {k:Nat} {A:Around} (r:Room k A):A.depth<recursionLimit:=by have:=r.dp;omega
theorem Room.units {k:Nat} {A:Around} (r:Room k A):A.units+64<cLine:=by have:=r.un;omega
theorem Room.units0 {k:Nat} {A:Around} (r:Room k A):A.units<cLine:=by have:=r.un;omega
def Gf:TA:=λ _ H Q=>Q [] H
def F6 (ta:TE) (tr:TA):TA:=λ σ H Q=>ta σ H λ x H1=>tr σ H1 λ xs H2=>Q (x::xs) H2
section
variable {X:Cx} {e:Expr} {es:List Expr} {te:TE} {t:TA} {pos:Pos}
theorem Ab:PA X [] Gf:=λ _ _ _ _ H Q I h=>Calls.spliced_nil ⟨[],H,I, .nil,h⟩
theorem Aa (ha:PE X e te) (hr:PA X es t) (hs:starEach (e::es) X.env=(false,eval e X.env)::starEach es X.env:=by rfl):PA X (e::es) (F6 te t):=by
  intro pos pins s σ H Q I h;rw [hs];show wpAny _ _ (spliced ((false,eval e X.env)::backTo pos (starEach es X.env))) _ _ s;refine Calls.spliced_cons (thn (ha pins s σ H _ I h) λ u s1 ⟨x,H1,I1,r1,q1⟩=> ?_);exact thn (hr pos pins s1 σ H1 _ I1 q1) λ us s2 ⟨xs,H2,I2,r2,q2⟩=>⟨x::xs,H2,I2, .cons r1 r2,q2⟩
def R4 (t:TA):TE:=λ σ H Q=>t σ H λ xs H1=>xs.length<=sizeLine/\∀ p,H1 p=none->Q (.ref p) (upd H1 p (.tup xs))
def Se (t:TA):TE:=λ σ H Q=>t σ H λ xs H1=>xs.length<=sizeLine/\∀ p,H1 p=none->Q (.ref p) (upd H1 p (.lst xs))
theorem AB {x1} (h:PA X es t):PE X (.Tuple es x1 pos) (R4 t):=by
  intro pins s σ H Q I hq;refine wpAny_Tuple_spliced (thn (h pos pins s σ H _ I hq) λ us s1 ⟨xs,H1,I1,r,z,q⟩=>⟨by rw [<-r.length];exact z,?_⟩);have hf:H1 s1.heap.objs.size=none:=I1.hok.fresh (Nat.le_refl _);refine ⟨.ref s1.heap.objs.size,upd H1 s1.heap.objs.size (.tup xs),I1.laid (t':=s1.toks) (λ b u e=>Heap.get?_push_of_some _ e) (Nat.le_refl _) ?_,rfl,q _ hf⟩;exact ⟨z,us,r,⟨_,Heap.get?_push_size _ rfl,rfl,_,rfl⟩⟩
theorem AS (h:PA X es t):PE X (.List es pos) (Se t):=by
  intro pins s σ H Q I hq;refine wpAny_List_spliced (thn (h pos pins s σ H _ I hq) λ us s1 ⟨xs,H1,I1,r,z,q⟩=>⟨by rw [<-r.length];exact z,?_⟩);have hf:H1 s1.heap.objs.size=none:=I1.hok.fresh (Nat.le_refl _);refine ⟨.ref s1.heap.objs.size,upd H1 s1.heap.objs.size (.lst xs),I1.laid (t':=s1.toks) (λ b u e=>Heap.get?_push_of_some _ e) (Nat.le_refl _) ?_,rfl,q _ hf⟩;exact ⟨z,us,0,r,Heap.get?_push_size _ rfl⟩
end
abbrev Sp:=List V->Hp->VK->XK->Prop
abbrev CXT:=List Env->Hp->Shared->XK->Value->Shared->Prop
structure Env0 (P:Program) (w:World) (K:PySem.W.Frag) (mg:Str->Option Value) (base:Heap) (A:Around) (outer:List Env) (s:Shared) (H:Hp):Prop where
  frames:A.frames=some outer
  mod:Mod K mg base
  bs:∀ b o,base.get? b=some o->s.heap.get? b=some o/\H b=none
  bsz:base.objs.size<=s.heap.objs.size
  funs:s.heap.FunFrames base outer
  frf:∀ b∈frs outer,H b=none
  hok:HOk P w H s.heap
  bare:AllBare s.gens
def CE (outer:List Env) (P:Program) (w:World) (H:Hp) (s:Shared) (Q:VK) (u:Value) (s':Shared):Prop:=
  ∃ v H',s'.os=s.os/\AllBare s'.gens/\Un (frs outer) [] H H' s.heap s'.heap/\HOk P w H' s'.heap/\RelV v u/\Q v H'
def CR (CX:CXT) (outer:List Env) (P:Program) (w:World) (H:Hp) (s:Shared) (Q:VK) (E:XK) (r:Result) (s':Shared):Prop:=
  match r with
  | .ok (.ret u)=>CE outer P w H s Q u s'
  | .ok _=>False
  | .error e=>CX outer H s E e s'
structure FnOk (P:Program) (w:World) (K:PySem.W.Frag) (mg:Str->Option Value) (base:Heap) (CX:CXT) (k:Nat) (f:Addr) (fd:FuncData) (ps:List Str) (sp:Sp):Prop where
  len:∀ vs H Q E,sp vs H Q E->vs.length=ps.length
  run:∀ (A:Around) (outer:List Env) (s:Shared) (H:Hp) (args:Args) (us:List Value) (vs:List V) (Q:VK) (E:XK),Room k A->Env0 P w K mg base A outer s H->BindsTo s fd args (ps.zip us)->Vals vs us->sp vs H Q E->
    codeAny (model P w) A (.call (.ref f) args) (CR CX outer P w H s Q E) s
theorem Env0.make {P:Program} {w:World} {K:PySem.W.Frag} {mg:Str->Option Value} {base:Heap} {A:Around} {outer:List Env} {s:Shared} {H:Hp} (e:Env0 P w K mg base A outer s H) (C:Addr) (us:List Value) (kw:List (Str × Value)):
    Env0 P w K mg base (A.under (.builtin "type.__call__" ⟨.ref C::us,kw⟩)) outer s H:=⟨by first | exact e.frames | (simpa [Around.under,Code.envs,Code.isFrame,pushEnvs] using e.frames),e.mod,e.bs,e.bsz,e.funs,e.frf,e.hok,e.bare⟩
section
variable {X:Cx} {pins:List (Addr × Obj)} {σ:St} {H:Hp} {s s':Shared}
theorem Inv.env0 (I:Inv X pins σ H s):Env0 X.prog X.w X.K X.mg X.base X.A X.stack s H:=
  ⟨I.ok.frames,I.ok.mod,I.bs,Nat.le_trans I.ok.bsz I.sz,I.stack,I.stkFree,I.hok,I.bare⟩
theorem Inv.after {Q:VK} {u:Value} (I:Inv X pins σ H s) (h:CE X.stack X.prog X.w H s Q u s'):EP X pins σ Q u s':=by
  obtain ⟨v,H',os,bare,un,hok,r,q⟩:=h;obtain ⟨hh,g,d,t,os'⟩:=s';obtain rfl:os'=s.os:=os;exact ⟨v,H',I.call (h':=hh) (g':=g) (d':=d) (t':=t) (ch:=[]) un hok bare (λ b z=>absurd z (by simp)),r,q⟩
end
def Kk (sp:Sp) (dvs:List V) (E:XK) (t:TA):TE:=λ σ H Q=>t σ H λ vs H1=>sp (vs++dvs) H1 Q E
def Dz (C:Addr) (m:Str) (sp:Sp) (dvs:List V) (E:XK) (ta:TE) (t:TA):TE:=λ σ H Q=>ta σ H λ x H1=>∃ a dx fs,x= .ref a/\H1 a=some (.ins C dx fs)/\fs.lookup m=none/\
  t σ H1 λ vs H2=>sp (x::(vs++dvs)) H2 Q E
def Fy (C:Addr) (sp:Sp) (dvs:List V) (E:XK) (t:TA):TE:=λ σ H Q=>t σ H λ vs H1=>∀ x dx,H1 x=none->H1 dx=none->dx≠x->
  sp (.ref x::(vs++dvs)) (upd (upd H1 dx (.own x)) x (.ins C dx [])) (λ v H2=>v= .non/\Q (.ref x) H2) E
def Binds (K:PySem.W.Frag) (fd:FuncData) (ps:List Str) (ds:List Value):Prop:=
  ∀ (s:Shared) (us:List Value),K.In s.heap->(us++ds).length=ps.length->BindsTo s fd ⟨us,[]⟩ (ps.zip (us++ds))
theorem Binds.all {K:PySem.W.Frag} {fd:FuncData} {ps:List Str} (h:∀ us:List Value,us.length=ps.length->bindArgs fd ⟨us,[]⟩=pure (ps.zip us)):Binds K fd ps []:=λ s us _ hl=>by
  rw [List.append_nil] at hl ⊢;exact .of_eq (h us hl)
def Ba (CX:CXT) (X:Cx) (E:XK):Prop:=∀ (pins:List (Addr × Obj)) (σ:St) (H:Hp) (s:Shared) (e:Value) (s':Shared),Inv X pins σ H s->CX X.stack H s E e s'->X.xe e s'
section
variable {X:Cx} {CX:CXT} {k:Nat} {f C:Addr} {fd:FuncData} {ps:List Str} {sp:Sp} {dvs:List V} {ds:List Value} {E:XK} {x m:Str} {p pos apos:Pos} {e o:Expr} {es:List Expr} {ta:TE} {t:TA}
theorem Li {pins:List (Addr × Obj)} {σ:St} {H:Hp} {s:Shared} {Q:VK} {us:List Value} {vs:List V} (F:FnOk X.prog X.w X.K X.mg X.base CX k f fd ps sp) (hr:Room k X.A) (hb:Binds X.K fd ps ds) (hd:Vals dvs ds) (hx:Ba CX X E)
    (I:Inv X pins σ H s) (r:Vals vs us) (h:sp (vs++dvs) H Q E):wpAny (model X.prog X.w) X.A (call (.ref f) us) (EP X pins σ Q) X.xe s:=by
  have r2:Vals (vs++dvs) (us++ds):=r.append hd;have hl:(us++ds).length=ps.length:=by rw [<-r2.length];exact F.len _ _ _ _ h
  refine wpAny_call (codeAny_mono (F.run X.A X.stack s H ⟨us,[]⟩ (us++ds) (vs++dvs) Q E hr I.env0 (hb s us I.kIn hl) r2 h) λ r s' hq=> ?_);cases r with
  | error e=>exact hx pins σ H s e s' I hq
  | ok fl=>
    cases fl with
    | ret u=>exact I.after hq
    | next=>exact False.elim hq
    | brk=>exact False.elim hq
    | cont=>exact False.elim hq
theorem LA (F:FnOk X.prog X.w X.K X.mg X.base CX k f fd ps sp) (hr:Room k X.A) (hg:Gl X x) (hm:X.mg x=some (.ref f)) (hk:PySem.W.keepIn X.K (.ref f)=true) (hb:Binds X.K fd ps ds) (hd:Vals dvs ds) (hx:Ba CX X E)
    (ha:PA X (e::es) t) (hdb:(x == ("__debug__":Str))=false:=by decide) (he:starEach (e::es) X.env=(false,eval e X.env)::starEach es X.env:=by rfl) (hpl:(backTo pos (starEach es X.env)).any (·.1)=false:=by rfl):
    PE X (.Call (.Name x p) (e::es) [] pos) (Kk sp dvs E t):=by
  intro pins s σ H Q I h;refine wpAny_Call_Name_kw (Fi I hg hm ?_ hdb);refine PySem.W.callWith_K (h₀:=X.base) I.ok.mod.kin hk (thn (ha pos pins s σ H _ I h) λ us s1 ⟨vs,H1,I1,r,q⟩=>⟨I1.kIn,?_⟩) he hpl;exact Li F hr hb hd hx I1 r q
theorem OR {pl:Sem Bool} (he:PE X o ta) (c:Cls X.K C) (hm:Meth X.K C m f) (F:FnOk X.prog X.w X.K X.mg X.base CX k f fd ps sp) (hr:Room k X.A) (hb:Binds X.K fd ps ds) (hd:Vals dvs ds) (hx:Ba CX X E) (ha:PA X (e::es) t)
    (hst:starEach (e::es) X.env=(false,eval e X.env)::starEach es X.env:=by rfl) (hpl:(backTo pos (starEach es X.env)).any (·.1)=false:=by rfl)
    (ht:eval (.Call (.Attribute o m apos) (e::es) [] pos) X.env=(do
      let ov <-eval o X.env
      standAt apos.atName
      let (f,first) <-holding [ov] (getMethod ov m pl)
      callWith pos f first (backTo pos (starEach (e::es) X.env)) (backToKw pos (keywordEach [] X.env))):=by rfl):
    PE X (.Call (.Attribute o m apos) (e::es) [] pos) (Dz C m sp dvs E ta t):=by
  intro pins s σ H Q I h;refine PySem.W.methodCall_KW (pl:=pl) (thn (he pins s σ H _ I h) λ u s1 ⟨x,H1,I1,rx,a,dx,fs,ex,ea,l,q⟩=> ?_) ht;subst ex;obtain rfl:u=Value.ref a:=rx;refine EV I1 ea c hm l ?_;refine PySem.W.callWith_K (first:=[.ref a]) (h₀:=X.base) I.ok.mod.kin hm.kp (thn (ha pos pins s1 σ H1 _ I1 q) λ us s2 ⟨vs,H2,I2,r,q2⟩=>⟨I2.kIn,?_⟩) hst hpl;exact Li (us:= .ref a::us) (vs:= .ref a::vs) F hr hb hd hx I2 (.cons rfl r) q2
theorem Kt {pl:Sem Bool} (he:PE X o ta) (c:Cls X.K C) (hm:Meth X.K C m f) (F:FnOk X.prog X.w X.K X.mg X.base CX k f fd ps sp) (hr:Room k X.A) (hb:Binds X.K fd ps ds) (hd:Vals dvs ds) (hx:Ba CX X E)
    (ht:eval (.Call (.Attribute o m apos) [] [] pos) X.env=(do
      let ov <-eval o X.env
      standAt apos.atName
      let (f,first) <-holding [ov] (getMethod ov m pl)
      callWith pos f first (backTo pos (starEach [] X.env)) (backToKw pos (keywordEach [] X.env))):=by rfl):
    PE X (.Call (.Attribute o m apos) [] [] pos) (Dz C m sp dvs E ta Gf):=by
  intro pins s σ H Q I h;refine PySem.W.methodCall_KW (pl:=pl) (thn (he pins s σ H _ I h) λ u s1 ⟨x,H1,I1,rx,a,dx,fs,ex,ea,l,q⟩=> ?_) ht;subst ex;obtain rfl:u=Value.ref a:=rx;refine EV I1 ea c hm l ?_;exact PySem.W.callWith_K0 (first:=[.ref a]) I1.kIn hm.kp (Li (us:=[.ref a]) (vs:=[.ref a]) F hr hb hd hx I1 (.cons rfl .nil) q)
structure Mk (K:PySem.W.Frag) (C f:Addr):Prop where
  makes:PySem.W.makesIn K C=true
  init:PySem.W.findIn K (.ref C) "__init__"=some (some (.ref f))
  fn:PySem.W.isFn K (.ref f)=true
  kp:PySem.W.keepIn K (.ref C)=true
theorem N3 {pins:List (Addr × Obj)} {σ:St} {H:Hp} {s:Shared} {Q:VK} {us:List Value} {vs:List V} (M:Mk X.K C f) (F:FnOk X.prog X.w X.K X.mg X.base CX k f fd ps sp) (hr:Room (k+1) X.A) (hb:Binds X.K fd ps ds) (hd:Vals dvs ds)
    (hx:Ba CX X E) (I:Inv X pins σ H s) (r:Vals vs us)
    (h:∀ x dx,H x=none->H dx=none->dx≠x->sp (.ref x::(vs++dvs)) (upd (upd H dx (.own x)) x (.ins C dx [])) (λ v H2=>v= .non/\Q (.ref x) H2) E):
    wpAny (model X.prog X.w) X.A (call (.ref C) us) (EP X pins σ Q) X.xe s:=by
  have hq:=h (s.heap.objs.size+1) s.heap.objs.size (I.hok.fresh (Nat.le_succ _)) (I.hok.fresh (Nat.le_refl _)) (Nat.ne_of_lt (Nat.lt_succ_self _));have I2:=Inv.made (C:=C) I;have r2:Vals (V.ref (s.heap.objs.size+1)::(vs++dvs)) (Value.ref (s.heap.objs.size+1)::(us++ds)):= .cons rfl (r.append hd);have hl:(Value.ref (s.heap.objs.size+1)::us++ds).length=ps.length:=by
    have e:=r2.length;rw [F.len _ _ _ _ hq] at e;exact e.symm
  refine wpAny_call (N4 (f:=f) I.kIn M.makes M.init (beq_iff_eq.mp M.fn) (codeAny_mono (F.run _ X.stack _ _ ⟨Value.ref (s.heap.objs.size+1)::us,[]⟩ (Value.ref (s.heap.objs.size+1)::(us++ds)) _ _ E (hr.make C us [])
    (I2.env0.make C us []) (hb _ (Value.ref (s.heap.objs.size+1)::us) I2.kIn hl) r2 hq) λ r s' hq'=> ?_))
  cases r with
  | error e=>exact hx pins σ _ _ e s' I2 hq'
  | ok fl=>
    cases fl with
    | ret u=>
      obtain ⟨v,H',I3,rv,ev,q3⟩:=I2.after hq';subst ev;exact ⟨rv,⟨V.ref (s.heap.objs.size+1),H',I3,rfl,q3⟩⟩
    | next=>exact False.elim hq'
    | brk=>exact False.elim hq'
    | cont=>exact False.elim hq'
theorem Jx (M:Mk X.K C f) (F:FnOk X.prog X.w X.K X.mg X.base CX k f fd ps sp) (hr:Room (k+1) X.A) (hg:Gl X x) (hm:X.mg x=some (.ref C)) (hb:Binds X.K fd ps ds) (hd:Vals dvs ds) (hx:Ba CX X E)
    (ha:PA X (e::es) t) (hdb:(x == ("__debug__":Str))=false:=by decide) (he:starEach (e::es) X.env=(false,eval e X.env)::starEach es X.env:=by rfl) (hpl:(backTo pos (starEach es X.env)).any (·.1)=false:=by rfl):
    PE X (.Call (.Name x p) (e::es) [] pos) (Fy C sp dvs E t):=by
  intro pins s σ H Q I h;refine wpAny_Call_Name_kw (Fi I hg hm ?_ hdb);refine PySem.W.callWith_K (h₀:=X.base) I.ok.mod.kin M.kp (thn (ha pos pins s σ H _ I h) λ us s1 ⟨vs,H1,I1,r,q⟩=>⟨I1.kIn,?_⟩) he hpl;exact N3 M F hr hb hd hx I1 r q
end
section
variable {X:Cx} {CX:CXT} {k:Nat} {f C:Addr} {fd:FuncData} {ps ks:List Str} {sp:Sp} {E:XK} {x m:Str} {p pos apos kpos:Pos} {e o:Expr} {es:List Expr} {kws:List Keyword} {te ta:TE} {t tk:TA} {nm:Option Str}
structure KBinds (K:PySem.W.Frag) (fd:FuncData) (ps ks:List Str) (g:List Value->List Value->List Value) (gV:List V->List V->List V):Prop where
  to:∀ (s:Shared) (us ws:List Value),K.In s.heap->(g us ws).length=ps.length->BindsTo s fd ⟨us,ks.zip ws⟩ (ps.zip (g us ws))
  rel:∀ {vs:List V} {us:List Value} {zs:List V} {ws:List Value},Vals vs us->Vals zs ws->Vals (gV vs zs) (g us ws)
variable {g:List Value->List Value->List Value} {gV:List V->List V->List V}
end
structure FnScope (N P:List Str) (sc:Scope):Prop where
  kind:sc.kind= .function
  co:sc.isCoroutine=false
  gen:sc.isGenerator=false
  nd:N.Nodup
  pre:N.take P.length=P
  par:∀ x∈P,sc.names.lookup x=some .local\/sc.names.lookup x=some .cell
  nofree:∀ y∈sc.names,y.2≠ .free
theorem IA {kindOf:Str->Option NameKind} {x:Str}:∀ {binds:List (Str × Value)} {m:Str->Option Value},(∀ v,(x,v)∉binds)->bindL kindOf binds m x=m x
  | [],_,_=>rfl
  | (n,v)::r,m,h=>by
    unfold bindL;rw [IA λ w hw=>h w (List.mem_cons_of_mem _ hw)];split
    · have:x≠n:=by rintro rfl;exact h v List.mem_cons_self
      simp [this]
    · rfl
theorem IT {kindOf:Str->Option NameKind} {x:Str}:∀ {binds:List (Str × Value)} {m:Str->Option Value},(∀ v,(x,v)∉binds)->bindC kindOf binds m x=m x
  | [],_,_=>rfl
  | (n,v)::r,m,h=>by
    unfold bindC;rw [IT λ w hw=>h w (List.mem_cons_of_mem _ hw)];split
    · rfl
    · have:x≠n:=by rintro rfl;exact h v List.mem_cons_self
      simp [this]
theorem IH {kindOf:Str->Option NameKind} {x:Str} {v:Value}:∀ {P:List Str} {vs:List Value} {i:Nat} {m:Str->Option Value},P.Nodup->P[i]?=some x->vs[i]?=some v->kindOf x=some .local->
    bindL kindOf (P.zip vs) m x=some v
  | [],_,_,_,_,h,_,_=>by simp at h
  | _::_,[],_,_,_,_,h,_=>by simp at h
  | p::P,w::vs,0,m,nd,h1,h2,hk=>by
    simp at h1 h2;subst h1;subst h2;show bindL kindOf ((p,w)::P.zip vs) m p=_;unfold bindL;rw [IA λ v hv=>(List.nodup_cons.mp nd).1 (List.of_mem_zip hv).1,if_pos hk];simp
  | p::P,w::vs,i+1,m,nd,h1,h2,hk=>by
    show bindL kindOf ((p,w)::P.zip vs) m x=_;unfold bindL;exact IH (i:=i) (List.nodup_cons.mp nd).2 (by simpa using h1) (by simpa using h2) hk
theorem IE {kindOf:Str->Option NameKind} {x:Str} {v:Value}:∀ {P:List Str} {vs:List Value} {i:Nat} {m:Str->Option Value},P.Nodup->P[i]?=some x->vs[i]?=some v->kindOf x≠some .local->
    bindC kindOf (P.zip vs) m x=some v
  | [],_,_,_,_,h,_,_=>by simp at h
  | _::_,[],_,_,_,_,h,_=>by simp at h
  | p::P,w::vs,0,m,nd,h1,h2,hk=>by
    simp at h1 h2;subst h1;subst h2;show bindC kindOf ((p,w)::P.zip vs) m p=_;unfold bindC;rw [IT λ v hv=>(List.nodup_cons.mp nd).1 (List.of_mem_zip hv).1,if_neg hk];simp
  | p::P,w::vs,i+1,m,nd,h1,h2,hk=>by
    show bindC kindOf ((p,w)::P.zip vs) m x=_;unfold bindC;exact IE (i:=i) (List.nodup_cons.mp nd).2 (by simpa using h1) (by simpa using h2) hk
noncomputable def start (N:List Str) (vs:List V):St:=vs.map some++List.replicate (N.length - vs.length) none
noncomputable def Co (CX:CXT) (P:Program) (w:World) (K:PySem.W.Frag) (mg:Str->Option Value) (base:Heap) (N:List Str) (qual:Str) (scope:Scope) (f:Addr) (cd:Value) (A:Around) (outer:List Env) (s:Shared) (H:Hp) (E:XK):Cx where
  prog:=P
  w:=w
  K:=K
  mg:=mg
  base:=base
  A:=A.deeper (envOfC qual scope s.heap.objs.size f cd)
  N:=N
  s₀:=s
  H₀:=H
  env:=envOfC qual scope s.heap.objs.size f cd
  outer:=outer
  stack:=envOfC qual scope s.heap.objs.size f cd::outer
  ex:=[]
  calm:=true
  fn:=λ _=>true
  pn:=[]
  xe:=λ e s'=>wpAny (model P w) (A.deeper (envOfC qual scope s.heap.objs.size f cd)) (leaving (envOfC qual scope s.heap.objs.size f cd) e) (λ _ s''=>CX outer H s E e s'') (λ e' s''=>CX outer H s E e' s'') s'
theorem J2 {sc:Scope} {n:Nat} {x:Str} (h:sc.names.lookup x=some .cell):∃ c,(cellsFrom n sc.names []).lookup x=some c:=by
  have q:=PySem.W.cellsFrom_some sc.names n [] (.inl h);exact Option.isSome_iff_exists.mp q
theorem IV {CX:CXT} {P:Program} {w:World} {K:PySem.W.Frag} {mg:Str->Option Value} {base:Heap} {N ps:List Str} {qual:Str} {scope:Scope} {f:Addr} {cd:Value} {A:Around} {outer:List Env} {s s1:Shared} {H:Hp} {E:XK} {us:List Value} {vs:List V}
    (S:FnScope N ps scope) (hd:A.handled=none) (e0:Env0 P w K mg base A outer s H) (hl:vs.length=ps.length) (r:Vals vs us)
    (x:InCallC s s.heap.objs.size (bindL (envOfC qual scope s.heap.objs.size f cd).kindOf (ps.zip us) λ _=>none) (cellsFrom (s.heap.objs.size+1) scope.names []) (bindC (envOfC qual scope s.heap.objs.size f cd).kindOf (ps.zip us) λ _=>none) s1):
    Inv (Co CX P w K mg base N qual scope f cd A outer s H E) [] (start N vs) H s1:=by
  have hpl:ps.length<=N.length:=by have:=congrArg List.length S.pre;rw [List.length_take] at this;omega
  obtain ⟨h1,tk,rfl,hk⟩:=x.done;have noA:∀ b:Addr,b∉(Co CX P w K mg base N qual scope f cd A outer s H E).ex:=λ b z=>absurd (show b∈([]:List Addr) from z) (by simp);refine ⟨⟨e0.mod,S.kind,rfl,rfl,Nat.le_refl _,λ y z c h1 h2=> ?_,λ y hy=> ?_,λ y c _ h=> ?_,λ _=>hd,Around.frames_deeper e0.frames, .inr ⟨rfl,rfl⟩,λ b z=>absurd z (noA b),e0.bs,e0.bsz,λ b _ _=>noA b,λ b z=>absurd z (noA b),e0.funs,e0.frf⟩,
    rfl,e0.bare,Un.kept hk,⟨_,x.toInCall.ns,λ i y v h1 h2 h3=> ?_⟩,λ y c h=>⟨_,x.cell y c h⟩,e0.hok.fresh (Nat.le_refl _),λ y c h=> ?_,λ p hp=>absurd (show p∈([]:List (Addr × Obj)) from hp) (by simp),e0.hok.kept hk,?_⟩
  · exact name_of_addr x.apart (PySem.mem_of_lookup h1) (PySem.mem_of_lookup h2)
  · have hy:scope.names.lookup y=some .cell\/scope.names.lookup y=some .free:=hy;rcases hy with hy | hy
    · exact J2 hy
    · exact absurd rfl (S.nofree _ (PySem.mem_of_lookup hy))
  · exact Nat.le_of_lt (x.above y c (PySem.mem_of_lookup h))
  · have hi:i<vs.length:=by
      unfold start at h2;by_cases hi:i<vs.length
      · exact hi
      · rw [List.getElem?_append_right (by simpa using hi)] at h2;rw [List.getElem?_replicate] at h2;split at h2 <;> cases h2
    have ha:vs[i]?=some v:=by
      unfold start at h2;rw [List.getElem?_append_left (by simpa using hi),List.getElem?_map] at h2;cases e:vs[i]? with
      | none=>rw [e] at h2;cases h2
      | some a=>rw [e] at h2;cases h2;rfl
    obtain ⟨u,hu,rv⟩:=r.get ha;have hp:ps[i]?=some y:=by
      rw [<-S.pre,List.getElem?_take_of_lt (by omega)];exact h1
    have ndP:ps.Nodup:=by rw [<-S.pre];exact S.nd.sublist (List.take_sublist _ _)
    refine ⟨u,rv,?_⟩;rcases S.par y (List.mem_of_getElem? hp) with k | k
    · exact .inl ⟨k,IH ndP hp hu k⟩
    · obtain ⟨c,e⟩:=J2 (n:=s.heap.objs.size+1) k;refine .inr ⟨.inl k,c,e,?_⟩;have q:=x.cell y c e;rw [IE ndP hp hu (by show scope.names.lookup y≠_;rw [k];decide)] at q;exact q
  · exact e0.hok.fresh (Nat.le_of_lt (x.above y c (PySem.mem_of_lookup h)))
  · unfold start;show _=N.length;rw [List.length_append,List.length_map,List.length_replicate];omega
theorem LE {CX:CXT} {P:Program} {w:World} {K:PySem.W.Frag} {mg:Str->Option Value} {base:Heap} {k:Nat} {f:Addr} {name qual:Str} {params:Arguments} {body:List Stmt} {scope:Scope} {dV kV doc pm cdv ct oc:Value} {an od:Option Addr}
    {osl:Array (Option Value)} {N ps:List Str} {sp:Sp} (lk:K.lookup f=some ⟨oc,od, .func (PySem.W.fnOf name qual params body scope dV kV doc pm an cdv ct),osl⟩) (hcd:PySem.W.codeIn K cdv qual=true) (S:FnScope N ps scope)
    (len:∀ vs H Q E,sp vs H Q E->vs.length=ps.length)
    (hbody:∀ (A:Around) (outer:List Env) (s:Shared) (H:Hp) (vs:List V) (Q:VK) (E:XK),Room k (A.deeper (envOfC qual scope s.heap.objs.size f cdv))->sp vs H Q E->
      ∃ t,PSs (Co CX P w K mg base N qual scope f cdv A outer s H E) body t/\t { nx:=λ _ H'=>Q .non H',rt:=Q } (start N vs) H):
    FnOk P w K mg base CX (k+1) f (PySem.W.fnOf name qual params body scope dV kV doc pm an cdv ct) ps sp:=by
  refine ⟨len,λ A outer s H args us vs Q E hr e0 hb r hsp=> ?_⟩;have hl:=len _ _ _ _ hsp;have KX:K.In s.heap:=e0.mod.kin.keeps λ b o e=>(e0.bs b o e).1;have lim:s.heap.NoLimit:=e0.mod.nolimit.keeps λ b o e=>(e0.bs b o e).1;have hkind:∀ y∈ps.zip us,scope.names.lookup y.1=some .local\/(scope.names.lookup y.1=some .cell/\((cellsFrom (s.heap.objs.size+1) scope.names []).lookup y.1).isSome=true):=λ ⟨n,v⟩ hy=>by
    rcases S.par n (List.of_mem_zip hy).1 with q | q
    · exact .inl q
    · exact .inr ⟨q,PySem.W.cellsFrom_some _ _ _ (.inl q)⟩
  refine codeAny_call_function hr.depth (KX _ _ lk) rfl S.co S.gen rfl (PySem.W.codeRec_of KX hcd) (hb _ _ _ _ ?_);refine wpAny_newFunctionEnv_cells S.kind hkind λ env he s1 x=> ?_;subst he;refine ⟨lim.keeps x.toInCall.keep,codeAny_func ?_⟩;obtain ⟨t,ht,hq⟩:=hbody A outer s H vs Q E (hr.deeper _) hsp;have I:Inv (Co CX P w K mg base N qual scope f cdv A outer s H E) [] (start N vs) H s1:=IV S hr.hd e0 hl r x;refine wpAny_mono (ht [] s1 (start N vs) H _ I hq) (λ fl s' hs=> ?_) λ e s' hs=>hs;have fin:∀ {σ':St} {H':Hp} {v:V} {u:Value},Inv (Co CX P w K mg base N qual scope f cdv A outer s H E) [] σ' H' s'->RelV v u->Q v H'->CE outer P w H s Q u s':=
    λ {σ' H' v u} J rv q=>⟨v,H',J.os,J.bare,J.base,J.hok,rv,q⟩
  cases fl with
  | ret u=>
    obtain ⟨v,σ',H',J,rv,q⟩:=hs;exact fin J rv q
  | next=>
    obtain ⟨σ',H',J,q⟩:=hs;exact fin (v:=V.non) (u:=Value.none) J rfl q
  | brk=>
    obtain ⟨_,_,_,q⟩:=hs;exact False.elim q
  | cont=>
    obtain ⟨_,_,_,q⟩:=hs;exact False.elim q
section
variable {X:Cx} {x:Str} {p pos:Pos} {e:Expr} {es:List Expr} {t:TA} {id T:String} {r:List V->Hp->VK->Prop}
def tCB (r:List V->Hp->VK->Prop) (t:TA):TE:=λ σ H Q=>t σ H λ vs H1=>r vs H1 Q
theorem Al (hc:BA X (.builtin id) r) (hg:Gl X x) (hm:X.mg x=none) (hv:bootBuiltins x=some (.builtin id)) (ha:PA X (e::es) t) (hn:x≠"__name__":=by decide) (hdb:(x == ("__debug__":Str))=false:=by decide)
    (he:starEach (e::es) X.env=(false,eval e X.env)::starEach es X.env:=by rfl) (hpl:(backTo pos (starEach es X.env)).any (·.1)=false:=by rfl):PE X (.Call (.Name x p) (e::es) [] pos) (tCB r t):=by
  intro pins s σ H Q I h;refine wpAny_Call_Name_kw (CZ I hg hm hv ?_ hn hdb);exact PyProof.Rows.callWith_builtin1 (thn (ha pos pins s σ H _ I h) λ us s1 ⟨vs,H1,I1,r1,q1⟩=>hc pins s1 σ H1 vs us Q I1 r1 q1) he hpl
theorem AJ (hc:BA X (.type T) r) (hg:Gl X x) (hm:X.mg x=none) (hv:bootBuiltins x=some (.type T)) (ha:PA X (e::es) t) (hn:x≠"__name__":=by decide) (hdb:(x == ("__debug__":Str))=false:=by decide)
    (he:starEach (e::es) X.env=(false,eval e X.env)::starEach es X.env:=by rfl) (hpl:(backTo pos (starEach es X.env)).any (·.1)=false:=by rfl):PE X (.Call (.Name x p) (e::es) [] pos) (tCB r t):=by
  intro pins s σ H Q I h;refine wpAny_Call_Name_kw (CZ I hg hm hv ?_ hn hdb);exact PyProof.Rows.callWith_type1 (thn (ha pos pins s σ H _ I h) λ us s1 ⟨vs,H1,I1,r1,q1⟩=>hc pins s1 σ H1 vs us Q I1 r1 q1) he hpl
end
end L2
namespace HT
open PySem PyProof.Rows
section
open PySem.SeqAt
open PySem.AutoSeq1 (wpAny_loadPart')
open PySem.MeetsSeq PySem.MeetsSeq2 PySem.MeetsSeq3
end
section
variable {prog:Program} {w:World} {A:Around} {E:Value->Shared->Prop} {s:Shared}
theorem cat_tup {t b:Addr} {vs ws:List Value} {Q:Value->Shared->Prop} (ht:IsTup s.heap t vs.toArray) (hb:IsTup s.heap b ws.toArray) (hv:vs≠[])
    (h1:ws=[]->Q (.ref t) s) (h2:ws≠[]->Q (.ref s.heap.objs.size) { s with heap:=s.heap.push { cls:= .type "tuple",data:= .seq (vs++ws).toArray } })
    (hsz:vs.length+ws.length<=sizeLine):wpAny (model prog w) A (binaryOp .Add (.ref t) (.ref b)) Q E s:=by
  obtain ⟨⟨cls,dd,data,sl⟩,ho,hc,n,hd⟩:=id ht;obtain ⟨⟨cls2,dd2,data2,sl2⟩,ho2,hc2,n2,hd2⟩:=id hb;simp only at hc hd hc2 hd2;subst hc hd hc2 hd2;have e:vs.toArray++ws.toArray=(vs++ws).toArray:=by simp
  by_cases hw:ws=[]
  · exact concat_meets ⟨_,ho,rfl⟩ ⟨_,ho2,rfl⟩ noFill_tuple_add seq_tuple_add PySem.F.slot_tuple_add PySem.F.entry_tuple_add (PySem.F.args_tuple_add_2 _ _)
      (tuple_addW1 t b vs.toArray ws.toArray n n2 dd dd2 sl sl2 (by simpa using hv) (by simp [hw])) ⟨ho,ho2,h1 hw⟩
  · refine concat_meets ⟨_,ho,rfl⟩ ⟨_,ho2,rfl⟩ noFill_tuple_add seq_tuple_add PySem.F.slot_tuple_add PySem.F.entry_tuple_add (PySem.F.args_tuple_add_2 _ _)
      (tuple_addW2 t b vs.toArray ws.toArray n n2 dd dd2 sl sl2 (by simpa using hv) (by simpa using hw) (by rw [List.size_toArray,List.size_toArray];exact hsz)) ⟨ho,ho2,?_⟩
    rw [e];exact h2 hw
noncomputable def sIx (n d:Nat):Option Int->Nat
  | none=>d
  | some v=>if v<0 then (v+(n:Int)).toNat else min v.toNat n
theorem RC (n d:Nat) (hd:d<=n) (o:Option Int):sIx n d o<=n:=by
  cases o with
  | none=>exact hd
  | some v=>
    show (if v<0 then (v+(n:Int)).toNat else min v.toNat n)<=n;by_cases hv:v<0
    · rw [if_pos hv];omega
    · rw [if_neg hv];exact Nat.min_le_right _ _
theorem LZ (v:Int) (n d:Nat):(if v<0 then max (v+(n:Int)) 0 else min v (n:Int))=((sIx n d (some v):Nat):Int):=by
  show (if v<0 then max (v+(n:Int)) 0 else min v (n:Int))=(((if v<0 then (v+(n:Int)).toNat else min v.toNat n):Nat):Int);by_cases hv:v<0
  · simp only [if_pos hv];omega
  · simp only [if_neg hv];omega
theorem KH (lo hi:Option Int) (n:Nat):Builtin.Slice.sliceAdjust lo hi 1 (n:Int)=(((sIx n 0 lo:Nat):Int),((sIx n n hi:Nat):Int)):=by
  have h1:¬ ((1:Int)<0):=by omega
  unfold Builtin.Slice.sliceAdjust;simp only [h1,if_false];refine Prod.ext ?_ ?_
  · cases lo with
    | none=>rfl
    | some v=>exact LZ v n 0
  · cases hi with
    | none=>rfl
    | some v=>exact LZ v n n
theorem K9 (i j:Nat):Builtin.Slice.slicePlaces (i:Int) (j:Int) 1=j - i:=by
  unfold Builtin.Slice.slicePlaces;have h1:(1:Int)>0:=by omega
  simp only [h1,if_true,Int.ediv_one];split <;> omega
theorem Ho {v:Value} {o:Option Int} {Q:Option Int->Shared->Prop} (p:IsPart v o) (h:Q o s):wpAny (model prog w) A (Builtin.Slice.slicePartIndex v) Q E s:=by
  cases p with
  | none=>exact slicePart_none h
  | int i t=>exact slicePart_int h
theorem CS {sl:Addr} {vl vu:Value} {lo hi:Option Int} {n:Nat} {Q:Int × Int × Nat->Shared->Prop} (hs:s.heap.IsSliceOf sl vl vu .none) (pl:IsPart vl lo) (pu:IsPart vu hi)
    (h:Q (((sIx n 0 lo:Nat):Int),1,sIx n n hi - sIx n 0 lo) s):wpAny (model prog w) A (Builtin.Slice.sliceApplied (.ref sl) (pure (n:Int))) Q E s:=by
  obtain ⟨os,hos,hcs,hds⟩:=id hs;unfold Builtin.Slice.sliceApplied Builtin.Slice.sliceFields;refine wpAny_bind (wpAny_bind (wpAny_field hos hds (x:=vl) rfl (wpAny_bind (wpAny_field hos hds (x:=vu) rfl (wpAny_bind (wpAny_field hos hds (x:= .none) rfl (wpAny_pure ?_)))))));refine wpAny_bind (slicePart_none ?_);show wpAny _ _ (if ((1:Int) == 0)=true then _ else _) _ _ s;rw [if_neg (by decide)];refine wpAny_bind (Ho pl (wpAny_bind (Ho pu (wpAny_bind (wpAny_pure ?_)))));show wpAny _ _ (match Builtin.Slice.sliceAdjust lo hi 1 (n:Int) with | (lo,hi)=>pure (lo,(1:Int),Builtin.Slice.slicePlaces lo hi 1)) _ _ s;rw [KH lo hi n];show wpAny _ _ (pure (((sIx n 0 lo:Nat):Int),(1:Int),Builtin.Slice.slicePlaces ((sIx n 0 lo:Nat):Int) ((sIx n n hi:Nat):Int) 1)) _ _ s;rw [K9];exact wpAny_pure h
theorem NK (xs:Array Value) (i k:Nat):((List.range k).filterMap λ (m:Nat)=>xs[((i:Int)+(m:Int)*1).toNat]?).toArray=((xs.toList.drop i).take k).toArray:=by
  have e:(λ (m:Nat)=>xs[((i:Int)+(m:Int)*1).toNat]?)=λ m=>xs[i+m]?:=by
    funext m;have:((i:Int)+(m:Int)*1).toNat=i+m:=by omega
    rw [this]
  rw [e];have:=pick_run xs i k;rw [List.filterMap_map] at this;have e2:((λ x=>xs[x]?)∘λ x=>i+x)=λ m=>xs[i+m]?:=rfl;rw [e2] at this;rw [this]
theorem getItem_tuple_cut {t sl:Addr} {items:Array Value} {vl vu:Value} {lo hi:Option Int} {Q:Value->Shared->Prop} (ht:IsTup s.heap t items) (hs:s.heap.IsSliceOf sl vl vu .none) (pl:IsPart vl lo) (pu:IsPart vu hi)
    (hw:¬ (sIx items.size 0 lo=0/\sIx items.size items.size hi=items.size))
    (h:Q (.ref s.heap.objs.size) { s with heap:=s.heap.push { cls:= .type "tuple",data:= .seq ((items.toList.drop (sIx items.size 0 lo)).take (sIx items.size items.size hi - sIx items.size 0 lo)).toArray } })
    (hsz:items.size<=sizeLine):wpAny (model prog w) A (getItem (.ref t) (.ref sl)) Q E s:=by
  have htake:sizeOk (.seq ((items.toList.drop (sIx items.size 0 lo)).take (sIx items.size items.size hi - sIx items.size 0 lo)).toArray):=by
    show ((items.toList.drop (sIx items.size 0 lo)).take (sIx items.size items.size hi - sIx items.size 0 lo)).toArray.size<=sizeLine;rw [List.size_toArray,List.length_take,List.length_drop,Array.length_toList];omega
  have hj:sIx items.size items.size hi<=items.size:=RC _ _ (Nat.le_refl _) hi;obtain ⟨os,hos,hcs,hds⟩:=id hs;have hTs:s.TypeIs (.ref sl) "slice":=⟨os,hos,hcs⟩;unfold getItem
  try with_reducible refine wpAny_holding ?_
  first | refine wpAny_bind (wpAny_pure ?_) | skip
  refine wpAny_bind (wpAny_sequenceKey ht.typeIs (by decide) ?_);refine wpAny_bind (wpAny_callSpecial?_slot (name:=Str.ofString "__getitem__") ht.typeIs PyProof.Rows.slot_tuple_getitem
    (wpAny_call_entry PyProof.Rows.slot_tuple_getitem ht.typeIs entry_tuple_getitem ?_ (args_tuple_getitem _ _)))
  show wpAny _ _ (Builtin.Tuple.tupleItemsOf (.ref t) >>= _) _ _ s;refine wpAny_bind (tupleItemsOf_ ht ?_);refine wpAny_bind (wpAny_typeOf hTs ?_);rw [if_pos (by decide)];refine wpAny_bind (CS hs pl pu ?_);have hno:¬ ((((sIx items.size 0 lo:Nat):Int) == 0&&(1:Int) == 1&&(sIx items.size items.size hi - sIx items.size 0 lo) == items.size)=true):=by
    intro q;rw [Bool.and_eq_true,Bool.and_eq_true] at q;have q1:((sIx items.size 0 lo:Nat):Int)=0:=eq_of_beq q.1.1;have q2:sIx items.size items.size hi - sIx items.size 0 lo=items.size:=eq_of_beq q.2;exact hw ⟨by omega,by omega⟩
  show wpAny _ _ (if (((sIx items.size 0 lo:Nat):Int) == 0&&(1:Int) == 1&&(sIx items.size items.size hi - sIx items.size 0 lo) == items.size)=true then _ else _) _ _ s;rw [if_neg hno,NK]
  first
    | exact wpAny_bind (m:=Builtin.Tuple.tupleExact _) (wpAny_newObj_type (wpAny_pure ⟨_,rfl,wpAny_pure h⟩) htake)
    | exact wpAny_bind (m:=Builtin.Tuple.tupleExact _) (wpAny_newObj_type (wpAny_bind (wpAny_pure (wpAny_pure ⟨_,rfl,wpAny_pure h⟩))) htake)
    | exact wpAny_bind (wpAny_bind (m:=Builtin.Tuple.tupleExact _) (wpAny_newObj_type (wpAny_pure (wpAny_pure ⟨_,rfl,wpAny_pure h⟩)) htake))
    | exact wpAny_bind (wpAny_bind (m:=Builtin.Tuple.tupleExact _) (wpAny_newObj_type (wpAny_pure ⟨_,rfl,wpAny_pure h⟩) htake))
end
end HT
namespace L2
open PySem PySem.Spec PyProof.Rows
abbrev TO:=St->Hp->(Option Int->Hp->Prop)->Prop
def PO (X:Cx) (e:Option Expr) (t:TO):Prop:=
  ∀ (pins:List (Addr × Obj)) (s:Shared) (σ:St) (H:Hp) (Q:Option Int->Hp->Prop),Inv X pins σ H s->t σ H Q->
    wpAny (model X.prog X.w) X.A (evalPart e X.env) (λ u s'=>∃ o H',Inv X pins σ H' s'/\IsPart u o/\Q o H') X.xe s
def LW:TO:=λ _ H Q=>Q none H
def PY (t:TE):TO:=λ σ H Q=>t σ H λ x H1=>∃ i,x= .int i/\Q (some i) H1
theorem KT {ns:List Int}:∀ {us:List Value},Vals (ns.map V.int) us->IntsAre us ns:=by
  induction ns with
  | nil=>intro us r;rw [List.map_nil] at r;cases r;exact .nil
  | cons n ns ih=>
    intro us r;rw [List.map_cons] at r;cases r with
    | cons r1 r2=>
      obtain ⟨t,e⟩:=r1;subst e;exact .cons n t (ih r2)
section
variable {X:Cx} {e:Expr} {te:TE} {lo hi:Option Expr} {tl th:TO} {pos p2:Pos}
theorem Eo:PO X none LW:=by
  intro pins s σ H Q I h;rw [evalPart_none];exact wpAny_pure ⟨none,H,I, .none,h⟩
theorem Ei (h:PE X e te):PO X (some e) (PY te):=by
  intro pins s σ H Q I hw;rw [evalPart_some];refine thn (h pins s σ H _ I hw) λ u s1 ⟨x,H1,I1,r1,q1⟩=> ?_;obtain ⟨i,rfl,q⟩:=q1;obtain ⟨t,rfl⟩:=r1;exact ⟨some i,H1,I1, .int i t,q⟩
def SlR (X:Cx) (r:V->Option Int->Option Int->Hp->VK->Prop):Prop:=
  ∀ (pins:List (Addr × Obj)) (s:Shared) (σ:St) (H:Hp) (x:V) (v vl vu:Value) (lo hi:Option Int) (sl:Addr) (Q:VK),Inv X pins σ H s->RelV x v->s.heap.IsSliceOf sl vl vu .none->IsPart vl lo->IsPart vu hi->r x lo hi H Q->
    ∃ T id,typeLookup (.type T) "__getitem__"=pure (some (.builtin id))/\s.TypeIs v T/\wpAny (model X.prog X.w) X.A (getItem v (.ref sl)) (EP X pins σ Q) X.xe s
def tSl (r:V->Option Int->Option Int->Hp->VK->Prop) (te:TE) (tl th:TO):TE:=λ σ H Q=>te σ H λ x H1=>tl σ H1 λ l H2=>th σ H2 λ u H3=>r x l u H3 Q
theorem CV {r:V->Option Int->Option Int->Hp->VK->Prop} (hr:SlR X r) (he:PE X e te) (hl:PO X lo tl) (hu:PO X hi th):PE X (.Subscript e (.Slice lo hi none p2) pos) (tSl r te tl th):=by
  intro pins s σ H Q I h;refine Subscript_ (thn (he pins s σ H _ I h) λ v s1 ⟨x,H1,I1,r1,q1⟩=> ?_);refine wpAny_Slice (thn (hl pins s1 σ H1 _ I1 q1) λ vl s2 ⟨l,H2,I2,pl,q2⟩=>thn (hu pins s2 σ H2 _ I2 q2) λ vu s3 ⟨u,H3,I3,pu,q3⟩=> ?_);rw [evalPart_none];refine wpAny_pure ?_;have I4:Inv X pins σ H3 { s3 with heap:=s3.heap.push { cls:= .type "slice",data:= .fields #[vl,vu, .none] } }:=I3.kept (t':=s3.toks) λ b ob q=>Heap.get?_push_of_some _ q;obtain ⟨T,id,hT,ht,hg⟩:=hr pins { s3 with heap:=s3.heap.push { cls:= .type "slice",data:= .fields #[vl,vu, .none] } } σ H3 x v vl vu l u s3.heap.objs.size Q I4 r1 (Heap.IsSliceOf.new ..) pl pu q3;show wpAny (model X.prog X.w) X.A (subscriptTail e (.Slice lo hi none p2) v (.ref s3.heap.objs.size)) (EP X pins σ Q) X.xe { s3 with heap:=s3.heap.push { cls:= .type "slice",data:= .fields #[vl,vu, .none] } };exact tail_any (ops:=[.ref s3.heap.objs.size,v]) ht hT hg (by with_unfolding_all rfl)
noncomputable def Dd (xs:List V) (lo hi:Option Int):List V:=(xs.drop (HT.sIx xs.length 0 lo)).take (HT.sIx xs.length xs.length hi - HT.sIx xs.length 0 lo)
theorem F3 (xs:List V) (lo hi:Option Int):(Dd xs lo hi).length<=xs.length:=by
  unfold Dd;rw [List.length_take,List.length_drop];omega
def Y5 (K:PySem.W.Frag):V->Option Int->Option Int->Hp->VK->Prop:=λ x lo hi H Q=>∃ a xs,x= .ref a/\SqT K H a xs/\
  ¬ (HT.sIx xs.length 0 lo=0/\HT.sIx xs.length xs.length hi=xs.length)/\∀ p,H p=none->Q (.ref p) (upd H p (.tup (Dd xs lo hi)))
theorem Ny:SlR X (Y5 X.K):=by
  intro pins s σ H x v vl vu lo hi sl Q I rx hs pl pu h;obtain ⟨a,xs,rfl,hx,hw,q⟩:=h;cases rx;obtain ⟨its,r,ht,hz⟩:=I.tuple hx;have hlen:its.toArray.size=xs.length:=by rw [List.size_toArray];exact r.length.symm
  refine ⟨"tuple",_,PyProof.Rows.slot_tuple_getitem.lookup,ht.typeIs,?_⟩;refine HT.getItem_tuple_cut ht hs pl pu (by rw [hlen];exact hw) ?_ (by rw [hlen];exact hz);rw [hlen];refine ⟨.ref s.heap.objs.size,_,I.laid (t':=s.toks) (o:= .tup (Dd xs lo hi)) (λ b ob q=>Heap.get?_push_of_some _ q) (Nat.le_refl _) ?_,rfl,q _ (I.hok.fresh (Nat.le_refl _))⟩;exact ⟨Nat.le_trans (F3 xs lo hi) hz,_,(r.drop (HT.sIx xs.length 0 lo)).take (HT.sIx xs.length xs.length hi - HT.sIx xs.length 0 lo),IsTup.new _ _⟩
def NH (K:PySem.W.Frag):R2:=λ x y H Q=>∃ a b xs ys,x= .ref a/\y= .ref b/\SqT K H a xs/\SqT K H b ys/\xs≠[]/\xs.length+ys.length<=sizeLine/\
  (ys=[]->Q (.ref a) H)/\(ys≠[]->∀ p,H p=none->Q (.ref p) (upd H p (.tup (xs++ys))))
theorem Vals.nil_iff {xs:List V} {us:List Value} (r:Vals xs us):us=[]↔xs=[]:=by
  cases r with
  | nil=>simp
  | cons _ _=>simp
theorem OH:OpR X (binaryOp .Add) (NH X.K):=by
  intro pins s σ H x y v u Q I rx ry h;obtain ⟨a,b,xs,ys,rfl,rfl,ha,hb,hx,hz,q1,q2⟩:=h;cases rx;cases ry;obtain ⟨its,r1,p1,_⟩:=I.tuple ha;obtain ⟨its2,r2,p2,_⟩:=I.tuple hb;refine HT.cat_tup p1 p2 (λ z=>hx (r1.nil_iff.mp z)) (λ z=>⟨.ref a,H,I,rfl,q1 (r2.nil_iff.mp z)⟩) (λ z=> ?_) (by rw [<-r1.length, <-r2.length];exact hz);refine ⟨.ref s.heap.objs.size,_,I.laid (t':=s.toks) (o:= .tup (xs++ys)) (λ b ob q=>Heap.get?_push_of_some _ q) (Nat.le_refl _) ?_,rfl,q2 (λ w=>z (r2.nil_iff.mpr w)) _ (I.hok.fresh (Nat.le_refl _))⟩;exact ⟨by rw [List.length_append];exact hz,_,r1.append r2,IsTup.new _ _⟩
end
noncomputable def ixN (n:Nat) (i:Int):Option Nat:=if 0<=i then (if i<n then some i.toNat else none) else if -(n:Int)<=i then some (i+n).toNat else none
noncomputable def atI {α:Type} (xs:List α) (i:Int):Option α:=(ixN xs.length i).bind λ j=>xs[j]?
theorem LT {n:Nat} {i:Int} {j:Nat} (h:ixN n i=some j):seqIndex? i n=some j/\j<n/\ -(n:Int)<=i/\i<n:=by
  unfold ixN at h;by_cases h0:0<=i
  · rw [if_pos h0] at h;by_cases h1:i<n
    · rw [if_pos h1] at h;have e:i.toNat=j:=Option.some.inj h;exact ⟨by rw [seqIndex_of h0 h1,e],by omega,by omega,h1⟩
    · rw [if_neg h1] at h;cases h
  · rw [if_neg h0] at h;by_cases h1: -(n:Int)<=i
    · rw [if_pos h1] at h;have e:(i+n).toNat=j:=Option.some.inj h;exact ⟨by rw [seqIndex_neg (by omega) h1,e],by omega,h1,by omega⟩
    · rw [if_neg h1] at h;cases h
theorem Gp {α:Type} {xs:List α} {i:Int} {v:α} (h:atI xs i=some v):∃ j,seqIndex? i xs.length=some j/\xs[j]?=some v/\j<xs.length/\ -(xs.length:Int)<=i/\i<xs.length:=by
  unfold atI at h;cases e:ixN xs.length i with
  | none=>rw [e] at h;cases h
  | some j=>
    rw [e] at h;obtain ⟨h1,h2,h3,h4⟩:=LT e;exact ⟨j,h1,h,h2,h3,h4⟩
theorem Am {α:Type} {xs:List α} {j:Nat} {v:α} (h:xs[j]?=some v):atI xs (j:Int)=some v:=by
  have hj:j<xs.length:=(List.getElem?_eq_some_iff.mp h).1;have e:ixN xs.length (j:Int)=some j:=by
    unfold ixN;rw [if_pos (by omega),if_pos (by omega)];simp
  unfold atI;rw [e];exact h
def OP (b:Expr):Prop:=∀ o i,subscripted b false o i=operate [o,i] (getItem o i)
def IxR (X:Cx) (r:R2):Prop:=
  ∀ (value slice:Expr) (pins:List (Addr × Obj)) (s:Shared) (σ:St) (H:Hp) (x y:V) (v u:Value) (Q:VK),Inv X pins σ H s->RelV x v->RelV y u->r x y H Q->
    subscripted slice false v u=operate [v,u] (getItem v u)->wpAny (model X.prog X.w) X.A (subscriptTail value slice v u) (EP X pins σ Q) X.xe s
def MtR (X:Cx) (id:String) (r:V->List V->Hp->VK->Prop):Prop:=
  ∀ (pins:List (Addr × Obj)) (s:Shared) (σ:St) (H:Hp) (x:V) (xs:List V) (v:Value) (us:List Value) (Q:VK),Inv X pins σ H s->RelV x v->Vals xs us->r x xs H Q->
    wpAny (model X.prog X.w) X.A (call (.builtin id) (v::us)) (EP X pins σ Q) X.xe s
section
variable {X:Cx} {a b:Expr} {ta tb:TE} {pos:Pos}
theorem At {r:R2} (hr:IxR X r) (ha:PE X a ta) (hb:PE X b tb) (hs:OP b):PE X (.Subscript a b pos) (tOp r ta tb):=by
  intro pins s σ H Q I h;exact Subscript_ (QF ha hb I h λ v u s2 x y H2 I2 rx ry q=>hr a b pins s2 σ H2 x y v u Q I2 rx ry q (hs _ _))
def M6 (K:PySem.W.Frag):R2:=λ x y H Q=>∃ p xs i v,x= .ref p/\y= .int i/\SqL K H p xs/\atI xs i=some v/\Q v H
def Pr (K:PySem.W.Frag):R2:=λ x y H Q=>∃ p xs i v,x= .ref p/\y= .int i/\SqT K H p xs/\atI xs i=some v/\Q v H
def Xo:R2:=λ x y H Q=>∃ z i c,x= .str z/\y= .int i/\z.length<=sizeLine/\atI z.cps.toList i=some c/\Q (.str ⟨#[c]⟩) H
theorem Ph:IxR X (M6 X.K):=by
  intro value slice pins s σ H x y v u Q I rx ry h hs;obtain ⟨p,xs,i,z,rfl,rfl,hq,he,q⟩:=h;cases rx;obtain ⟨t,rfl⟩:=ry;obtain ⟨its,r,pl,hz⟩:=I.list hq;obtain ⟨j,h1,h2,h3,h4,h5⟩:=Gp he;obtain ⟨w,ew,rw'⟩:=r.get h2;have hl:=r.length;have hn:=EN;have fin:EP X pins σ Q w s:=⟨z,H,I,rw',q⟩;by_cases h0:0<=i
  · have hj:i.toNat=j:=by
      rw [seqIndex_of h0 h5] at h1;exact Option.some.inj h1
    exact item_listR pl.isList h0 (by omega) (by rw [hj];simpa using ew) fin hs
  · have hj:(i+(its.toArray.size:Int)).toNat=j:=by
      rw [seqIndex_neg (by omega) h4] at h1;rw [List.size_toArray, <-hl];exact Option.some.inj h1
    exact subscriptTail_builtinR (x:=w) pl.isList.typeIs slot_list_getitem.lookup
      (wpAny_getItem_list_neg (Q:=λ r s'=>r=w/\EP X pins σ Q r s') pl.isList (by omega) (by rw [List.size_toArray] <;> omega) (by omega) (by rw [hj];simpa using ew) ⟨rfl,fin⟩) hs
theorem Rj:IxR X (Pr X.K):=by
  intro value slice pins s σ H x y v u Q I rx ry h hs;obtain ⟨p,xs,i,z,rfl,rfl,hq,he,q⟩:=h;cases rx;obtain ⟨t,rfl⟩:=ry;obtain ⟨its,r,pl,hz⟩:=I.tuple hq;obtain ⟨j,h1,h2,h3,h4,h5⟩:=Gp he;obtain ⟨w,ew,rw'⟩:=r.get h2;have hl:=r.length;have hn:=EN;have fin:EP X pins σ Q w s:=⟨z,H,I,rw',q⟩;exact subscriptTail_builtinR (x:=w) pl.typeIs slot_tuple_getitem.lookup
    (getItem_tuple (j:=j) (Q:=λ r s'=>r=w/\EP X pins σ Q r s') pl (by omega) (by omega) (by rw [List.size_toArray, <-hl];exact h1) (by simpa using ew) ⟨rfl,fin⟩) hs
theorem MY:IxR X Xo:=by
  intro value slice pins s σ H x y v u Q I rx ry h hs;obtain ⟨z,i,c,rfl,rfl,hz,he,q⟩:=h;obtain ⟨t,rfl⟩:=rx;obtain ⟨t',rfl⟩:=ry;obtain ⟨j,h1,h2,h3,h4,h5⟩:=Gp he;have hl:z.cps.toList.length=z.length:=by simp [Str.length]
  rw [hl] at h1 h4 h5;have hn:=EN;exact tail_any (typeIs_str s z t) slot_str_getitem.lookup (getItem_str (c:=c) (by
    have e1:decide (i< -(2 ^ 63:Int))=false:=decide_eq_false (by omega);have e2:decide (i>=2 ^ 63)=false:=decide_eq_false (by omega);rw [e1,e2,Bool.or_false]) (by rw [h1];simpa using h2) ⟨.str ⟨#[c]⟩,H,I.tok _,⟨_,rfl⟩,q⟩) hs
theorem Lc (its:List Value) (n j:Nat) (u:Value):Obj.mapSeq (·.setIfInBounds j u) { cls:= .type "list",data:= .seq its.toArray n }={ cls:= .type "list",data:= .seq (its.set j u).toArray n }:=by
  simp [Obj.mapSeq]
theorem Inv.lst {pins:List (Addr × Obj)} {σ:St} {H:Hp} {s:Shared} {p:Addr} {xs:List V} (I:Inv X pins σ H s) (h:H p=some (.lst xs)):
    ∃ (its:List Value) (n:Nat),Vals xs its/\s.heap.get? p=some { cls:= .type "list",data:= .seq its.toArray n }/\xs.length<=sizeLine:=by
  obtain ⟨z,its,n,r,e⟩:=I.hok p _ h;exact ⟨its,n,r,e,z⟩
theorem Inv.lstUpd {pins:List (Addr × Obj)} {σ:St} {H:Hp} {s:Shared} {p:Addr} {xs ys:List V} {its its':List Value} {n n':Nat} {f:Obj->Obj} (I:Inv X pins σ H s) (h:H p=some (.lst xs))
    (ho:s.heap.get? p=some { cls:= .type "list",data:= .seq its.toArray n }) (hf:f { cls:= .type "list",data:= .seq its.toArray n }={ cls:= .type "list",data:= .seq its'.toArray n' }) (r:Vals ys its') (hz:ys.length<=sizeLine) (t:Nat):
    Inv X pins σ (upd H p (.lst ys)) { s with heap:=s.heap.update p f,toks:=t }:=by
  have e:(s.heap.update p f).get? p=some { cls:= .type "list",data:= .seq its'.toArray n' }:=by
    rw [Heap.get?_update_self f ho (by rw [hf] <;> rfl),hf]
  refine I.write (x:=p) (e:=p) (by rw [h];trivial) (.inl rfl) (λ b u hb q=>(Heap.get?_update_other _ _ (Ne.symm hb)).trans q) ⟨_,e⟩ ?_;exact ⟨hz,its',n',r,e⟩
def Ye:V->V->V->Hp->(Hp->Prop)->Prop:=λ o i v H Q=>∃ p xs k j,o= .ref p/\i= .int k/\H p=some (.lst xs)/\ixN xs.length k=some j/\Q (upd H p (.lst (xs.set j v)))
theorem E4:QC X Ye:=by
  intro pins s σ H o i v ov iv u Q I ro ri rv h;obtain ⟨p,xs,k,j,rfl,rfl,hp,hj,q⟩:=h;cases ro;obtain ⟨t,rfl⟩:=ri;obtain ⟨its,n,r,ho,hz⟩:=I.lst hp;obtain ⟨h1,h2,h3,h4⟩:=LT hj;have hl:=r.length;have hn:=EN;have I':Inv X pins σ (upd H p (.lst (xs.set j v))) { s with heap:=s.heap.update p (Obj.mapSeq (·.setIfInBounds j u)) }:=
    I.lstUpd hp ho (Lc its n j u) (r.set rv j) (by rw [List.length_set];exact hz) s.toks
  by_cases h0:0<=k
  · have hk:k.toNat=j:=by
      rw [seqIndex_of h0 h4] at h1;exact Option.some.inj h1
    exact PySem.W.ki_setAt ho h0 (by omega) (by rw [List.size_toArray, <-hl];exact h4) (by rw [hk];exact ⟨_,I',q⟩)
  · have hk:(k+(its.toArray.size:Int)).toNat=j:=by
      rw [seqIndex_neg (by omega) h3] at h1;rw [List.size_toArray, <-hl];exact Option.some.inj h1
    exact PySem.W.ki_setBack ho (by omega) (by rw [List.size_toArray, <-hl];exact h3) (by omega) (by rw [hk];exact ⟨_,I',q⟩)
theorem Jb (lo hi:Option Int) (n:Nat):(sliceBounds lo hi none n).1=((HT.sIx n 0 lo:Nat):Int)/\(sliceBounds lo hi none n).2.1=((HT.sIx n n hi:Nat):Int)/\(sliceBounds lo hi none n).2.2=1:=by
  refine ⟨?_,?_,rfl⟩
  · cases lo with
    | none=>simp [sliceBounds,HT.sIx]
    | some i=>
      simp only [sliceBounds,HT.sIx,Option.getD_none,show (1:Int)>0 by decide,if_true];by_cases h:i<0
      · simp only [h,if_true] <;> omega
      · simp only [h,if_false] <;> omega
  · cases hi with
    | none=>simp [sliceBounds,HT.sIx]
    | some i=>
      simp only [sliceBounds,HT.sIx,Option.getD_none,show (1:Int)>0 by decide,if_true];by_cases h:i<0
      · simp only [h,if_true] <;> omega
      · simp only [h,if_false] <;> omega
theorem Ip (its:List Value) (lo hi:Option Int):slicePick its.toArray lo hi none=((its.drop (HT.sIx its.length 0 lo)).take (HT.sIx its.length its.length hi - HT.sIx its.length 0 lo)).toArray:=by
  obtain ⟨h1,h2,h3⟩:=Jb lo hi its.toArray.size;unfold slicePick;rw [h1,h2,h3];simp only [sliceRange_one,pick_run,List.size_toArray] <;> rfl
def Qz (K:PySem.W.Frag):V->Option Int->Option Int->Hp->VK->Prop:=λ x lo hi H Q=>∃ a xs,x= .ref a/\SqL K H a xs/\∀ p,H p=none->Q (.ref p) (upd H p (.lst (Dd xs lo hi)))
theorem PN:SlR X (Qz X.K):=by
  intro pins s σ H x v vl vu lo hi sl Q I rx hs pl pu h;obtain ⟨a,xs,rfl,hx,q⟩:=h;cases rx;obtain ⟨its,r,ht,hz⟩:=I.list hx;have hlen:=r.length;refine ⟨"list",_,slot_list_getitem.lookup,ht.isList.typeIs,?_⟩;refine wpAny_getItem_list_slice ht.isList hs pl pu .none (by simp) ?_ (by rw [List.size_toArray] <;> omega);rw [Ip, <-hlen];refine ⟨.ref s.heap.objs.size,_,I.laid (t':=s.toks) (o:= .lst (Dd xs lo hi)) (λ b ob q=>Heap.get?_push_of_some _ q) (Nat.le_refl _) ?_,rfl,q _ (I.hok.fresh (Nat.le_refl _))⟩;exact ⟨Nat.le_trans (F3 xs lo hi) hz,_,0,(r.drop (HT.sIx xs.length 0 lo)).take (HT.sIx xs.length xs.length hi - HT.sIx xs.length 0 lo),Heap.get?_push_size _ rfl⟩
noncomputable def Bf:V->Bool
  | .non=>true
  | .bl _=>true
  | .int _=>true
  | .str _=>true
  | _=>false
noncomputable def eqV:V->V->Bool
  | .non, .non=>true
  | .bl a, .bl b=>a == b
  | .bl a, .int b=>(if a then 1 else 0) == b
  | .int a, .bl b=>a == (if b then 1 else 0)
  | .int a, .int b=>a == b
  | .str a, .str b=>a == b
  | _,_=>false
theorem MU {A:Around} {s:Shared} {y x:V} {u v:Value} (ry:RelV y u) (rx:RelV x v) (fy:Bf y=true) (fx:Bf x=true):SeqAt.EqAt A s u v (eqV y x):=by
  cases y with
  | non=>
    cases ry;cases x with
    | non=>cases rx;exact SeqAt.EqAt.same _
    | bl b=>cases rx;exact SeqAt.EqAt.none_bool b
    | int b=>obtain ⟨t,rfl⟩:=rx;exact SeqAt.EqAt.none_int b t
    | str b=>obtain ⟨t,rfl⟩:=rx;exact SeqAt.EqAt.none_str b t
    | _=>exact absurd (show false=true from fx) Bool.false_ne_true
  | bl a=>
    cases ry;cases x with
    | non=>cases rx;exact SeqAt.EqAt.bool_none a
    | bl b=>cases rx;exact SeqAt.EqAt.bool_bool a b
    | int b=>obtain ⟨t,rfl⟩:=rx;exact SeqAt.EqAt.bool_int a b t
    | str b=>obtain ⟨t,rfl⟩:=rx;exact SeqAt.EqAt.bool_str a b t
    | _=>exact absurd (show false=true from fx) Bool.false_ne_true
  | int a=>
    obtain ⟨t',rfl⟩:=ry;cases x with
    | non=>cases rx;exact SeqAt.EqAt.int_none a t'
    | bl b=>cases rx;exact SeqAt.EqAt.int_bool a t' b
    | int b=>obtain ⟨t,rfl⟩:=rx;exact SeqAt.EqAt.int_int a t' b t
    | str b=>obtain ⟨t,rfl⟩:=rx;exact SeqAt.EqAt.int_str a t' b t
    | _=>exact absurd (show false=true from fx) Bool.false_ne_true
  | str a=>
    obtain ⟨t',rfl⟩:=ry;cases x with
    | non=>cases rx;exact SeqAt.EqAt.str_none a t'
    | bl b=>cases rx;exact SeqAt.EqAt.str_bool a t' b
    | int b=>obtain ⟨t,rfl⟩:=rx;exact SeqAt.EqAt.str_int a t' b t
    | str b=>obtain ⟨t,rfl⟩:=rx;exact SeqAt.EqAt.str_str a t' b t
    | _=>exact absurd (show false=true from fx) Bool.false_ne_true
  | _=>exact absurd (show false=true from fy) Bool.false_ne_true
noncomputable def eqU (x:V) (u:Value):Bool:=match u with
  | .none=>eqV .non x
  | .bool b=>eqV (.bl b) x
  | .int i _=>eqV (.int i) x
  | .str z _=>eqV (.str z) x
  | _=>false
theorem Oo {x y:V} {u:Value} (r:RelV y u) (f:Bf y=true):eqU x u=eqV y x:=by
  cases y with
  | non=>cases r;rfl
  | bl b=>cases r;rfl
  | int i=>obtain ⟨t,rfl⟩:=r;rfl
  | str z=>obtain ⟨t,rfl⟩:=r;rfl
  | _=>exact absurd (show false=true from f) Bool.false_ne_true
theorem Fs {x:V}:∀ {xs:List V} {us:List Value},Vals xs us->xs.all Bf=true->us.any (eqU x)=xs.any λ y=>eqV y x
  | _,_, .nil,_=>rfl
  | y::xs,u::us, .cons r t,f=>by
    rw [List.all_cons,Bool.and_eq_true] at f;rw [List.any_cons,List.any_cons,Oo r f.1,Fs t f.2]
theorem DU {A:Around} {s:Shared} {x:V} {v:Value} (rx:RelV x v) (fx:Bf x=true):∀ {xs:List V} {us:List Value},Vals xs us->xs.all Bf=true->∀ u∈us,SeqAt.EqAt A s u v (eqU x u)
  | _,_, .nil,_=>λ u hu=>by cases hu
  | y::xs,u::us, .cons r t,f=>λ u' hu=>by
    rw [List.all_cons,Bool.and_eq_true] at f;rcases List.mem_cons.mp hu with rfl | hu
    · rw [Oo r f.1];exact MU r rx f.1 fx
    · exact DU rx fx t f.2 u' hu
noncomputable def inV (x:V) (xs:List V):Bool:=xs.any λ y=>eqV y x
def rIn (K:PySem.W.Frag) (neg:Bool):R2:=λ x y H Q=>∃ p xs,y= .ref p/\(SqL K H p xs\/SqT K H p xs)/\Bf x=true/\xs.all Bf=true/\Q (.bl (if neg then !inV x xs else inV x xs)) H
theorem Mg:OpR X (compareOp .In) (rIn X.K false):=by
  intro pins s σ H x y v u Q I rx ry h;obtain ⟨p,xs,rfl,hq,fx,fs,q⟩:=h;cases ry;rcases hq with hq | hq
  · obtain ⟨its,r,pl,hz⟩:=I.list hq;refine SeqAt.in_listAt (eqU x) pl.isList (λ w hw=>DU rx fx r fs w (by simpa using hw)) ⟨.bl _,H,I,rfl,?_⟩;rw [show its.toArray.any (eqU x)=its.any (eqU x) by simp,Fs r fs];exact q
  · obtain ⟨its,r,pl,hz⟩:=I.tuple hq;refine SeqAt.in_tupleAt (eqU x) pl (λ w hw=>DU rx fx r fs w (by simpa using hw)) ⟨.bl _,H,I,rfl,?_⟩;rw [show its.toArray.any (eqU x)=its.any (eqU x) by simp,Fs r fs];exact q
theorem JJ:OpR X (compareOp .NotIn) (rIn X.K true):=by
  intro pins s σ H x y v u Q I rx ry h;obtain ⟨p,xs,rfl,hq,fx,fs,q⟩:=h;cases ry;rcases hq with hq | hq
  · obtain ⟨its,r,pl,hz⟩:=I.list hq;refine SeqAt.notIn_listAt (eqU x) pl.isList (λ w hw=>DU rx fx r fs w (by simpa using hw)) ⟨.bl _,H,I,rfl,?_⟩;rw [show its.toArray.any (eqU x)=its.any (eqU x) by simp,Fs r fs];exact q
  · obtain ⟨its,r,pl,hz⟩:=I.tuple hq;refine SeqAt.notIn_tupleAt (eqU x) pl (λ w hw=>DU rx fx r fs w (by simpa using hw)) ⟨.bl _,H,I,rfl,?_⟩;rw [show its.toArray.any (eqU x)=its.any (eqU x) by simp,Fs r fs];exact q
theorem Jq:BA X (.type "list") (λ xs H Q=>∃ p ys,xs=[.ref p]/\(SqL X.K H p ys\/SqT X.K H p ys)/\∀ l,H l=none->Q (.ref l) (upd H l (.lst ys))):=by
  intro pins s σ H xs us Q I r h;obtain ⟨p,ys,rfl,hq,q⟩:=h;obtain ⟨u,rfl,rx⟩:=G9 r;cases rx;have fin:∀ (its:List Value),Vals ys its->ys.length<=sizeLine->∀ (h':Heap) (c':Nat),(∀ b o',s.heap.get? b=some o'->h'.get? b=some o')->
      h'.get? s.heap.objs.size=some { cls:= .type "list",dict:=none,data:= .seq its.toArray c',slots:= #[] }->EP X pins σ Q (.ref s.heap.objs.size) { s with heap:=h' }:=λ its r' hz h' c' kp e=>
    ⟨.ref s.heap.objs.size,_,I.laid (t':=s.toks) kp (Nat.le_refl _) (show ObjOk X.prog X.w _ h' _ (.lst ys) from ⟨hz,its,c',r',e⟩),rfl,q _ (I.hok.fresh (Nat.le_refl _))⟩
  rcases hq with hq | hq
  · obtain ⟨its,r',pl,hz⟩:=I.list hq;have hlen:=r'.length;obtain ⟨o,ho,hc,n,hd⟩:=pl.isList;exact call_list_seq p (.inl rfl) ho hc hd (λ h' c' kp e=>fin its r' hz h' c' kp e) (by simp only [List.size_toArray] <;> omega)
  · obtain ⟨its,r',pl,hz⟩:=I.tuple hq;have hlen:=r'.length;obtain ⟨o,ho,hc,n,hd⟩:=pl;exact call_list_seq p (.inr rfl) ho hc hd (λ h' c' kp e=>fin its r' hz h' c' kp e) (by simp only [List.size_toArray] <;> omega)
theorem HN:BA X (.type "tuple") (λ xs H Q=>∃ p ys,xs=[.ref p]/\((SqL X.K H p ys/\∀ l,H l=none->Q (.ref l) (upd H l (.tup ys)))\/(SqT X.K H p ys/\Q (.ref p) H))):=by
  intro pins s σ H xs us Q I r h;obtain ⟨p,ys,rfl,h⟩:=h;obtain ⟨u,rfl,rx⟩:=G9 r;cases rx;rcases h with ⟨hq,q⟩ | ⟨hq,q⟩
  · obtain ⟨its,r',pl,hz⟩:=I.list hq;have hlen:=r'.length;refine call_tuple_list pl.isList (λ h' kp=> ?_) (by simp only [List.size_toArray] <;> omega);have I1:Inv X pins σ H { s with heap:=h' }:=I.kept (t':=s.toks) kp;have I2:Inv X pins σ (upd H h'.objs.size (.tup ys)) { s with heap:=h'.push { cls:= .type "tuple",data:= .seq its.toArray } }:=
      I1.laid (t':=s.toks) (λ b o e=>Heap.get?_push_of_some _ e) (Nat.le_refl _) (show ObjOk X.prog X.w _ _ _ (.tup ys) from ⟨hz,its,r',IsTup.new _ _⟩)
    exact ⟨.ref h'.objs.size,_,I2,rfl,q _ (I1.hok.fresh (Nat.le_refl _))⟩
  · obtain ⟨its,r',pl,hz⟩:=I.tuple hq;exact call_tuple_same pl ⟨.ref p,H,I,rfl,q⟩
def tyV (K:PySem.W.Frag) (T:String) (x:V) (H:Hp):Prop:=match x with
  | .str _=>T="str"
  | .int _=>T="int"
  | .ref p=>(T="list"/\∃ xs,SqL K H p xs)\/(T="tuple"/\∃ o,K.lookup p=some o/\o.cls= .type "tuple"/\o.dict=none)\/
      (T="dict"/\((∃ kvs,H p=some (.dK kvs))\/∃ kvs,H p=some (.dT kvs)))\/(T="set"/\∃ S n,H p=some (.set S n))
  | _=>False
theorem No {pins:List (Addr × Obj)} {σ:St} {H:Hp} {s:Shared} {T:String} {x:V} {v:Value} (I:Inv X pins σ H s) (r:RelV x v) (ty:tyV X.K T x H):
    s.TypeIs v T/\∀ a,v= .ref a->∃ ob,s.heap.get? a=some ob/\ob.dict=none:=by
  cases x with
  | str z=>
    obtain ⟨t,rfl⟩:=r;cases (show T="str" from ty);exact ⟨typeIs_str s z t,λ _ e=>nomatch e⟩
  | int i=>
    obtain ⟨t,rfl⟩:=r;cases (show T="int" from ty);exact ⟨typeIs_int s i t,λ _ e=>nomatch e⟩
  | ref p=>
    cases r;rcases ty with ⟨rfl,xs,hq⟩ | ⟨rfl,o,hk,hc,hd⟩ | ⟨rfl,hk⟩ | ⟨rfl,S,n,hk⟩
    · obtain ⟨its,_,pl,_⟩:=I.list hq;refine ⟨pl.isList.typeIs,λ a e=> ?_⟩;cases e;obtain ⟨o,n,e,c,hd,_⟩:=pl;exact ⟨o,e,hd⟩
    · refine ⟨⟨o,I.kIn p o hk,hc⟩,λ a e=> ?_⟩;cases e;exact ⟨o,I.kIn _ o hk,hd⟩
    · have z:∃ o,s.heap.get? p=some o/\o.ExactDict:=by
        rcases hk with ⟨kvs,hk⟩ | ⟨kvs,hk⟩
        · obtain ⟨_,_,_,_,o,_,_,e,ex,_⟩:=I.hok p _ hk;exact ⟨o,e,ex⟩
        · obtain ⟨_,_,_,_,o,_,_,e,ex,_⟩:=I.hok p _ hk;exact ⟨o,e,ex⟩
      obtain ⟨o,e,ex⟩:=z;refine ⟨⟨o,e,ex.1⟩,λ a e2=> ?_⟩;cases e2;exact ⟨o,e,ex.2.1⟩
    · obtain ⟨o,_,_,_,e,ex,_⟩:=I.hok p _ hk;refine ⟨⟨o,e,ex.1⟩,λ a e2=> ?_⟩;cases e2;exact ⟨o,e,ex.2.1⟩
  | _=>exact False.elim ty
def QN (K:PySem.W.Frag) (T:String) (r:V->List V->Hp->VK->Prop) (to:TE):TE:=λ σ H Q=>to σ H λ x H1=>tyV K T x H1/\r x [] H1 Q
def tBM (K:PySem.W.Frag) (T:String) (r:V->List V->Hp->VK->Prop) (to:TE) (t:TA):TE:=λ σ H Q=>to σ H λ x H1=>tyV K T x H1/\t σ H1 λ xs H2=>r x xs H2 Q
variable {o e:Expr} {es:List Expr} {to:TE} {t:TA} {name:Str} {apos cpos:Pos} {T id:String} {r:V->List V->Hp->VK->Prop}
theorem RU (pa:PlainAttrs T) (slot:Slot T name id) (hty:typeOf (.builtin id)=pure (.type "method_descriptor")) (hm:MtR X id r) (ho:PE X o to)
    (hbase:attributeBase o name X.env (eval o X.env)=eval o X.env:=by rfl) (hline:(apos.endLine == cpos.line)=true:=by rfl):PE X (.Call (.Attribute o name apos) [] [] cpos) (QN X.K T r to):=by
  intro pins s σ H Q I h;refine wpAny_Call_method0_late hbase hline (thn (ho pins s σ H _ I h) λ v s1 ⟨x,H1,I1,r1,ty,q1⟩=> ?_);obtain ⟨h1,h2⟩:=No I1 r1 ty;exact ⟨T,id,pa,slot,hty,h1,h2,Calls.callWith_builtin rfl (PySem.evalArgs_none (hm pins s1 σ H1 x [] v [] Q I1 r1 .nil q1))⟩
theorem YD (pa:PlainAttrs T) (slot:Slot T name id) (hty:typeOf (.builtin id)=pure (.type "method_descriptor")) (hm:MtR X id r) (ho:PE X o to) (ha:PA X (e::es) t)
    (hbase:attributeBase o name X.env (eval o X.env)=eval o X.env:=by rfl)
    (hfew:((backTo cpos (starEach (e::es) X.env)).all (λ x=> !x.1)&&(backToKw cpos (keywordEach [] X.env)).all (λ x=>x.1.isSome)
      && decide ((e::es).length+([]:List Keyword).length+(if ([]:List Keyword).isEmpty then 0 else 1)<30))=true:=by rfl)
    (hline:(apos.endLine == cpos.line)=true:=by rfl) (hs:starEach (e::es) X.env=(false,eval e X.env)::starEach es X.env:=by rfl) (hplain:(backTo cpos (starEach es X.env)).any (·.1)=false:=by rfl):
    PE X (.Call (.Attribute o name apos) (e::es) [] cpos) (tBM X.K T r to t):=by
  intro pins s σ H Q I h;refine wpAny_Call_method_late hbase hfew hline rfl (thn (ho pins s σ H _ I h) λ v s1 ⟨x,H1,I1,r1,ty,q1⟩=> ?_);obtain ⟨h1,h2⟩:=No I1 r1 ty;refine ⟨T,id,pa,slot,hty,h1,h2,?_⟩;have hA:=ha cpos pins s1 σ H1 _ I1 q1;rw [hs] at hA ⊢;refine Calls.callWith_builtin (by show (false||(backTo cpos (starEach es X.env)).any (·.1))=false;rw [hplain] <;> rfl) (Calls.evalArgs_plain ?_);exact thn hA λ us s2 ⟨vs,H2,I2,r2,q2⟩=>hm pins s2 σ H2 x vs v us Q I2 r1 r2 q2
end
def MtM (X:Cx) (id:String) (r:V->List V->Hp->VK->Prop):Prop:=
  ∀ (pins:List (Addr × Obj)) (s:Shared) (σ:St) (H:Hp) (x:V) (xs:List V) (v:Value) (us:List Value) (Q:VK),Inv X pins σ H s->RelV x v->Vals xs us->r x xs H Q->
    wpAny (model X.prog X.w) X.A (call (.builtin id) (v::us)) (EP X pins σ Q) X.xe s
theorem Vals.one:∀ {x:V} {us:List Value},Vals [x] us->∃ u,us=[u]/\RelV x u
  | _,_, .cons r .nil=>⟨_,rfl,r⟩
theorem Vals.zero:∀ {us:List Value},Vals [] us->us=[]
  | _, .nil=>rfl
theorem Vals.rep {xs:List V} {us:List Value} (h:Vals xs us):∀ k:Nat,Vals (List.replicate k xs).flatten (List.replicate k us).flatten
  | 0=> .nil
  | k+1=>by
    rw [List.replicate_succ,List.replicate_succ,List.flatten_cons,List.flatten_cons];exact Vals.append h (Vals.rep h k)
theorem IL (its:List Value):∀ (k:Nat) (acc:List Value),
    List.foldl (λ x1 x2=>x1++x2) acc.toArray (List.replicate k its.toArray)=(acc++(List.replicate k its).flatten).toArray
  | 0,acc=>by simp
  | k+1,acc=>by
    have e:acc.toArray++its.toArray=(acc++its).toArray:=by simp
    have e2:(acc++its)++(List.replicate k its).flatten=acc++(List.replicate (k+1) its).flatten:=by
      rw [List.replicate_succ,List.flatten_cons,List.append_assoc]
    rw [<-e2, <-IL its k (acc++its), <-e,List.replicate_succ,List.foldl_cons]
section
variable {X:Cx} {pins:List (Addr × Obj)} {σ:St} {H:Hp} {s:Shared} {l b:Addr} {xs ys zs:List V}
theorem Inv.lset {its its':List Value} {n:Nat} {f:Array Value->Array Value} {t':Nat} (I:Inv X pins σ H s) (hH:H l=some (.lst xs))
    (e:s.heap.get? l=some { cls:= .type "list",data:= .seq its.toArray n }) (hf:f its.toArray=its'.toArray) (hv:Vals ys its') (hz:ys.length<=sizeLine):
    Inv X pins σ (upd H l (.lst ys)) { s with heap:=s.heap.update l (Obj.mapSeq f),toks:=t' }:=by
  have q:=PySem.IsL.update e f;rw [hf] at q;refine I.write (x:=l) (e:=l) (by rw [hH];exact trivial) (.inl rfl) (λ b' u hb hu=>(Heap.get?_update_other s.heap (Obj.mapSeq f) (Ne.symm hb)).trans hu) ⟨_,q⟩ ?_;exact ⟨hz,its',_,hv,q⟩
theorem Inv.lnew {its:List Value} {t':Nat} (I:Inv X pins σ H s) (hv:Vals ys its) (hz:ys.length<=sizeLine):
    Inv X pins σ (upd H s.heap.objs.size (.lst ys)) { s with heap:=s.heap.push { cls:= .type "list",data:= .seq its.toArray },toks:=t' }:=
  I.laid (λ _ _ q=>Heap.get?_push_of_some _ q) (Nat.le_refl _) ⟨hz,its,0,hv,Heap.get?_push_size _ rfl⟩
theorem Inv.fresh (I:Inv X pins σ H s):H s.heap.objs.size=none:=I.hok.fresh (Nat.le_refl _)
theorem Inv.lstM (I:Inv X pins σ H s) (hH:H l=some (.lst xs)):xs.length<=sizeLine/\∃ (its:List Value) (n:Nat),Vals xs its/\xs.length=its.length/\s.heap.get? l=some { cls:= .type "list",data:= .seq its.toArray n }:=by
  obtain ⟨z,its,n,r,e⟩:=I.hok l _ hH;exact ⟨z,its,n,r,r.length,e⟩
theorem Kr {n:Nat} (h:n<=sizeLine):Builtin.List.listTooLong n=false:=by
  unfold Builtin.List.listTooLong;exact decide_eq_false (by omega)
end
section
variable {X:Cx}
def rAppend:V->List V->Hp->VK->Prop:=λ x vs H Q=>∃ l xs y,x= .ref l/\vs=[y]/\H l=some (.lst xs)/\xs.length<sizeLine/\Q .non (upd H l (.lst (xs++[y])))
theorem FW:MtM X "list.append" rAppend:=by
  intro pins s σ H x vs v us Q I rx rv h;obtain ⟨l,xs,y,rfl,rfl,hH,hz,q⟩:=h;cases rx;obtain ⟨u,rfl,ru⟩:=rv.one;obtain ⟨z,its,n,r,hl,e⟩:=I.lstM hH;refine call_meets F.slot_list_append ⟨_,e,rfl⟩ F.entry_list_append (F.args_list_append_2 _ _) (PySem.list_append l its.toArray n u (by rw [List.size_toArray];omega)) ⟨e,?_⟩;refine ⟨.non,_,I.lset (its':=its++[u]) hH e (by simp) (r.append (.cons ru .nil)) ?_,rfl,q⟩;rw [List.length_append,List.length_singleton];omega
def rExtend:V->List V->Hp->VK->Prop:=λ x vs H Q=>∃ l b xs zs,x= .ref l/\vs=[.ref b]/\H l=some (.lst xs)/\H b=some (.lst zs)/\xs.length+zs.length<=sizeLine/\Q .non (upd H l (.lst (xs++zs)))
theorem Ej:MtM X "list.extend" rExtend:=by
  intro pins s σ H x vs v us Q I rx rv h;obtain ⟨l,b,xs,zs,rfl,rfl,hH,hB,hz,q⟩:=h;cases rx;obtain ⟨u,rfl,ru⟩:=rv.one;cases ru;obtain ⟨z,its,n,r,hl,e⟩:=I.lstM hH;obtain ⟨z2,its2,n2,r2,hl2,e2⟩:=I.lstM hB;have hsz:its.toArray.size+its2.toArray.size<=sizeLine:=by rw [List.size_toArray,List.size_toArray];omega
  have hlong:¬ (!its.toArray.isEmpty&&Builtin.List.listTooLong (its.toArray.size+its2.toArray.size))=true:=by
    rw [Kr hsz,Bool.and_false];exact Bool.false_ne_true
  refine call_meets F.slot_list_extend ⟨_,e,rfl⟩ F.entry_list_extend (F.args_list_extend_2 _ _)
    (AutoSeq1.list_extend_list_list_0 l its.toArray n b its2.toArray n2 hlong (by rw [List.size_toArray];omega) (by omega)) ⟨e,e2,?_⟩
  refine ⟨.non,_,I.lset (its':=its++its2) hH e (by simp) (r.append r2) ?_,rfl,q⟩;rw [List.length_append];omega
def UA:R2:=λ x y H Q=>∃ l k xs,x= .ref l/\y= .int k/\H l=some (.lst xs)/\ -(2 ^ 63)<=k/\k<2 ^ 63/\xs.length*k.toNat<=sizeLine/\
  ∀ p,H p=none->Q (.ref p) (upd H p (.lst (List.replicate k.toNat xs).flatten))
theorem OU {α:Type} (xs:List α) (k:Nat):(List.replicate k xs).flatten.length=k*xs.length:=by
  induction k with
  | zero=>simp
  | succ k ih=>rw [List.replicate_succ,List.flatten_cons,List.length_append,ih,Nat.succ_mul,Nat.add_comm]
theorem Rw:OpR X (binaryOp .Mult) UA:=by
  intro pins s σ H x y v u Q I rx ry h;obtain ⟨l,k,xs,rfl,rfl,hH,h1,h2,hz,q⟩:=h;cases rx;obtain ⟨t,rfl⟩:=ry;obtain ⟨z,its,n,r,hl,e⟩:=I.lstM hH;have hlen:its.toArray.size*k.toNat<=sizeLine:=by rw [List.size_toArray, <-hl];exact hz
  have hcap:¬ its.toArray.size*k.toNat>(2 ^ 63 - 1) / 8:=by
    have:(sizeLine:Nat)<=(2 ^ 63 - 1) / 8:=by decide
    omega
  have hfit:¬ (!Builtin.List.listFitsIndex k)=true:=by
    rw [fitsIndex_both h1 h2];exact Bool.false_ne_true
  have hlong:¬ Builtin.List.listTooLong (its.toArray.size*k.toNat)=true:=by
    rw [Kr hlen];exact Bool.false_ne_true
  have hnew:List.foldl (λ x1 x2=>x1++x2) #[] (List.replicate (if its.toArray.isEmpty=true then 0 else k.toNat) its.toArray)=(List.replicate k.toNat its).flatten.toArray:=by
    have f0:∀ m:Nat,List.foldl (λ x1 x2=>x1++x2) #[] (List.replicate m its.toArray)=(List.replicate m its).flatten.toArray:=λ m=>by
      have:=IL its m [];rw [List.nil_append] at this;exact this
    rw [f0];cases its with
    | nil=>simp
    | cons a r'=>rw [if_neg (by simp)]
  refine wpAny_binaryOp_repeat_ref (T:="list") (U:="int") (by decide) ⟨_,e,rfl⟩ (λ s'=>typeIs_int s' k t) noFill_list_mul F.fills_int_mul F.slot_int_rmul repeat_list F.slot_int_index.lookup
    (call_meets F.slot_int_rmul (typeIs_int s k t) F.entry_int_rmul (F.args_int_rmul_2 _ _) (int___rmul___int_list k t l its.toArray n)
      ⟨e,rfl,⟨_,e,rfl⟩,call_meets F.slot_list_mul ⟨_,e,rfl⟩ F.entry_list_mul (F.args_list_mul_2 _ _) (AutoListH.list___mul___list_int_3 l its.toArray n k t hfit hcap hlong) ⟨e,?_⟩⟩)
  rw [hnew];exact ⟨.ref _,_,I.lnew (t':=s.toks) (r.rep k.toNat) (by rw [OU,Nat.mul_comm];exact hz),rfl,q _ I.fresh⟩
end
section
variable {prog:Program} {w:World} {A:Around} {E:Value->Shared->Prop} {s:Shared}
end
section
variable {X:Cx}
end
end L2
namespace Att
open PySem PySem.W PySem.Calls PyProof.Rows
theorem Gi {P:Params} {h:Heap}:∀ (ns:List Int) (vs:List Value),WellAll P h vs (ns.map WData.int)->IntsAre vs ns:=by
  intro ns
  induction ns with
  | nil=>
    intro vs w;rw [List.map_nil] at w;cases w;exact .nil
  | cons n ns ih=>
    intro vs w;rw [List.map_cons] at w;cases w with
    | cons a b=>
      cases a;exact .cons _ _ (ih _ b)
theorem L6 {l:OpenLaw} {n:Nat} (hn:l.most=some n) {P:Params} {h:Heap} {args:List WData} {vals:List Value}
    (hpre:l.row.toRowW.claim.pre args=true) (hwl:WellAll P h vals args):
    ∃ a vs ns,vals=[Value.ref a]/\args=[WData.list (ns.map WData.int)]/\h.get? a=some { cls:= .type "list",data:= .seq vs.toArray }/\IntsAre vs ns/\ns.length<=n:=by
  have hsh:WShape.hasAll [] args [.list .int]=true:=(pre_splitW hpre).1;have hc:l.pre.holds [] { args:=args }=true:=(pre_splitW hpre).2;obtain ⟨d,r,rfl,h1,h2⟩:=hasAllW_cons hsh;obtain rfl:=hasAllW_nil h2;obtain ⟨xs,rfl,h3⟩:=hasW_list h1;obtain ⟨ns,rfl⟩:=items_int h3;have hlen:ns.length<=n:=by
    unfold OpenLaw.pre at hc;have h4:(WTm.not (.lt (.lit (.int (n:Int))) (.len (.arg 0)))).holds [] { args:=[.list (ns.map .int)] }=true:=by
      have h4:=(holds_andW hc).1;rw [hn] at h4;exact h4
    have h5:=condW_of h4 (w_not (w_lt w_lit (w_len_list (w_arg rfl))));rw [List.length_map] at h5;refine Nat.le_of_not_lt λ q=> ?_;have q':(n:Int)<((ns.length:Nat):Int):=by omega
    first
      | (rw [decide_eq_true q'] at h5;exact absurd h5 (by decide))
      | (simp at h5;omega)
  cases hwl with
  | cons w1 w2=>
    cases w2;cases w1 with
    | list ho hall=>exact ⟨_,_,ns,rfl,rfl,ho,Gi ns _ hall,hlen⟩
theorem L7 (l:OpenLaw) (args:List WData):l.row.toRowW.claim.post args (.bool true) args=true:=
  postW_of (r:=l.row.toRowW) (X:=(true == true))
    (show WShape.has [] (.bool true) .bool=true by first | rfl | decide | simp [WShape.has,WShape.arms,WShape.armsAll])
    (show (WTm.eq .res (.lit (.bool true))).value [] { args:=args,res:=some (.bool true),after:=args }=some (.bool (true == true)) from w_eq_bool (w_res rfl) w_lit) rfl
theorem attach_call {l:OpenLaw} {n:Nat} {q:Program} {loose:List Str} {XP:(Str->Option Value)->Heap->Prop} {YP:World->Heap->Prop} {d:DefRec}
    (hn:l.most=some n) (hdf:d.params.defaults=[])
    (call:∀ (w:World) (s₀ s₁:Shared) (mg mb:Str->Option Value) (fa:Addr) (o:Obj) (pm cd doc:Value) (a:Addr) (vs:List Value) (ns:List Int),
      Ground q loose [] XP w s₀ mg mb s₁.heap->YP w s₁.heap->
      s₁.heap.get? fa=some o->o.data= .func (docDef d.name d.params d.body d.scope pm cd doc)->s₁.heap.CodeRec cd d.name->mg d.name=some (.ref fa)->
      s₁.heap.get? a=some { cls:= .type "list",data:= .seq vs.toArray }->IntsAre vs ns->ns.length<=n->s₁.gens= #[]->
      codeAny (model l.prog w) callerA (.call (.ref fa) ⟨[.ref a],[]⟩) (λ r s'=>r= .ok (.ret (.bool true))/\OldK s₁.heap s'.heap/\s'.os=s₁.os/\AllBare s'.gens) s₁):
    WalkO q loose XP YP l.row.toRowW d [] (λ f vs=>PySem.call f vs):=by
  intro w s₀ s₁ mg mb G Y fa o pm cd doc dV kV ho hd hcd hD hmg hg args vals as hpre hlay hrd hwl hlo;obtain rfl:dV= .none:=Dflts.none hD hdf;obtain rfl:kV= .none:=Dflts.noKw hD;obtain ⟨a,vs,ns,rfl,rfl,hobj,hints,hlen⟩:=L6 hn hpre hwl;refine enter_call (codeAny_mono (call w s₀ s₁ mg mb fa o pm cd doc a vs ns G Y ho (fd_plain hd) hcd hmg hobj hints hlen hg) λ r s' hq=> ?_);obtain ⟨rfl,h2,h3,h4⟩:=hq;exact ⟨.inl ⟨.bool true, .bool true,[],rfl,λ _=>rfl, .bool true,L7 l _,λ _=>⟨List.Pairwise.nil,λ _ hm=>(nomatch hm)⟩⟩,h2,h3,h4⟩
section
variable {prog:Program} {w:World} {A:Around} {E:Value->Shared->Prop} {s:Shared} {K:Frag}
end
end Att
namespace L2
open PySem PySem.Spec PyProof.Rows
theorem ID:∀ {vs:List Value} {ns:List Int},IntsAre vs ns->Vals (ns.map V.int) vs
  | _,_, .nil=> .nil
  | _,_, .cons n t h=> .cons ⟨t,rfl⟩ (ID h)
abbrev CX0:CXT:=λ _ _ _ _ _ _=>False
abbrev E0:XK:=λ _ _ _=>False
theorem LC {X:Cx}:Ba CX0 X E0:=λ _ _ _ _ _ _ _ h=>h.elim
structure Fun (K:PySem.W.Frag) (x qual:Str) (st:Stmt) (f:Addr) (fd:FuncData):Prop where
  ex:∃ (oc:Value) (od:Option Addr) (kV doc pm:Value) (an:Option Addr) (cdv ct:Value) (osl:Array (Option Value)),
    fd=PySem.W.fnOf x qual (Bg st) (AY st) (Af st) .none kV doc pm an cdv ct/\K.lookup f=some ⟨oc,od, .func fd,osl⟩/\PySem.W.codeIn K cdv qual=true
  kp:PySem.W.keepIn K (.ref f)=true
section
variable {P:Program} {w:World} {K:PySem.W.Frag} {mg:Str->Option Value} {base:Heap}
theorem Fun.ok {x qual:Str} {st:Stmt} {f:Addr} {fd:FuncData} {N ps:List Str} {k:Nat} {sp:Sp} (F:Fun K x qual st f fd) (S:FnScope N ps (Af st)) (len:∀ vs H Q E,sp vs H Q E->vs.length=ps.length)
    (hbody:∀ (cdv:Value) (A:Around) (outer:List Env) (s:Shared) (H:Hp) (vs:List V) (Q:VK) (E:XK),Room k (A.deeper (envOfC qual (Af st) s.heap.objs.size f cdv))->sp vs H Q E->
      ∃ t,PSs (Co CX0 P w K mg base N qual (Af st) f cdv A outer s H E).nox (AY st) t/\t { nx:=λ _ H'=>Q .non H',rt:=Q } (start N vs) H):FnOk P w K mg base CX0 (k+1) f fd ps sp:=by
  obtain ⟨oc,od,kV,doc,pm,an,cdv,ct,osl,rfl,lk,hcd⟩:=F.ex;refine LE lk hcd S len λ A outer s H vs Q E hr hsp=> ?_;obtain ⟨t,h,q⟩:=hbody cdv A outer s H vs Q E hr hsp;exact ⟨t,h.nox,q⟩
theorem fun_mk {x qual:Str} {st:Stmt} {f:Addr} {oc:Value} {od an:Option Addr} {osl:Array (Option Value)} {kV doc pm cdv ct:Value} (l:K.lookup f=some ⟨oc,od, .func (PySem.W.fnOf x qual (Bg st) (AY st) (Af st) .none kV doc pm an cdv ct),osl⟩)
    (c:PySem.W.codeIn K cdv qual=true) (k:PySem.W.keepIn K (.ref f)=true):Fun K x qual st f (PySem.W.fnOf x qual (Bg st) (AY st) (Af st) .none kV doc pm an cdv ct):=⟨⟨oc,od,kV,doc,pm,an,cdv,ct,osl,rfl,l,c⟩,k⟩
end
section
variable {X:Cx}
theorem pv (i:Nat) {x:Str} {pos:Pos} (hN:X.N[i]?=some x:=by rfl) (hv:Vis X.env.scope x:=by first | exact Or.inl rfl | exact Or.inr (Or.inl rfl) | exact Or.inr (Or.inr rfl)) (hd:(x == ("__debug__":Str))=false:=by decide)
    (hcd:(x == ("__classdict__":Str))=false:=by decide):PE X (.Name x pos) (Hv i):=QH hN hv hd hcd
end
theorem Fh {A B:Prop} (h:B):if false=true then A else B:=by
  rw [if_neg Bool.false_ne_true];exact h
theorem Kj {A B:Prop} (h:A):if true=true then A else B:=by
  rw [if_pos rfl];exact h
def Same (H H':Hp):Prop:=∀ b o,H b=some o->H' b=some o
theorem Same.refl (H:Hp):Same H H:=λ _ _ h=>h
theorem Same.trans {H H1 H2:Hp} (a:Same H H1) (b:Same H1 H2):Same H H2:=λ c o h=>b c o (a c o h)
theorem Same.free {H H':Hp} (e:Same H H') {l:Addr} (h:H' l=Option.none):H l=Option.none:=by
  cases q:H l with
  | none=>rfl
  | some o=>
    rw [e l o q] at h;cases h
theorem Same.seq {K:PySem.W.Frag} {H H':Hp} {a:Addr} {xs:List V} (e:Same H H') (h:SqL K H a xs):SqL K H' a xs:=by
  rcases h with (h | ⟨o,h⟩) | h
  · exact .inl (.inl (e _ _ h))
  · exact .inl (.inr ⟨o,e _ _ h⟩)
  · exact .inr h
section
variable {κ:Type} [DecidableEq κ]
theorem KV.length {kvs:List (κ × V)} {vs:List (κ × Value)} (r:KV kvs vs):kvs.length=vs.length:=Paired.length r
end
section
variable {P:Program} {w:World} {H:Hp} {h:Heap} {a:Addr}
end
section
variable {X:Cx} {pins:List (Addr × Obj)} {σ:St} {H:Hp} {s:Shared} {a:Addr} {y v:V} {u r:Value} {o:Option V} {A:Around} {E:Value->Shared->Prop}
theorem Inv.big (I:Inv X pins σ H s):sysModules<s.heap.objs.size:=by
  have h:mainGlobals<s.heap.objs.size:=(I.mod.glob.keeps I.bk).lt;exact Nat.lt_trans (by decide) h
end
section
variable {X:Cx} {pins:List (Addr × Obj)} {σ:St} {H:Hp} {s:Shared} {a:Addr} {kvs:List (Key × V)} {k:Key} {u:Value} {A:Around} {E:Value->Shared->Prop}
end
section
variable {X:Cx} {o i e value:Expr} {pos pos' tpos:Pos} {td ty tv:TE}
end
theorem NZ {P:Program} {w:World} {H:Hp} (h:Heap) (hb:sysModules<h.objs.size):ObjOk P w H (h.push { cls:= .type "dict",data:= .dict #[] }) h.objs.size (.dK []):=
  ⟨Nat.zero_le _,beq_eq_false_iff_ne.mpr (Ne.symm (Nat.ne_of_lt hb)),[], .nil,Heap.DictOf.new h⟩
def Om:TE:=λ _ H Q=>∀ p,H p=none->Q (.ref p) (upd H p (.dK []))
section
variable {X:Cx} {pos:Pos}
theorem Oa:PE X (.Dict [] [] pos) Om:=λ pins s σ H Q I h=>
  wpAny_Dict_empty ⟨.ref s.heap.objs.size,_,I.laid (a:=s.heap.objs.size) (o:= .dK []) (t':=s.toks) (λ _ _ q=>Heap.get?_push_of_some _ q) (Nat.le_refl _) (NZ s.heap I.big),rfl,h _ (I.hok.fresh (Nat.le_refl _))⟩
end
structure M1 (X:Cx) (o:Expr) (m:Str) (apos:Pos) (e:Expr) (cpos:Pos):Prop where
  base:attributeBase o m X.env (eval o X.env)=eval o X.env
  few:((backTo cpos (starEach [e] X.env)).all (λ x=> !x.1)&&(backToKw cpos (keywordEach [] X.env)).all (λ x=>x.1.isSome)
    && decide (([e]:List Expr).length+([]:List Keyword).length+(if ([]:List Keyword).isEmpty then 0 else 1)<30))=true
  line:(apos.endLine == cpos.line)=true
  trees:backTo cpos (starEach [e] X.env)=[(false,eval e X.env)]
structure M2 (X:Cx) (o:Expr) (m:Str) (apos:Pos) (e f:Expr) (cpos:Pos):Prop where
  base:attributeBase o m X.env (eval o X.env)=eval o X.env
  few:((backTo cpos (starEach [e,f] X.env)).all (λ x=> !x.1)&&(backToKw cpos (keywordEach [] X.env)).all (λ x=>x.1.isSome)
    && decide (([e,f]:List Expr).length+([]:List Keyword).length+(if ([]:List Keyword).isEmpty then 0 else 1)<30))=true
  line:(apos.endLine == cpos.line)=true
  trees:backTo cpos (starEach [e,f] X.env)=[(false,eval e X.env),(false,eval f X.env)]
section
variable {X:Cx} {pins:List (Addr × Obj)} {σ:St} {H:Hp} {s:Shared} {a:Addr} {y d:V} {u r:Value} {o:Option V} {A:Around} {E:Value->Shared->Prop}
end
section
variable {X:Cx} {o e f:Expr} {apos cpos:Pos} {td ty tx:TE}
end
section
variable {X:Cx} {pins:List (Addr × Obj)} {σ:St} {H:Hp} {s:Shared} {a:Addr} {kvs:List (Key × V)} {A:Around} {E:Value->Shared->Prop}
end
section
variable {X:Cx} {pins:List (Addr × Obj)} {σ:St} {H:Hp} {s:Shared} {a:Addr} {y:V} {u:Value} {A:Around} {E:Value->Shared->Prop}
end
section
variable {P:Program} {w:World} {K:PySem.W.Frag} {mg:Str->Option Value} {base:Heap}
end
section
variable {X:Cx}
end
section
variable {κ:Type} [DecidableEq κ]
end
noncomputable def AN (cells:List (Str × Addr)):List (Str × NameKind)->List (Str × Addr)->List (Str × Addr)
  | [],acc=>acc
  | (n,k)::r,acc=>AN cells r (if k= .free then (match cells.lookup n with | some a=>(n,a)::acc | none=>acc) else acc)
theorem EH {env:Env}:∀ (names:List (Str × NameKind)) (acc:List (Str × Addr)),(∀ y∈names,y.2= .free->∃ c,env.cells.lookup y.1=some c)->
    (forIn names acc λ (x:Str × NameKind) (r:List (Str × Addr))=>
      (if (x.2 == NameKind.free)=true then (do let a <-cellOf env x.1;pure (ForInStep.yield ((x.1,a)::r))) else pure (ForInStep.yield r):Sem (ForInStep (List (Str × Addr)))))=(pure (AN env.cells names acc):Sem (List (Str × Addr)))
  | [],acc,_=>rfl
  | (n,k)::rest,acc,h=>by
    rw [List.forIn_cons];have ih:=λ acc'=>EH (env:=env) rest acc' λ y hy=>h y (List.mem_cons_of_mem _ hy);by_cases hk:k= .free
    · subst hk;obtain ⟨c,hc⟩:=h (n, .free) List.mem_cons_self rfl;have hc:env.cells.lookup n=some c:=hc;have e:cellOf env n=pure c:=by unfold cellOf;rw [hc]
      simp only [beq_self_eq_true,if_true,e,pure_bind,AN,hc];exact ih _
    · have hb:(k == NameKind.free)=false:=by simpa using hk
      simp only [hb,Bool.false_eq_true,if_false,pure_bind,AN,if_neg hk];exact ih _
theorem CF {env:Env} {scope:Scope} (h:∀ y∈scope.names,y.2= .free->∃ c,env.cells.lookup y.1=some c):closureFor scope env=pure (AN env.cells scope.names []):=by
  have e:=EH (env:=env) scope.names [] h;unfold closureFor;simp only [bind_pure_comp,bind_pure,map_pure] at*;exact e
theorem EK {cells:List (Str × Addr)}:∀ (names:List (Str × NameKind)) (acc:List (Str × Addr)),(∀ x c,acc.lookup x=some c->cells.lookup x=some c)->∀ x c,(AN cells names acc).lookup x=some c->cells.lookup x=some c
  | [],acc,h,x,c,e=>h x c e
  | (n,k)::r,acc,h,x,c,e=>by
    refine EK r _ ?_ x c e;intro y d q;split at q
    · split at q
      · rename_i a ha
        rw [List.lookup_cons] at q;split at q
        · rename_i hy
          cases q;rw [eq_of_beq hy];exact ha
        · exact h y d q
      · exact h y d q
    · exact h y d q
theorem C0 {cells:List (Str × Addr)}:∀ (names:List (Str × NameKind)) (acc:List (Str × Addr)) (x:Str),(((x,NameKind.free)∈names/\∃ c,cells.lookup x=some c)\/∃ c,acc.lookup x=some c)->∃ c,(AN cells names acc).lookup x=some c
  | [],acc,x,h=>by
    rcases h with ⟨h,_⟩ | h
    · cases h
    · exact h
  | (n,k)::r,acc,x,h=>by
    refine C0 r _ x ?_;have up:(∃ c,acc.lookup x=some c)->∃ c,(if k= .free then (match cells.lookup n with | some a=>(n,a)::acc | none=>acc) else acc).lookup x=some c:=by
      rintro ⟨c,hc⟩;split
      · split
        · rename_i a ha
          rw [List.lookup_cons];split
          · exact ⟨_,rfl⟩
          · exact ⟨c,hc⟩
        · exact ⟨c,hc⟩
      · exact ⟨c,hc⟩
    rcases h with ⟨h,c,hc⟩ | h
    · rcases List.mem_cons.mp h with e | e
      · cases e;right;refine ⟨c,?_⟩;rw [if_pos rfl,hc,List.lookup_cons,beq_self_eq_true]
      · exact .inl ⟨e,c,hc⟩
    · exact .inr (up h)
theorem GA (env:Env) (x:Str):∀ names:List (Str × NameKind),
    (names.map λ (n,k)=>if (k == NameKind.free&&env.scope.kind == .function&&env.kindOf n == some .cell) then (n,NameKind.cell) else (n,k)).lookup x=
      (names.lookup x).map λ k=>if (k == NameKind.free&&env.scope.kind == .function&&env.kindOf x == some .cell)=true then NameKind.cell else k
  | []=>rfl
  | (n,k)::r=>by
    have ih:=GA env x r;show List.lookup x ((if (k == NameKind.free&&env.scope.kind == .function&&env.kindOf n == some .cell)=true then (n,NameKind.cell) else (n,k))::_)=_;cases hx:x == n with
    | true=>
      have e:x=n:=eq_of_beq hx;subst e;by_cases hc:(k == NameKind.free&&env.scope.kind == .function&&env.kindOf x == some .cell)=true
      · rw [if_pos hc,List.lookup_cons,List.lookup_cons,beq_self_eq_true];simp only [Option.map_some,if_pos hc]
      · rw [if_neg hc,List.lookup_cons,List.lookup_cons,beq_self_eq_true];simp only [Option.map_some,if_neg hc]
    | false=>
      have e:(List.lookup x ((n,k)::r))=List.lookup x r:=by rw [List.lookup_cons,hx]
      rw [e, <-ih];split <;> rw [List.lookup_cons,hx]
structure BlkScope (X:Cx) (scope:Scope) (own:List Str) (fr:List (Str × Nat)):Prop where
  kind:scope.kind= .function
  nocell:∀ y∈scope.names,y.2≠ .cell
  loc:∀ y∈scope.names,y.2= .local->scope.names.lookup y.1=some .local
  free:∀ y∈scope.names,y.2= .free->(X.env.scope.names.lookup y.1=some .cell\/X.env.scope.names.lookup y.1=some .free)
  fr:∀ p∈fr,X.N[p.2]?=some p.1/\(p.1,NameKind.free)∈scope.names
  only:∀ x,(x,NameKind.free)∈scope.names->scope.names.lookup x=some .free
noncomputable def Bc (X:Cx) (scope:Scope) (own:List Str) (fr:List (Str × Nat)) (C:Addr) (ex:List Addr) (s:Shared) (H:Hp):Cx where
  prog:=X.prog
  w:=X.w
  K:=X.K
  mg:=X.mg
  base:=X.base
  A:=X.A
  N:=own++fr.map (·.1)
  s₀:=s
  H₀:=H
  env:=compEnvC scope (AN X.env.cells scope.names []) C X.env
  outer:=X.stack
  stack:=X.stack
  ex:=ex
  fn:=λ _=>false
  calm:=X.calm
  pn:=[]
  xe:=λ _ _=>False
noncomputable def E8 (own:List Str) (fr:List (Str × Nat)) (σ:St):St:=own.map (λ _=>none)++fr.map (λ p=>(σ[p.2]?).getD none)
section
variable {X:Cx} {pins:List (Addr × Obj)} {σ:St} {H:Hp} {s:Shared} {scope:Scope} {own:List Str} {fr:List (Str × Nat)} {fp:List Addr}
theorem BlkScope.cells (S:BlkScope X scope own fr) (ok:X.Ok):∀ y∈scope.names,y.2= .free->∃ c,X.env.cells.lookup y.1=some c:=λ y hy e=>ok.has y.1 (S.free y hy e)
theorem Inv.block {h':Heap} {t':Nat} {m:Str->Option Value} (I:Inv X pins σ H s) (S:BlkScope X scope own fr) (hf:∀ b∈fp,DG X pins H b) (hlt:∀ b∈fp,b<s.heap.objs.size)
    (hns:h'.Ns s.heap.objs.size m) (k:∀ b o,s.heap.get? b=some o->h'.get? b=some o):
    Inv (Bc X scope own fr s.heap.objs.size fp s H) [] (E8 own fr σ) H { s with heap:=h',toks:=t' }:=by
  have cs:∀ x c,(AN X.env.cells scope.names []).lookup x=some c->X.env.cells.lookup x=some c:=EK _ _ (λ _ _ e=>by simp at e);have ck:∀ c v,s.heap.IsCell c v->h'.IsCell c v:=λ c v ⟨o,ho,hd⟩=>⟨o,k _ _ ho,hd⟩;have kf:∀ x,(x,NameKind.free)∈scope.names->∃ c,X.env.cells.lookup x=some c/\(AN X.env.cells scope.names []).lookup x=some c:=λ x hx=>by
    obtain ⟨c0,e0⟩:=S.cells I.ok (x, .free) hx rfl;obtain ⟨c,e⟩:=C0 (cells:=X.env.cells) scope.names [] x (.inl ⟨hx,c0,e0⟩);exact ⟨c,cs _ _ e,e⟩
  have rel:∀ x,(compEnvC scope (AN X.env.cells scope.names []) s.heap.objs.size X.env).kindOf x=(scope.names.lookup x).map λ k=>if (k == NameKind.free&&X.env.scope.kind == .function&&X.env.kindOf x == some .cell)=true then NameKind.cell else k:=λ x=>GA X.env x scope.names
  have nc:∀ x,scope.names.lookup x≠some .cell:=λ x e=>S.nocell _ (PySem.mem_of_lookup e) rfl;refine ⟨⟨I.ok.mod,S.kind,I.ok.glob,I.ok.blt,Nat.le_refl _,λ x y c e1 e2=>I.ok.inj x y c (cs _ _ e1) (cs _ _ e2),λ x hx=> ?_,λ x c e _=>(nomatch e),I.ok.hd,I.ok.frames, .inl rfl,
    λ b hb=>⟨Nat.ne_of_lt (hlt b hb),λ x c e=>(hf b hb).2.2.2.2.1 x c (cs _ _ e)⟩,I.bs,Nat.le_trans I.ok.bsz I.sz,λ b o e hb=> ?_,λ b hb z=>(List.mem_cons.mp (I.stkSub b z)).elim (hf b hb).2.1 (hf b hb).2.2.1,I.stack,I.stkFree⟩,
    rfl,I.bare,Un.kept k,⟨m,hns,λ i x v e1 e2 e3=> ?_⟩,λ x c e=> ?_,I.hok.fresh (Nat.le_refl _),λ x c e=>I.freeC x c (cs _ _ e),λ p hp=>absurd (show p∈([]:List (Addr × Obj)) from hp) (by simp),I.hok.kept k,?_⟩
  · have hx:(compEnvC scope (AN X.env.cells scope.names []) s.heap.objs.size X.env).kindOf x=some .cell\/(compEnvC scope (AN X.env.cells scope.names []) s.heap.objs.size X.env).kindOf x=some .free:=hx;rw [rel x] at hx;have q:scope.names.lookup x=some .free:=by
      cases e:scope.names.lookup x with
      | none=>rw [e] at hx;simp at hx
      | some kk=>
        rw [e] at hx;simp only [Option.map_some,Option.some.injEq] at hx;by_cases hk:kk= .free
        · rw [hk]
        · have hb:(kk == NameKind.free)=false:=by simpa using hk
          simp only [hb,Bool.false_and,Bool.false_eq_true,if_false] at hx;rcases hx with hx | hx
          · rw [hx] at e;exact absurd e (nc x)
          · exact absurd hx hk
    obtain ⟨c,_,e⟩:=kf x (PySem.mem_of_lookup q);exact ⟨c,e⟩
  · rcases (hf b hb).2.2.2.1 with z | z
    · exact I.ok.noex b o e z
    · exact absurd (Nat.lt_of_lt_of_le (Heap.lt_size (I.ok.bs b o e).1) z) (Nat.lt_irrefl _)
  · have e1:(own++fr.map (·.1))[i]?=some x:=e1;have e2:(E8 own fr σ)[i]?=some (some v):=e2;unfold E8 at e2;by_cases hi:i<own.length
    · rw [List.getElem?_append_left (by simpa using hi),List.getElem?_map] at e2;rw [List.getElem?_eq_getElem hi] at e2;simp at e2
    · rw [List.getElem?_append_right (by simpa using hi),List.getElem?_map,List.length_map] at e2;rw [List.getElem?_append_right (by omega),List.getElem?_map] at e1;cases ep:fr[i - own.length]? with
      | none=>rw [ep] at e1;simp at e1
      | some p=>
        rw [ep] at e1 e2;simp only [Option.map_some,Option.some.injEq] at e1 e2;subst e1;obtain ⟨h1,h2⟩:=S.fr p (List.mem_of_getElem? ep);have e4:σ[p.2]?=some (some v):=by
          cases q:σ[p.2]? with
          | none=>rw [q] at e2;simp at e2
          | some z=>rw [q] at e2;simp at e2;rw [e2]
        have kx:=S.free _ h2 rfl;obtain ⟨m0,hn0,hl0⟩:=I.loc;obtain ⟨u,r,l⟩:=hl0 p.2 p.1 v h1 e4 (kx.elim (λ z=> .inr (.inl z)) λ z=> .inr (.inr z));refine ⟨u,r,?_⟩;rcases l with ⟨z,_⟩ | ⟨_,c,hc,hcell⟩
        · have z:X.env.scope.names.lookup p.1=some .local:=z;rcases kx with y | y <;> (rw [y] at z;cases z)
        · obtain ⟨c',q1,q2⟩:=kf p.1 h2;rw [hc] at q1;cases q1;refine .inr ⟨?_,c,q2,ck _ _ hcell⟩;show (compEnvC scope (AN X.env.cells scope.names []) s.heap.objs.size X.env).kindOf p.1=some .cell\/(compEnvC scope (AN X.env.cells scope.names []) s.heap.objs.size X.env).kindOf p.1=some .free;have e3:(compEnvC scope (AN X.env.cells scope.names []) s.heap.objs.size X.env).kindOf p.1=some .local\/(compEnvC scope (AN X.env.cells scope.names []) s.heap.objs.size X.env).kindOf p.1=some .cell\/(compEnvC scope (AN X.env.cells scope.names []) s.heap.objs.size X.env).kindOf p.1=some .free:=e3;rcases e3 with e3 | e3
          · exfalso;rw [rel] at e3;cases e:scope.names.lookup p.1 with
            | none=>rw [e] at e3;cases e3
            | some kk=>
              rw [e] at e3;simp only [Option.map_some,Option.some.injEq] at e3;by_cases hk:kk= .free
              · subst hk;split at e3 <;> cases e3
              · have hb:(kk == NameKind.free)=false:=by simpa using hk
                simp only [hb,Bool.false_and,Bool.false_eq_true,if_false] at e3;subst e3;have:=S.only p.1 h2;rw [this] at e;cases e
          · exact e3
  · obtain ⟨v,z⟩:=I.cell x c (cs _ _ e);exact ⟨v,ck _ _ z⟩
  · unfold E8;show _=(own++fr.map (·.1)).length;simp
end
theorem Kg {prog:Program} {w:World} {A:Around} {R:Result->Shared->Prop} {s:Shared} {elt target iter:Expr} {ifs:List Expr} {scope:Scope} {pos:Pos} {it acc:Value} {env:Env} (I:Nat->Shared->Prop)
    (turn:∀ n s,I n s->wpAny (model prog w) A (pyNext it) (λ r s₁=>match r with
      | none=>R (.ok .next) s₁
      | some v=>wpAny (model prog w) A (letOwnedTupleGo target it v) (λ _ s₁'=>wpAny (model prog w) A (assign target env v) (λ _ s₂=>
          wpAny (model prog w) A (forIn ifs true λ c r=>if r=true then do let ok <-isTrue c env (eval c env);pure (ForInStep.yield ok) else pure (ForInStep.yield r)) (λ ok s₃=>
            if ok=true then wpAny (model prog w) A (eval elt env) (λ x s₄=>
              wpAny (model prog w) A (call (.builtin "list.append") [acc,x]) (λ _ s₅=>∃ m,m<n/\I m s₅) (λ _ _=>False) s₄) (λ _ _=>False) s₃
            else ∃ m,m<n/\I m s₃) (λ _ _=>False) s₂) (λ _ _=>False) s₁') (λ _ _=>False) s₁) (λ _ _=>False) s)
    (n:Nat) (h:I n s):codeAny (model prog w) A (.compLoop (.ListComp elt [⟨target,iter,ifs,0⟩] scope pos) 0 it acc env) R s:=by
  refine codeAny_loop rfl I (λ n s hI=> ?_) n h;show wpAny _ A ((compTurn (.ListComp elt [⟨target,iter,ifs,0⟩] scope pos) 0 it acc env).onRaise (λ x=>do noteFrame x env;theTreesLotGoes x)) _ _ s;refine wpAny_noted ?_;rw [compTurn_list];refine wpAny_bind (wpAny_standAt (wpAny_bind (wpAny_mono (turn n s hI) (λ r s₁ h₁=> ?_) λ _ _ f=>f.elim)));cases r with
  | none=>exact wpAny_pure h₁
  | some v=>
    refine wpAny_bind (wpAny_mono h₁ (λ _ s₁' h₁'=>wpAny_bind (wpAny_mono h₁' (λ _ s₂ h₂=>wpAny_bind (wpAny_mono h₂ (λ ok s₃ h₃=> ?_) λ _ _ f=>f.elim)) λ _ _ f=>f.elim)) λ _ _ f=>f.elim);cases ok with
    | false=>exact wpAny_pure ⟨rfl,h₃⟩
    | true=>
      exact wpAny_bind (wpAny_bind (wpAny_mono h₃ (λ x s₄ h₄=>wpAny_bind (wpAny_mono h₄ (λ _ s₅ h₅=>wpAny_pure (wpAny_pure ⟨rfl,h₅⟩)) λ _ _ f=>f.elim)) λ _ _ f=>f.elim))
section
variable {X:Cx}
def PTs (X:Cx) (ifs:List Expr) (tc:TT):Prop:=
  ∀ (pins:List (Addr × Obj)) (s:Shared) (σ:St) (H:Hp) (Q:Bool->Hp->Prop),Inv X pins σ H s->tc σ H Q->
    wpAny (model X.prog X.w) X.A (forIn ifs true λ c r=>if r=true then do let ok <-isTrue c X.env (eval c X.env);pure (ForInStep.yield ok) else pure (ForInStep.yield r)) (TP X pins σ Q) X.xe s
def Oz:TT:=λ _ H Q=>Q true H
theorem Ax:PTs X [] Oz:=λ _ _ _ H _ I h=>wpAny_tests_nil ⟨H,I,h⟩
theorem Cp {c:Expr} {tc:TT} (h:PT X c tc):PTs X [c] tc:=λ pins s σ H Q I q=>wpAny_tests_one (h pins s σ H Q I q)
def Kp (σ0 σ:St):Prop:=σ.length=σ0.length/\∀ (i:Nat) (v:V),σ0[i]?=some (some v)->σ[i]?=some (some v)
theorem Kp.refl (σ:St):Kp σ σ:=⟨rfl,λ _ _ h=>h⟩
theorem Kp.set {σ0 σ:St} {i:Nat} {v:V} (k:Kp σ0 σ) (h:σ0[i]?=some none):Kp σ0 (σ.set i (some v)):=by
  refine ⟨by rw [List.length_set];exact k.1,λ j u e=> ?_⟩;by_cases hj:i=j
  · subst hj;rw [h] at e;cases e
  · rw [List.getElem?_set_ne hj];exact k.2 j u e
def F8 (J:It) (σ0:St) (g:TG) (tc:TT) (te:TE) (Q:VK) (H1:Hp) (D:Addr):Prop:=
  ∃ W:Nat->Nat->List V->Hp->Prop,(∃ m,W 0 m [] (upd H1 D (.lst [])))/\∀ i m ys H,W i m ys H->
    (J.stop i H/\Q (.ref D) H)\/(J.go i H/\∃ N:List V->Hp->Prop,(∀ ys' H',N ys' H'->∃ m',m'<m/\W (i+1) m' ys' H')/\∀ x H',J.yld i H x H'->g x σ0 H' λ σ2 H2=>Kp σ0 σ2/\tc σ2 H2 λ b H3=>
      if b=true then te σ2 H3 λ y H4=>H4 D=some (.lst ys)/\ys.length<sizeLine/\N (ys++[y]) (upd H4 D (.lst (ys++[y]))) else N ys H3)
def IP (wi:TI) (own:List Str) (fr:List (Str × Nat)) (g:TG) (tc:TT) (te:TE):TE:=λ σ H Q=>wi σ H λ J H1=>∀ D,H1 D=none->F8 J (E8 own fr σ) g tc te Q H1 D
theorem JP {elt tg iter:Expr} {ifs:List Expr} {scope:Scope} {pos:Pos} {own:List Str} {fr:List (Str × Nat)} {g:TG} {tc:TT} {te:TE} (hc:X.calm=true) (S:BlkScope X scope own fr)
    (hg:∀ C ex s H,PG (Bc X scope own fr C ex s H) tg g) (ht:∀ C ex s H,PTs (Bc X scope own fr C ex s H) ifs tc) (he:∀ C ex s H,PE (Bc X scope own fr C ex s H) elt te)
    {pins:List (Addr × Obj)} {σ:St} {H:Hp} {s:Shared} {it:Addr} {fp:List Addr} {tn:Nat->Heap->Prop} {J:It} {E:Value->Shared->Prop}
    (I:Inv X pins σ H s) (T:Turn X.prog X.w X.K tg J fp it tn) (st:tn 0 s.heap) (hf:∀ b∈fp,DG X pins H b) {Q:VK}
    (h:∀ D,H D=none->F8 J (E8 own fr σ) g tc te Q H D)
    {RR:Value->Addr->Result->Shared->Prop}
    (hR:∀ D C H' s',Inv X pins σ H' s'->(∃ m,s'.heap.Ns C m)->DG X pins H' C->Q (.ref D) H'->RR (.ref D) C (.ok .next) s'):
    wpAny (model X.prog X.w) X.A (newList []) (λ acc s₃=>wpAny (model X.prog X.w) X.A (newFunctionEnv scope X.env.globals (AN X.env.cells scope.names []) [] X.env.qual none .none (some X.env)) (λ cenv s₄=>
      codeAny (model X.prog X.w) X.A (.compStart (.ListComp elt [⟨tg,iter,ifs,0⟩] scope pos) 0 (.ref it) acc { cenv with scope:=relabel scope X.env }) (RR acc cenv.locals) s₄) E s₃) E s:=by
  have hDn:H s.heap.objs.size=none:=I.fresh;obtain ⟨W,⟨m0,w0⟩,turn⟩:=h s.heap.objs.size hDn;have I3:Inv X pins σ (upd H s.heap.objs.size (.lst [])) { s with heap:=s.heap.push { cls:= .type "list",data:= .seq ([]:List Value).toArray },toks:=s.toks }:=I.lnew .nil (Nat.zero_le _);refine wpAny_newObj_type ?_;generalize hs3:({ s with heap:=s.heap.push { cls:= .type "list",data:= .seq ([]:List Value).toArray } }:Shared)=s3 at I3 ⊢;have I3:Inv X pins σ (upd H s.heap.objs.size (.lst [])) s3:=I3;have old3:∀ b o,s.heap.get? b=some o->s3.heap.get? b=some o:=λ b o e=>by rw [<-hs3];exact Heap.get?_push_of_some _ e
  have hobj:∀ b∈fp,∃ o,s.heap.get? b=some o/\∀ v,o.data≠ .cell v:=T.obj 0 _ st;have hne:∀ b∈fp,b≠s.heap.objs.size:=λ b hb=>by obtain ⟨o,e,_⟩:=hobj b hb;exact Nat.ne_of_lt (Heap.lt_size e)
  have hf3:∀ b∈fp,DG X pins (upd H s.heap.objs.size (.lst [])) b:=λ b hb=>⟨by rw [Aj (hne b hb)];exact (hf b hb).1,(hf b hb).2⟩;have hlt3:∀ b∈fp,b<s3.heap.objs.size:=λ b hb=>by obtain ⟨o,e,_⟩:=hobj b hb;exact Heap.lt_size (old3 b o e)
  refine wpAny_newFunctionEnv S.nocell (by intro y hy;simp at hy) (λ h₁ hns hsb=> ?_) S.kind;have keep:∀ b o,s3.heap.get? b=some o->h₁.get? b=some o:=λ b o e=>hsb.extBut b o (Nat.ne_of_lt (Heap.lt_size e)) (Heap.get?_push_of_some _ e);have J0:=I3.block (t':=s3.toks+([]:List (Str × Value)).length) S hf3 hlt3 hns keep;have st3:tn 0 h₁:=T.keep 0 _ _ st λ b hb o e=>keep b o (old3 b o e);have loop:codeAny (model X.prog X.w) X.A (.compLoop (.ListComp elt [⟨tg,iter,ifs,0⟩] scope pos) 0 (.ref it) (.ref s.heap.objs.size) (compEnvC scope (AN X.env.cells scope.names []) s3.heap.objs.size X.env))
      (RR (.ref s.heap.objs.size) s3.heap.objs.size) { s3 with heap:=h₁,toks:=s3.toks+([]:List (Str × Value)).length }:=by
    have stat:∀ {H':Hp},(∀ b∈fp,H' b=none)->∀ b∈fp,DG (Bc X scope own fr s3.heap.objs.size fp s3 (upd H s.heap.objs.size (.lst []))) [] H' b:=λ {H'} hn b hb=>
      ⟨hn b hb,Nat.ne_of_lt (hlt3 b hb),J0.ok.exfs b hb, .inl hb,(J0.ok.exf b hb).2,λ p hp=>absurd (show p∈([]:List (Addr × Obj)) from hp) (by simp)⟩
    refine Kg (λ n s'=>∃ i ys H',Inv (Bc X scope own fr s3.heap.objs.size fp s3 (upd H s.heap.objs.size (.lst []))) [] (E8 own fr σ) H' s'/\tn i s'.heap/\(∀ b∈fp,H' b=none)/\W i n ys H') ?_ m0
      ⟨0,[],_,J0,st3,λ b hb=>(hf3 b hb).1,w0⟩
    rintro n s4 ⟨i,ys,H4,I4,st4,fr4,w4⟩;rcases turn i n ys H4 w4 with ⟨stop,q⟩ | ⟨go,N,hN,step⟩
    · refine thn (T.done (Bc X scope own fr s3.heap.objs.size fp s3 (upd H s.heap.objs.size (.lst []))) rfl rfl rfl hc i [] s4 _ H4 (λ _ _=>False) I4 (stat fr4) st4 stop) λ r s5 ⟨hr,I5⟩=> ?_;subst hr;obtain ⟨m,hn,_⟩:=id I5.loc;exact hR _ _ H4 s5 (I3.call' I5.os I5.base I5.hok I5.bare λ b hb=>⟨(hf3 b hb).2.2.2.1,(hf3 b hb).2.1,(hf3 b hb).2.2.2.2.1,(hf3 b hb).2.2.2.2.2⟩) ⟨m,hn⟩ (I3.fpOk (Nat.le_refl _) I5.free) q
    · refine thn (T.item (Bc X scope own fr s3.heap.objs.size fp s3 (upd H s.heap.objs.size (.lst []))) rfl rfl rfl hc i [] s4 _ H4 (λ _ _=>False) I4 (stat fr4) st4 go) λ r s5 ⟨u,hr,h5⟩=> ?_;subst hr;refine thn h5 λ _ s6 ⟨x,H6,I6,r6,y6,st6,fr6⟩=> ?_;have I6':=I6.pinned (stat fr6) (T.obj _ _ st6);refine thn (hg _ _ _ _ _ s6 _ H6 x u _ I6' r6 (step x H6 y6)) λ _ s7 ⟨σ7,H7,I7,kp,q7⟩=> ?_;refine thn (ht _ _ _ _ _ s7 σ7 H7 _ I7 q7) λ b s8 ⟨H8,I8,q8⟩=> ?_;have again:∀ {s9:Shared} {H9:Hp} {ys':List V},Inv (Bc X scope own fr s3.heap.objs.size fp s3 (upd H s.heap.objs.size (.lst []))) ([]++Hk fp s6.heap) σ7 H9 s9->N ys' H9->
          ∃ m,m<n/\∃ i ys H',Inv (Bc X scope own fr s3.heap.objs.size fp s3 (upd H s.heap.objs.size (.lst []))) [] (E8 own fr σ) H' s9/\tn i s9.heap/\(∀ b∈fp,H' b=none)/\W i m ys H':=λ {s9 H9 ys'} I9 n9=>by
        obtain ⟨m',hm,w9⟩:=hN ys' H9 n9;refine ⟨m',hm,i+1,ys',H9,I9.unpinned.weak kp.1.symm kp.2,T.keep _ _ _ st6 λ b hb o e=>(I9.pin (b,o) (List.mem_append_right _ (List.mem_append_right _ (Da hb e)))).1,λ b hb=> ?_,w9⟩;obtain ⟨o,e,d⟩:=T.obj _ _ st6 b hb;exact (I9.pin (b,o) (List.mem_append_right _ (List.mem_append_right _ (Da hb e)))).2.1
      cases b with
      | false=>
        rw [if_neg Bool.false_ne_true] at q8 ⊢;exact again I8 q8
      | true=>
        rw [if_pos rfl] at q8 ⊢;refine thn (he _ _ _ _ _ s8 σ7 H8 _ I8 q8) λ xv s9 ⟨y,H9,I9,r9,hD,hl,n9⟩=> ?_;refine thn (FW _ s9 σ7 H9 (.ref s.heap.objs.size) [y] (.ref s.heap.objs.size) [xv] (λ _ H'=>H'=upd H9 s.heap.objs.size (.lst (ys++[y]))) I9 rfl (.cons r9 .nil) ⟨_,ys,y,rfl,rfl,hD,hl,rfl⟩) λ _ s10 ⟨_,H10,I10,_,q10⟩=> ?_;subst q10;exact again I10 n9
  exact codeAny_compStart_list loop (T.self _ 0 _ _ _ st3 loop)
theorem LK {elt tg iter:Expr} {ifs:List Expr} {scope:Scope} {pos:Pos} {own:List Str} {fr:List (Str × Nat)} {wi:TI} {g:TG} {tc:TT} {te:TE} (hc:X.calm=true) (S:BlkScope X scope own fr) (hi:PI X tg iter wi)
    (hg:∀ C ex s H,PG (Bc X scope own fr C ex s H) tg g) (ht:∀ C ex s H,PTs (Bc X scope own fr C ex s H) ifs tc) (he:∀ C ex s H,PE (Bc X scope own fr C ex s H) elt te)
    (hs:∀ x,foldedSetIterable iter X.env x=pure x:=by intro _;rfl):PE X (.ListComp elt [⟨tg,iter,ifs,0⟩] scope pos) (IP wi own fr g tc te):=by
  intro pins s σ H Q I h;rw [eval_ListComp];refine wpAny_comprehension_free (use:=none) rfl hs (CF (S.cells I.ok)) S.kind S.loc (thn (hi pins s σ H _ I h) λ xv s₁ h₁=>thn h₁ λ itv s₂ h₂=> ?_);obtain ⟨it,fp,tn,J,H2,rfl,I2,T,st2,f2,h2⟩:=h₂;refine JP (RR:=λ acc C=>compPost (model X.prog X.w) X.A X.xe none (EP X pins σ Q) acc C) hc S hg ht he I2 T st2 f2 h2 ?_;rintro D C H' s' I' ⟨m,hn⟩ f q;exact ⟨m,hn,λ h' sb=>⟨.ref D,H',I'.turned (t':=s'.toks) (it:=C) (λ b o hb e=>(sb.2 b hb).trans e) f.1 f.2.1 f.2.2.2.1 f.2.2.2.2.1 f.2.2.2.2.2,rfl,q⟩⟩
theorem Py {i:Nat} {x:Str} {px spos:Pos} {elt tg iter:Expr} {ifs:List Expr} {scope:Scope} {pos:Pos} {own:List Str} {fr:List (Str × Nat)} {wi:TI} {g:TG} {tc:TT} {te:TE} (hN:X.N.Nodup) (hix:X.N[i]?=some x) (hx:Loc X.env.scope x)
    (hc:X.calm=true) (S:BlkScope X scope own fr) (hi:PI X tg iter wi)
    (hg:∀ C ex s H,PG (Bc X scope own fr C ex s H) tg g) (ht:∀ C ex s H,PTs (Bc X scope own fr C ex s H) ifs tc) (he:∀ C ex s H,PE (Bc X scope own fr C ex s H) elt te)
    (hsw:swapsWith (.ListComp elt [⟨tg,iter,ifs,0⟩] scope pos) (some (.Name x px)) spos.line X.env=pure true:=by rfl)
    (hf:X.fn x=true\/X.env.scope.names.lookup x=some .local:=by first | exact .inl rfl | exact .inr rfl | assumption)
    (hs:∀ x,foldedSetIterable iter X.env x=pure x:=by intro _;rfl):PS X (.Assign [.Name x px] (.ListComp elt [⟨tg,iter,ifs,0⟩] scope pos) spos) (Mi (IP wi own fr g tc te) (AK i)):=by
  intro pins s σ H D I h;rw [exec_Assign_Name_used _ _ _ _ hsw];refine wpAny_bind (wpAny_standAt (wpAny_bind ?_));show wpAny _ X.A (do let _ <-comprehension (.ListComp elt [⟨tg,iter,ifs,0⟩] scope pos) scope X.env _ (newList []) false (eval iter X.env) (some (assign (.Name x px) X.env))) _ _ s;refine wpAny_bind (wpAny_mono (wpAny_comprehension_free (use:=some (assign (.Name x px) X.env)) (Q:=λ _ s'=>SP X pins D .next s') rfl hs (CF (S.cells I.ok)) S.kind S.loc
    (thn (hi pins s σ H _ I h) λ xv s₁ h₁=>thn h₁ λ itv s₂ h₂=> ?_)) (λ _ s' hq=>wpAny_pure (wpAny_pure hq)) λ _ _ e=>e)
  obtain ⟨it,fp,tn,J,H2,rfl,I2,T,st2,f2,h2⟩:=h₂;refine JP (Q:=λ x H1=>AK i x σ H1 D.nx) (RR:=λ acc C=>compPost (model X.prog X.w) X.A X.xe (some (assign (.Name x px) X.env)) (λ _ s'=>SP X pins D .next s') acc C) hc S hg ht he I2 T st2 f2 h2 ?_;rintro Dl C H' s' I' ⟨m,hn⟩ f q;obtain ⟨o,es,ep,ho,hd,r⟩:=hn;have pinC:∀ v,o.data≠ .cell v:=λ v z=>by rw [hd] at z;cases z
  have I'':Inv X (pins++[(C,o)]) σ H' s':=I'.pins_of λ p hp=>(List.mem_append.mp hp).elim (λ z=>I'.pin p (List.mem_append_right _ z)) λ z=>by
    have e:p=(C,o):=by simpa using z
    subst e;exact ⟨ho,f.1,f.2.1,f.2.2.1,pinC⟩
  show wpAny _ X.A (assign (.Name x px) X.env (.ref Dl)) _ _ s';refine wpAny_assign_Name (CJ I'' hN hix hx (v:= .ref Dl) rfl (λ s2 I2=> ?_) hf);have pc:=(I2.pin (C,o) (List.mem_append_right _ (List.mem_append_right _ (by simp)))).1;refine ⟨m,⟨o,es,ep,pc,hd,r⟩,λ h' sb=>⟨_,H',?_,q⟩⟩;exact (I2.unpinned (pl:=[(C,o)])).turned (t':=s2.toks) (it:=C) (λ b o hb e=>(sb.2 b hb).trans e) f.1 f.2.1 f.2.2.2.1 f.2.2.2.2.1 f.2.2.2.2.2
end
section
variable {X:Cx} {tg:Expr}
end
section
variable {X:Cx}
theorem F7:∀ {ns:List Int} {l:List (Int × Tok)},Vals (ns.map V.int) (l.map λ p=>Value.int p.1 p.2)->l.map (·.1)=ns
  | [],[],_=>rfl
  | n::ns,p::l,r=>by
    cases r with
    | cons r1 r2=>
      obtain ⟨t,e⟩:=r1;injection e with e1 e2;rw [List.map_cons,F7 r2,e1]
  | [],_::_,r=>by cases r
  | _::_,[],r=>by cases r
theorem Nz (hc:X.calm=true):BA X (.builtin "sum") (λ xs H Q=>∃ (p:Addr) (ns:List Int),xs=[.ref p]/\SqL X.K H p (ns.map V.int)/\Q (.int ns.sum) H):=by
  intro pins s σ H xs us Q I r h;obtain ⟨p,ns,rfl,hq,q⟩:=h;obtain ⟨u,rfl,rx⟩:=G9 r;cases rx;obtain ⟨its,rv,pl,_⟩:=I.list hq;obtain ⟨ps,e⟩:=(IntsAre.allInts (KT rv)).items;have e':its=ps.toList.map λ p=>Value.int p.1 p.2:=by
    have:=congrArg Array.toList e;simpa [intItems] using this
  have hl:=pl.isList;rw [e] at hl;refine sum_intListG (I.ok.hd hc) hl λ h' tk t' hk=> ?_;have es:preSum (numAt ps) ps.size=ns.sum:=by
    rw [preSum_eq,List.take_of_length_le (by simp),F7 (ns:=ns) (l:=ps.toList) (by rw [<-e'];exact rv)]
  rw [es];exact ⟨.int ns.sum,H,I.kept hk,⟨t',rfl⟩,q⟩
theorem MA (bs:List Bool):(List.range bs.length).all (λ i=>bs.getD i true)=bs.all id:=by
  rw [Bool.eq_iff_iff,List.all_eq_true,List.all_eq_true];constructor
  · intro h b hb;obtain ⟨i,hi,rfl⟩:=List.getElem_of_mem hb;have:=h i (by simpa using hi);rw [List.getD_eq_getElem?_getD,List.getElem?_eq_getElem hi] at this;exact this
  · intro h i hi;have hi:i<bs.length:=by simpa using hi
    rw [List.getD_eq_getElem?_getD,List.getElem?_eq_getElem hi];exact h _ (List.getElem_mem hi)
theorem Nl (hc:X.calm=true):BA X (.builtin "all") (λ xs H Q=>∃ (p:Addr) (bs:List Bool),xs=[.ref p]/\SqL X.K H p (bs.map V.bl)/\Q (.bl (bs.all id)) H):=by
  intro pins s σ H xs us Q I r h;obtain ⟨p,bs,rfl,hq,q⟩:=h;obtain ⟨u,rfl,rx⟩:=G9 r;cases rx;obtain ⟨its,rv,pl,_⟩:=I.list hq;have hl:=rv.length;rw [List.length_map] at hl;obtain ⟨o,ho,_⟩:=id pl.isList;have hne:p≠s.heap.objs.size:=Nat.ne_of_lt (Heap.lt_size ho);refine call_all_walk (wpAny_pyIter_list pl.isList ?_);refine ⟨s.heap.objs.size,_,_,_,_,_,λ i=>bs.getD i true,rfl,Walks.list (A:=X.A.in1) (I.ok.hd hc) _ p hne its.toArray,⟨⟨_,Heap.get?_push_size _ rfl,rfl,rfl⟩,pl.isList.at λ o e=>Heap.get?_push_of_some _ e⟩,?_,λ h' tk hk=> ?_⟩
  · intro i v s' Q' E' hv hQ';have hv:its[i]?=some v:=by simpa using hv
    have hi:i<bs.length:=by rw [hl];exact (List.getElem?_eq_some_iff.mp hv).1
    obtain ⟨u,hu,ru⟩:=rv.get (i:=i) (x:= .bl (bs.getD i true)) (by rw [List.getElem?_map,List.getD_eq_getElem?_getD,List.getElem?_eq_getElem hi];rfl);rw [hu] at hv;cases hv;cases ru;exact wpAny_truthy_bool hQ'
  · have e:its.toArray.size=bs.length:=by rw [List.size_toArray];exact hl.symm
    rw [e,MA];exact ⟨.bl _,H,I.kept λ b o e=>hk b o (λ z=>by simp at z;exact absurd (Heap.lt_size e) (by rw [z];exact Nat.lt_irrefl _)) (Heap.get?_push_of_some _ e),rfl,q⟩
theorem Kh:BA X (.builtin "isinstance") (λ xs H Q=>∃ x n t b,xs=[x, .ty n]/\TyOf X.K H x t/\PySem.W.kitOne X.K t (.type n)=some b/\Q (.bl b) H):=by
  intro pins s σ H xs us Q I r h;obtain ⟨x,n,t,b,rfl,ty,e,q⟩:=h;obtain ⟨u,c,rfl,rx,rc⟩:=Nw r;cases rc;exact Fz I rx ty e λ tk=>⟨.bl b,H,I.tok tk,rfl,q⟩
def M9 (K:PySem.W.Frag):R2:=λ x y H Q=>∃ l b xs zs,x= .ref l/\y= .ref b/\SqL K H l xs/\SqL K H b zs/\xs.length+zs.length<=sizeLine/\∀ p,H p=none->Q (.ref p) (upd H p (.lst (xs++zs)))
theorem Pj:OpR X (binaryOp .Add) (M9 X.K):=by
  intro pins s σ H x y v u Q I rx ry h;obtain ⟨l,b,xs,zs,rfl,rfl,hH,hB,hz,q⟩:=h;cases rx;cases ry;obtain ⟨its,r,pl,_⟩:=I.list hH;obtain ⟨its2,r2,pl2,_⟩:=I.list hB;have h1:=r.length;have h2:=r2.length;obtain ⟨⟨cls,dd,data,sl⟩,n,ho,hc,hdd,hd⟩:=pl;obtain ⟨⟨cls2,dd2,data2,sl2⟩,n2,ho2,hc2,hdd2,hd2⟩:=pl2;simp only at hc hdd hd hc2 hdd2 hd2;subst hc hdd hd hc2 hdd2 hd2;refine concat_meets ⟨_,ho,rfl⟩ ⟨_,ho2,rfl⟩ noFill_list_add seq_list_add PySem.F.slot_list_add PySem.F.entry_list_add (PySem.F.args_list_add_2 _ _) (list_addW l b its.toArray its2.toArray n n2 none none sl sl2 (by rw [List.size_toArray,List.size_toArray];omega)) ⟨ho,ho2,?_⟩;have e:its.toArray++its2.toArray=(its++its2).toArray:=by simp
  rw [e];exact ⟨.ref _,_,I.lnew (t':=s.toks) (r.append r2) (by rw [List.length_append];omega),rfl,q _ I.fresh⟩
noncomputable def EQ (xs ys:List V):Bool:=xs.length == ys.length&&(List.range xs.length).all λ i=>eqV (xs.getD i .non) (ys.getD i .non)
theorem IB {xs:List V} (h:xs.all Bf=true) {i:Nat} (hi:i<xs.length):Bf (xs.getD i .non)=true:=by
  rw [List.getD_eq_getElem?_getD,List.getElem?_eq_getElem hi];exact (List.all_eq_true.mp h) _ (List.getElem_mem hi)
def KL (K:PySem.W.Frag) (neg:Bool):R2:=λ x y H Q=>∃ p q xs ys,x= .ref p/\y= .ref q/\SqL K H p xs/\SqL K H q ys/\xs.all Bf=true/\ys.all Bf=true/\Q (.bl (if neg then !EQ xs ys else EQ xs ys)) H
theorem GL {A:Around} {s:Shared} {xs ys:List V} {its its2:List Value} (r:Vals xs its) (r2:Vals ys its2) (fx:xs.all Bf=true) (fy:ys.all Bf=true):
    ∀ j (h1:j<its.toArray.size) (h2:j<its2.toArray.size),SeqAt.EqAt A s its.toArray[j] its2.toArray[j] (eqV (xs.getD j .non) (ys.getD j .non)):=λ j h1 h2=>by
  have l1:=r.length;have l2:=r2.length;have h1':j<its.length:=by simpa using h1
  have h2':j<its2.length:=by simpa using h2
  have g1:xs[j]?=some (xs.getD j .non):=by rw [List.getD_eq_getElem?_getD,List.getElem?_eq_getElem (by omega)];rfl
  have g2:ys[j]?=some (ys.getD j .non):=by rw [List.getD_eq_getElem?_getD,List.getElem?_eq_getElem (by omega)];rfl
  obtain ⟨u,e1,ru⟩:=r.get g1;obtain ⟨u2,e2,ru2⟩:=r2.get g2;have q1:its.toArray[j]=u:=by rw [List.getElem?_eq_getElem h1'] at e1;simpa using Option.some.inj e1
  have q2:its2.toArray[j]=u2:=by rw [List.getElem?_eq_getElem h2'] at e2;simpa using Option.some.inj e2
  rw [q1,q2];exact MU ru ru2 (IB fx (by omega)) (IB fy (by omega))
theorem Ru (hu:X.A.units<cLine):OpR X (compareOp .Eq) (KL X.K false):=by
  intro pins s σ H x y v u Q I rx ry h;obtain ⟨p,q,xs,ys,rfl,rfl,h1,h2,fx,fy,hq⟩:=h;cases rx;cases ry;obtain ⟨its,r,pl,_⟩:=I.list h1;obtain ⟨its2,r2,pl2,_⟩:=I.list h2;have l1:=r.length;have l2:=r2.length;by_cases hl:xs.length=ys.length
  · refine SeqAt.eq_listAt pl.isList pl2.isList (by simp;omega) hu (GL r r2 fx fy) ⟨.bl _,H,I,rfl,?_⟩;have e:EQ xs ys=(List.range its.toArray.size).all λ i=>eqV (xs.getD i .non) (ys.getD i .non):=by
      unfold EQ;rw [hl,beq_self_eq_true,Bool.true_and,List.size_toArray, <-l1,hl]
    rw [<-e];exact hq
  · refine SeqAt.eq_list_lengthsAt pl.isList pl2.isList (by simp;omega) hu ⟨.bl _,H,I,rfl,?_⟩;have e:EQ xs ys=false:=by unfold EQ;rw [beq_eq_false_iff_ne.mpr hl,Bool.false_and]
    rw [<-e];exact hq
theorem Rc (hu:X.A.units<cLine):OpR X (compareOp .NotEq) (KL X.K true):=by
  intro pins s σ H x y v u Q I rx ry h;obtain ⟨p,q,xs,ys,rfl,rfl,h1,h2,fx,fy,hq⟩:=h;cases rx;cases ry;obtain ⟨its,r,pl,_⟩:=I.list h1;obtain ⟨its2,r2,pl2,_⟩:=I.list h2;have l1:=r.length;have l2:=r2.length;by_cases hl:xs.length=ys.length
  · refine SeqAt.RcNeAt.lists pl.isList pl2.isList (by simp;omega) hu (GL r r2 fx fy) _ _ _ _ ⟨.bl _,H,I,rfl,?_⟩;have e:EQ xs ys=(List.range its.toArray.size).all λ i=>eqV (xs.getD i .non) (ys.getD i .non):=by
      unfold EQ;rw [hl,beq_self_eq_true,Bool.true_and,List.size_toArray, <-l1,hl]
    rw [<-e];exact hq
  · refine SeqAt.RcNeAt.lists_lengths pl.isList pl2.isList (by simp;omega) hu _ _ _ _ ⟨.bl _,H,I,rfl,?_⟩;have e:EQ xs ys=false:=by unfold EQ;rw [beq_eq_false_iff_ne.mpr hl,Bool.false_and]
    rw [e] at hq;exact hq
theorem Pu {α:Type} [DecidableEq α] (f:α->V) (hf:∀ a b,eqV (f a) (f b)=decide (a=b)) (as bs:List α):EQ (as.map f) (bs.map f)=decide (as=bs):=by
  unfold EQ;rw [Bool.eq_iff_iff,Bool.and_eq_true,List.all_eq_true,decide_eq_true_iff,beq_iff_eq,List.length_map,List.length_map];constructor
  · rintro ⟨h1,h2⟩;refine List.ext_getElem h1 λ i g1 g2=> ?_;have:=h2 i (by simpa using g1);rw [List.getD_eq_getElem?_getD,List.getD_eq_getElem?_getD,List.getElem?_map,List.getElem?_map,List.getElem?_eq_getElem g1,List.getElem?_eq_getElem g2] at this;have:=(hf _ _).symm.trans this;exact of_decide_eq_true this
  · rintro rfl;refine ⟨rfl,λ i hi=> ?_⟩;have hi:i<as.length:=by simpa using hi
    rw [List.getD_eq_getElem?_getD,List.getElem?_map,List.getElem?_eq_getElem hi];show eqV (f as[i]) (f as[i])=true;rw [hf];exact decide_eq_true rfl
theorem MS (as bs:List Int):EQ (as.map V.int) (bs.map V.int)=decide (as=bs):=Pu V.int (λ a b=>by show (a == b)=_;rw [Bool.eq_iff_iff,beq_iff_eq,decide_eq_true_iff]) as bs
theorem JS (as:List Int):(as.map V.int).all Bf=true:=by simp [Bf]
end
def Aw (P:Program) (w:World) (K:PySem.W.Frag) (mg:Str->Option Value) (base:Heap) (x:Str) (k:Nat) (ps:List Str) (sp:Sp):Prop:=
  ∃ f fd,mg x=some (.ref f)/\PySem.W.keepIn K (.ref f)=true/\FnOk P w K mg base CX0 k f fd ps sp/\Binds K fd ps []
section
variable {X:Cx} {x:Str} {k:Nat} {ps:List Str} {sp:Sp} {e:Expr} {es:List Expr} {t:TA} {p pos:Pos}
theorem Ag (h:Aw X.prog X.w X.K X.mg X.base x k ps sp) (hr:Room k X.A) (ha:PA X (e::es) t) (hg:Gl X x:=by rfl) (hdb:(x == ("__debug__":Str))=false:=by decide)
    (he:starEach (e::es) X.env=(false,eval e X.env)::starEach es X.env:=by rfl) (hpl:(backTo pos (starEach es X.env)).any (·.1)=false:=by rfl):
    PE X (.Call (.Name x p) (e::es) [] pos) (Kk sp [] E0 t):=by
  obtain ⟨f,fd,hm,hk,F,hb⟩:=h;exact LA F hr hg hm hk hb .nil LC ha hdb he hpl
end
structure DefAt (K:PySem.W.Frag) (mg:Str->Option Value) (x:Str) (st:Stmt) (ps:List Str) (f:Addr) (fd:FuncData):Prop where
  fn:Fun K x x st f fd
  at':mg x=some (.ref f)
  bi:Binds K fd ps []
theorem DefAt.call {P:Program} {w:World} {K:PySem.W.Frag} {mg:Str->Option Value} {base:Heap} {x:Str} {st:Stmt} {ps:List Str} {f:Addr} {fd:FuncData} {k:Nat} {sp:Sp} (d:DefAt K mg x st ps f fd)
    (F:FnOk P w K mg base CX0 k f fd ps sp):Aw P w K mg base x k ps sp:=⟨f,fd,d.at',d.fn.kp,F,d.bi⟩
noncomputable def FP:V->Bool | .int _=>true | _=>false
noncomputable def Qo:V->Bool | .bl _=>true | _=>false
def Ty (K:PySem.W.Frag) (H:Hp) (x:V):Prop:=∃ n,TyOf K H x (.type n)
noncomputable def YJ (n T:String):Option Bool:=if (Value.type n == Value.type T)=true then some true else if PySem.W.kitMeta T=true then (fastBuiltinMro n).map (·.contains (.type T)) else none
section
variable {K:PySem.W.Frag} {H:Hp} {x:V} {n:String}
theorem kb {n T:String} {b:Bool} (h:YJ n T=some b):PySem.W.kitOne K (.type n) (.type T)=some b:=h
theorem Px (h:TyOf K H x (.type n)):PySem.W.kitOne K (.type n) (.type "int")=some (FP x||Qo x):=by
  cases h <;> first
    | exact (show PySem.W.kitOne K _ _=some true from kb (by decide +kernel))
    | exact (show PySem.W.kitOne K _ _=some false from kb (by decide +kernel))
theorem MV (h:TyOf K H x (.type n)):PySem.W.kitOne K (.type n) (.type "bool")=some (Qo x):=by
  cases h <;> first
    | exact (show PySem.W.kitOne K _ _=some true from kb (by decide +kernel))
    | exact (show PySem.W.kitOne K _ _=some false from kb (by decide +kernel))
end
section
variable {X:Cx}
def Own (mg:Str->Option Value) (names:List Str):Prop:=∀ x∈names,mg x=none
theorem CT:bootBuiltins "all"=some (.builtin "all"):=by decide +kernel
theorem EG {x:Str} {T:String} {pos:Pos} (hg:Gl X x) (hm:X.mg x=none) (hv:bootBuiltins x=some (.type T)) (hn:x≠"__name__":=by decide) (hd:(x == ("__debug__":Str))=false:=by decide):PE X (.Name x pos) (tC (.ty T)):=
  OI hg hm hv (show RelV (.ty T) (.type T) from rfl) hn hd
end
noncomputable def Gm (N:List Str) (scope:Scope):List (Str × Nat):=scope.names.filterMap λ y=>if y.2= .free then (N.findIdx? λ n=>decide (n=y.1)).map λ i=>(y.1,i) else none
noncomputable def Fu (sc:Scope) (N:List Str) (scope:Scope) (own:List Str) (fr:List (Str × Nat)):Bool:=
  decide (scope.kind= .function)&&
  (scope.names.all λ y=>decide (y.2≠ .cell)&&(decide (y.2≠ .local)||decide (scope.names.lookup y.1=some .local))&&
    (decide (y.2≠ .free)||((decide (sc.names.lookup y.1=some .cell)||decide (sc.names.lookup y.1=some .free))&&decide (scope.names.lookup y.1=some .free))))&&
  (fr.all λ p=>decide (N[p.2]?=some p.1)&&decide ((p.1,NameKind.free)∈scope.names))&&
  (own.all λ x=>decide (scope.names.lookup x=some .local))&&decide ((own++fr.map (·.1)).Nodup)
section
variable {X:Cx} {scope:Scope} {own:List Str} {fr:List (Str × Nat)}
theorem BlkScope.of (h:Fu X.env.scope X.N scope own fr=true):BlkScope X scope own fr:=by
  unfold Fu at h;simp only [Bool.and_eq_true,List.all_eq_true,decide_eq_true_iff,Bool.or_eq_true] at h;obtain ⟨⟨⟨⟨h1,h2⟩,h3⟩,h4⟩,h5⟩:=h;exact ⟨h1,λ y hy=>(h2 y hy).1.1,λ y hy e=>(h2 y hy).1.2.resolve_left (λ z=>z e),λ y hy e=>((h2 y hy).2.resolve_left (λ z=>z e)).1,λ p hp=>h3 p hp,λ x hx=>((h2 _ hx).2.resolve_left (λ z=>z rfl)).2⟩
theorem Mo (h:Fu X.env.scope X.N scope own fr=true):(∀ x∈own,scope.names.lookup x=some .local)/\(own++fr.map (·.1)).Nodup:=by
  unfold Fu at h;simp only [Bool.and_eq_true,List.all_eq_true,decide_eq_true_iff,Bool.or_eq_true] at h;exact ⟨h.1.2,h.2⟩
theorem Ja {i:Nat} {x:Str} {px:Pos} (h:Fu X.env.scope X.N scope own fr=true) (hi:own[i]?=some x) (C:Addr) (ex:List Addr) (s:Shared) (H:Hp):PG (Bc X scope own fr C ex s H) (.Name x px) (AK i):=by
  obtain ⟨h1,h2⟩:=Mo h;have hl:(relabel scope X.env).names.lookup x=some .local:=lookup_relabel_local (h1 x (List.mem_of_getElem? hi));have hlt:=(List.getElem?_eq_some_iff.mp hi).1;refine AO h2 ?_ (.inl hl) (.inr hl);show (own++fr.map (·.1))[i]?=some x;rw [List.getElem?_append_left hlt];exact hi
theorem Au {elt iter:Expr} {x:Str} {px:Pos} {ifs:List Expr} {pos:Pos} {wi:TI} {tc:TT} {te:TE} (hi:PI X (.Name x px) iter wi)
    (ht:∀ C ex s H,PTs (Bc X scope [x] (Gm X.N scope) C ex s H) ifs tc) (he:∀ C ex s H,PE (Bc X scope [x] (Gm X.N scope) C ex s H) elt te)
    (hb:Fu X.env.scope X.N scope [x] (Gm X.N scope)=true:=by with_unfolding_all rfl) (hc:X.calm=true:=by rfl)
    (hs:∀ x,foldedSetIterable iter X.env x=pure x:=by intro _;rfl):PE X (.ListComp elt [⟨.Name x px,iter,ifs,0⟩] scope pos) (IP wi [x] (Gm X.N scope) (AK 0) tc te):=
  LK hc (.of hb) hi (λ C ex s H=>Ja hb rfl C ex s H) ht he hs
theorem Cj {i:Nat} {y x:Str} {py px spos:Pos} {elt iter:Expr} {ifs:List Expr} {pos:Pos} {wi:TI} {tc:TT} {te:TE} (hN:X.N.Nodup) (hix:X.N[i]?=some y) (hx:Loc X.env.scope y) (hi:PI X (.Name x px) iter wi)
    (ht:∀ C ex s H,PTs (Bc X scope [x] (Gm X.N scope) C ex s H) ifs tc) (he:∀ C ex s H,PE (Bc X scope [x] (Gm X.N scope) C ex s H) elt te)
    (hb:Fu X.env.scope X.N scope [x] (Gm X.N scope)=true:=by with_unfolding_all rfl) (hc:X.calm=true:=by rfl)
    (hsw:swapsWith (.ListComp elt [⟨.Name x px,iter,ifs,0⟩] scope pos) (some (.Name y py)) spos.line X.env=pure true:=by rfl)
    (hf:X.fn y=true\/X.env.scope.names.lookup y=some .local:=by first | exact .inl rfl | exact .inr rfl | assumption)
    (hs:∀ x,foldedSetIterable iter X.env x=pure x:=by intro _;rfl):
    PS X (.Assign [.Name y py] (.ListComp elt [⟨.Name x px,iter,ifs,0⟩] scope pos) spos) (Mi (IP wi [x] (Gm X.N scope) (AK 0) tc te) (AK i)):=
  Py hN hix hx hc (.of hb) hi (λ C ex s H=>Ja hb rfl C ex s H) ht he hsw hf hs
end
def MC (K:PySem.W.Frag):List V->Hp->VK->Prop:=λ xs H Q=>∃ x n,xs=[x]/\US K x H n/\Q (.int n) H
def W0 (K:PySem.W.Frag):List V->Hp->VK->Prop:=λ xs H Q=>∃ (p:Addr) (ns:List Int),xs=[.ref p]/\SqL K H p (ns.map V.int)/\Q (.int ns.sum) H
def VW (K:PySem.W.Frag):List V->Hp->VK->Prop:=λ xs H Q=>∃ (p:Addr) (bs:List Bool),xs=[.ref p]/\SqL K H p (bs.map V.bl)/\Q (.bl (bs.all id)) H
def Qr (K:PySem.W.Frag):List V->Hp->VK->Prop:=λ xs H Q=>∃ x n t b,xs=[x, .ty n]/\TyOf K H x t/\PySem.W.kitOne K t (.type n)=some b/\Q (.bl b) H
def Lw (K:PySem.W.Frag):List V->Hp->VK->Prop:=λ xs H Q=>∃ p ys,xs=[.ref p]/\(SqL K H p ys\/SqT K H p ys)/\∀ l,H l=none->Q (.ref l) (upd H l (.lst ys))
def KB (K:PySem.W.Frag):List V->Hp->VK->Prop:=λ xs H Q=>∃ p ys,xs=[.ref p]/\((SqL K H p ys/\∀ l,H l=none->Q (.ref l) (upd H l (.tup ys)))\/(SqT K H p ys/\Q (.ref p) H))
section
variable {X:Cx} {K:PySem.W.Frag}
theorem Bd (hK:X.K=K:=by rfl):BA X (.builtin "len") (MC K):=by subst hK;exact NS
theorem Qh (hK:X.K=K:=by rfl) (hc:X.calm=true:=by rfl):BA X (.builtin "sum") (W0 K):=by subst hK;exact Nz hc
theorem JU (hK:X.K=K:=by rfl) (hc:X.calm=true:=by rfl):BA X (.builtin "all") (VW K):=by subst hK;exact Nl hc
theorem CY (hK:X.K=K:=by rfl):BA X (.builtin "isinstance") (Qr K):=by subst hK;exact Kh
theorem ET (hK:X.K=K:=by rfl):BA X (.type "list") (Lw K):=by subst hK;exact Jq
theorem Cr (hK:X.K=K:=by rfl):BA X (.type "tuple") (KB K):=by subst hK;exact HN
theorem Cl (hK:X.K=K:=by rfl):IxR X (M6 K):=by subst hK;exact Ph
theorem AE (hK:X.K=K:=by rfl):IxR X (Pr K):=by subst hK;exact Rj
theorem Pz (hK:X.K=K:=by rfl):OpR X (compareOp .In) (rIn K false):=by subst hK;exact Mg
theorem LS (hK:X.K=K:=by rfl):OpR X (compareOp .NotIn) (rIn K true):=by subst hK;exact JJ
theorem CQ (hK:X.K=K:=by rfl):OpR X (binaryOp .Add) (M9 K):=by subst hK;exact Pj
theorem P3 (hu:X.A.units<cLine) (hK:X.K=K:=by rfl):OpR X (compareOp .Eq) (KL K false):=by subst hK;exact Ru hu
theorem Qs (hu:X.A.units<cLine) (hK:X.K=K:=by rfl):OpR X (compareOp .NotEq) (KL K true):=by subst hK;exact Rc hu
theorem Qi (hK:X.K=K:=by rfl):SlR X (Qz K):=by subst hK;exact PN
theorem BC {tg l:Expr} {tl:TE} (hl:PE X l tl) (hK:X.K=K:=by rfl):PI X tg l (Od K tl):=by subst hK;exact Pi hl
theorem II {tg l:Expr} {tl:TE} (hl:PE X l tl) (hK:X.K=K:=by rfl):PI X tg l (QK K tl):=by subst hK;exact RE hl
end
section
variable {X:Cx} {pins:List (Addr × Obj)} {σ:St} {H:Hp} {s:Shared} {h':Heap}
theorem Inv.turnedL {t':Nat} (ch:List Addr) (I:Inv X pins σ H s) (hf:∀ b∈ch,DG X pins H b) (k:∀ b o,b∉ch->s.heap.get? b=some o->h'.get? b=some o):Inv X pins σ H { s with heap:=h',toks:=t' }:=by
  have nit:∀ b u,H b=some u->b∉ch:=λ b u e z=>by rw [(hf b z).1] at e;cases e
  refine I.step (g':=s.gens) (d':=s.drawn) (ch:=ch) (λ b hb=> ?_) (λ b o _ _ hc e _=>k b o hc e) (λ b o _ _ hc e _=>⟨o.slots,k b o hc e⟩) (λ _ _ _ _ n=>n)
    (λ b o hc e=>⟨o,k b o hc e⟩) (λ _ _ e=>e) (λ _ _ _ e=>e) (λ b ps e=>⟨#[],by rw [e];simp⟩) (λ m hm=> ?_) (λ b u e=> ?_) I.bare
  · obtain ⟨f0,f1,f2,f3,f4,f5⟩:=hf b hb;exact ⟨f3,f1,f4,f5⟩
  · obtain ⟨o,es,ep,ho,r⟩:=hm;exact ⟨o,es,ep,k _ o (λ z=>(hf _ z).2.1 rfl) ho,r⟩
  · refine (I.hok b u e).stay (λ c v hc q=>k c v ?_ q) (λ _ q=>q) λ _ _ q=>q;rcases hc with z | z
    · rw [z];exact nit b u e
    · exact nit c _ z
end
noncomputable def Ite (K:PySem.W.Frag) (a:Addr):It:=
  ⟨λ i H=>∃ xs x,SqL K H a xs/\xs[i]?=some x,λ i H v H'=>∃ p x,H p=none/\v= .ref p/\H'=upd H p (.tup [.int i,x])/\∀ xs,SqL K H a xs->xs[i]?=some x,λ i H=>∃ xs,SqL K H a xs/\xs.length<=i⟩
theorem K1 {X:Cx} {pins:List (Addr × Obj)} {H:Hp} {b p:Addr} {o:HO} (h:DG X pins H b) (n:b≠p):DG X pins (upd H p o) b:=⟨by rw [Aj n];exact h.1,h.2⟩
theorem My {P:Program} {w:World} {K:PySem.W.Frag} {elts:List Expr} {k:Nat} {pos:Pos} (a e it:Addr) (hne:e≠it):
    Turn P w K (.Tuple elts k pos) (Ite K a) [e,it] e (λ i h=>(∃ old,IsEnum h e it i old)/\h.IsListIter it a i) where
  mem:=by simp
  obj:=λ i h st b hb=>by
    obtain ⟨⟨old,he⟩,o,eo,c,d⟩:=st;rcases List.mem_cons.mp hb with z | z
    · subst z;exact ⟨_,he,λ v z=>by cases (show Data.fields _=Data.cell v from z)⟩
    · have z:b=it:=by simpa using z
      subst z;exact ⟨o,eo,λ v z=>by rw [d] at z;cases z⟩
  keep:=λ i h h' st kp=>by
    obtain ⟨⟨old,he⟩,hi⟩:=st;exact ⟨⟨old,kp e (by simp) _ he⟩,hi.at λ o z=>kp it (by simp) o z⟩
  item:=by
    intro X hP hw hK hc i pins s σ H E I hf st hg;subst hP hw hK;obtain ⟨xs,x,hq,hx⟩:=hg;obtain ⟨its,rv,p,hz⟩:=I.list hq;obtain ⟨u,hu,ru⟩:=rv.get hx;obtain ⟨⟨old,he⟩,hi⟩:=st;have hel:e<s.heap.objs.size:=Heap.lt_size he;have hil:it<s.heap.objs.size:=by obtain ⟨_,z,_⟩:=hi;exact Heap.lt_size z
    refine wpAny_pyNext_enum_item he hi p.isList (x:=u) (by simpa using hu) hne λ h' ho hi' hT hsz hk=> ?_;have I0:=I.laid (h':=s.heap.push { cls:= .type "tuple",data:= .seq #[.int i s.toks,u] }) (a:=s.heap.objs.size) (o:= .tup [.int i,x]) (t':=s.toks+1) (λ _ _ q=>Heap.get?_push_of_some _ q) (Nat.le_refl _)
      ⟨(by show 2<=sizeLine;decide),[.int i s.toks,u], .cons ⟨_,rfl⟩ (.cons ru .nil),⟨_,Heap.get?_push_size _ rfl,rfl,_,rfl⟩⟩
    have f0:∀ b∈[e,it],DG X pins (upd H s.heap.objs.size (.tup [.int i,x])) b:=λ b hb=>K1 (hf b hb) (by
      rcases List.mem_cons.mp hb with z | z
      · rw [z];exact Nat.ne_of_lt hel
      · rw [show b=it by simpa using z];exact Nat.ne_of_lt hil)
    have I1:=Inv.turnedL (t':=s.toks+1) (h':=h') [e,it] I0 f0 (λ b o hb z=>by
      have hb1:b≠e:=λ q=>hb (by simp [q]);have hb2:b≠it:=λ q=>hb (by simp [q]);rcases Heap.get?_push_cases (show (s.heap.push { cls:= .type "tuple",data:= .seq #[.int i s.toks,u] }).get? b=some o from z) with ⟨q1,q2⟩ | q
      · rw [q1,q2];exact hT
      · exact hk b o hb1 hb2 q)
    refine ⟨.ref s.heap.objs.size,rfl,wpAny_letOwnedTupleGo_enum (s:={ s with heap:=h',toks:=s.toks+1 }) ho λ h2 he2 sb=> ?_⟩;refine ⟨.ref s.heap.objs.size,_,Inv.turnedL (t':=s.toks+1) (h':=h2) [e,it] I1 f0 (λ b o hb z=>(sb.2 b λ q=>hb (by simp [q])).trans z),rfl,⟨_,x,I.fresh,rfl,rfl,λ ys hy=>by rw [I.list_inj hy hq];exact hx⟩,⟨⟨u,by simpa using he2⟩,hi'.at λ o z=>(sb.2 it hne.symm).trans z⟩,λ b hb=>(f0 b hb).1⟩
  done:=by
    intro X hP hw hK hc i pins s σ H E I hf st hg;subst hP hw hK;obtain ⟨xs,hq,hx⟩:=hg;obtain ⟨its,rv,p,hz⟩:=I.list hq;obtain ⟨⟨old,he⟩,hi⟩:=st;have hl:=rv.length;exact wpAny_pyNext_enum_end (I.ok.hd hc) he hi p.isList (by simp;omega) λ h' eb=>⟨rfl,I.turnedL (t':=s.toks) [e,it] hf λ b o hb z=>eb b o (λ q=>hb (by simp [q])) z⟩
  self:=λ _ _ _ _ _ st h=>by
    obtain ⟨⟨old,he⟩,_⟩:=st;exact wpAny_pyIter_enum he h
section
variable {X:Cx} {elts:List Expr} {k:Nat} {tpos:Pos} {K:PySem.W.Frag}
def Qb (K:PySem.W.Frag) (ta:TA):TI:=λ σ H R=>ta σ H λ vs H1=>∃ a,vs=[.ref a]/\(∃ xs,SqL K H1 a xs)/\R (Ite K a) H1
theorem IY:bootBuiltins "enumerate"=some (.type "enumerate"):=by decide +kernel
theorem On:bootBuiltins "zip"=some (.type "zip"):=by decide +kernel
theorem Gu {l:Expr} {ta:TA} {p pos:Pos} (hg:Gl X "enumerate") (hm:X.mg "enumerate"=none) (ha:PA X [l] ta) (hK:X.K=K:=by rfl) (hs:starEach [l] X.env=[(false,eval l X.env)]:=by rfl):PI X (.Tuple elts k tpos) (.Call (.Name "enumerate" p) [l] [] pos) (Qb K ta):=by
  subst hK;intro pins s σ H R I h;refine Call_ (CZ I hg hm IY (PyProof.Rows.callWith_type1 (thn (ha pos pins s σ H _ I h) λ us s1 ⟨vs,H1,I1,r1,q1⟩=> ?_) hs rfl));obtain ⟨a,e,⟨xs,hq⟩,q⟩:=q1;subst e;cases r1 with
  | cons r rr=>
    cases rr;cases r;obtain ⟨its,rv,pl,hz⟩:=I1.list hq;refine call_enumerate_list pl.isList λ h' he hi hsz hk=> ?_;refine wpAny_pyIter_enum he ?_;have I2:=I1.kept (t':=s1.toks) hk;refine ⟨s1.heap.objs.size+1,[s1.heap.objs.size+1,s1.heap.objs.size],_,_,H1,rfl,I2,My a _ _ (Nat.succ_ne_self _),⟨⟨_,he⟩,hi⟩,λ b hb=> ?_,q⟩;have hb':s1.heap.objs.size<=b:=by
      rcases List.mem_cons.mp hb with z | z
      · rw [z];exact Nat.le_succ _
      · have z:b=s1.heap.objs.size:=by simpa using z
        rw [z];exact Nat.le_refl _
    exact I1.fpOk hb' (I1.hok.fresh hb')
end
section
variable {X:Cx} {elts:List Expr} {k:Nat} {tpos:Pos} {K:PySem.W.Frag}
end
def Bu (tp:Bool) (h:Heap) (it l:Addr) (i:Nat):Prop:=if tp=true then h.IsTupleIter it l i else h.IsListIter it l i
def BD (tp:Bool) (h:Heap) (l:Addr) (xs:Array Value):Prop:=if tp=true then h.IsTuple l xs else h.IsList l xs
theorem AL {tp:Bool} {h h':Heap} {it l:Addr} {i:Nat} (x:Bu tp h it l i) (k:∀ o,h.get? it=some o->h'.get? it=some o):Bu tp h' it l i:=by
  cases tp with
  | false=>obtain ⟨o,e,r⟩:=(show h.IsListIter it l i from x);exact (show h'.IsListIter it l i from ⟨o,k o e,r⟩)
  | true=>obtain ⟨o,e,r⟩:=(show h.IsTupleIter it l i from x);exact (show h'.IsTupleIter it l i from ⟨o,k o e,r⟩)
theorem Cb {tp:Bool} {h h':Heap} {l:Addr} {xs:Array Value} (x:BD tp h l xs) (k:∀ o,h.get? l=some o->h'.get? l=some o):BD tp h' l xs:=by
  cases tp with
  | false=>obtain ⟨o,e,r⟩:=(show h.IsList l xs from x);exact (show h'.IsList l xs from ⟨o,k o e,r⟩)
  | true=>obtain ⟨o,e,r⟩:=(show h.IsTuple l xs from x);exact (show h'.IsTuple l xs from ⟨o,k o e,r⟩)
theorem Bv {tp:Bool} {h:Heap} {it l:Addr} {i:Nat} (x:Bu tp h it l i):∃ o,h.get? it=some o/\o.data= .fields #[.ref l, .int i 0]:=by
  cases tp with
  | false=>obtain ⟨o,e,_,d⟩:=(show h.IsListIter it l i from x);exact ⟨o,e,d⟩
  | true=>obtain ⟨o,e,_,d⟩:=(show h.IsTupleIter it l i from x);exact ⟨o,e,d⟩
theorem Ek {tp:Bool} {h:Heap} {l:Addr} {xs:Array Value} (x:BD tp h l xs):∃ o n,h.get? l=some o/\o.data= .seq xs n:=by
  cases tp with
  | false=>obtain ⟨o,e,_,n,d⟩:=(show h.IsList l xs from x);exact ⟨o,n,e,d⟩
  | true=>obtain ⟨o,e,_,n,d⟩:=(show h.IsTuple l xs from x);exact ⟨o,n,e,d⟩
section
variable {prog:Program} {w:World} {A:Around} {E:Value->Shared->Prop} {s:Shared}
theorem Ff {tp:Bool} {it l:Addr} {i:Nat} {xs:Array Value} {x:Value} {Q:Value->Shared->Prop} (ht:Bu tp s.heap it l i) (hq:BD tp s.heap l xs) (hx:xs[i]?=some x)
    (k:∀ h',Bu tp h' it l (i+1)->Heap.SameBut it s.heap h'->Q x { s with heap:=h' }):wpAny (model prog w) A (Builtin.SmallTypes.nextOf (.ref it)) Q E s:=by
  cases tp with
  | false=>exact wpAny_nextOf_list_item (show s.heap.IsListIter it l i from ht) (show s.heap.IsList l xs from hq) hx k
  | true=>
    have ht:s.heap.IsTupleIter it l i:=ht;obtain ⟨ob,eb,cb,db⟩:=id ht;obtain ⟨ol,el,_,nl,dl⟩:=(show s.heap.IsTuple l xs from hq);unfold Builtin.SmallTypes.nextOf;refine wpAny_bind (wpAny_callSpecial?_slot (name:=Str.ofString "__next__") ht.typeIs F.slot_tuple_iterator_next (wpAny_call_entry F.slot_tuple_iterator_next ht.typeIs F.entry_tuple_iterator_next ?_ (F.args_tuple_iterator_next_1 _)));show wpAny _ _ (field (.ref it) 0 >>= _) _ _ s;refine wpAny_bind (wpAny_field eb db (x:= .ref l) rfl ?_);show wpAny _ _ (if (Value.ref l == Value.none)=true then _ else _) _ _ s;rw [if_neg (show ¬ ((Value.ref l == Value.none)=true) from Bool.false_ne_true)];show wpAny _ _ (field (.ref it) 1 >>= _) _ _ s;refine wpAny_bind (wpAny_field eb db (x:= .int i 0) rfl ?_);show wpAny _ _ (seqItems? (.ref l) >>= _) _ _ s;refine wpAny_bind (wpAny_seqItems el dl ?_);simp only [Int.toNat_natCast,hx];refine wpAny_bind (wpAny_setField eb db (by simp) (wpAny_pure ⟨x,rfl,wpAny_pure (k _ ?_ (Heap.SameBut.update ..))⟩));exact (show Heap.IsTupleIter _ it l (i+1) from ⟨_,Heap.get?_update_self _ eb (Obj.isFreed_of_fields (Obj.data_mapFields db _)),(Obj.cls_mapFields ..).trans cb,by rw [Obj.data_mapFields db];simp [rawInt]⟩)
theorem Gr {tp:Bool} {it l:Addr} {i:Nat} {xs:Array Value} {Q:Value->Shared->Prop} (hh:A.handled=none) (ht:Bu tp s.heap it l i) (hq:BD tp s.heap l xs) (hx:xs[i]?=none)
    (k:∀ h' e,Heap.ExtBut it s.heap h'->(∃ o,h'.get? e=some o/\o.cls= .type "StopIteration")->E (.ref e) { s with heap:=h' }):wpAny (model prog w) A (Builtin.SmallTypes.nextOf (.ref it)) Q E s:=by
  cases tp with
  | false=>exact wpAny_nextOf_list_end hh (show s.heap.IsListIter it l i from ht) (show s.heap.IsList l xs from hq) hx k
  | true=>
    have ht:s.heap.IsTupleIter it l i:=ht;obtain ⟨ob,eb,cb,db⟩:=id ht;obtain ⟨ol,el,_,nl,dl⟩:=(show s.heap.IsTuple l xs from hq);unfold Builtin.SmallTypes.nextOf;refine wpAny_bind (wpAny_callSpecial?_slot (name:=Str.ofString "__next__") ht.typeIs F.slot_tuple_iterator_next (wpAny_call_entry F.slot_tuple_iterator_next ht.typeIs F.entry_tuple_iterator_next ?_ (F.args_tuple_iterator_next_1 _)));show wpAny _ _ (field (.ref it) 0 >>= _) _ _ s;refine wpAny_bind (wpAny_field eb db (x:= .ref l) rfl ?_);show wpAny _ _ (if (Value.ref l == Value.none)=true then _ else _) _ _ s;rw [if_neg (show ¬ ((Value.ref l == Value.none)=true) from Bool.false_ne_true)];show wpAny _ _ (field (.ref it) 1 >>= _) _ _ s;refine wpAny_bind (wpAny_field eb db (x:= .int i 0) rfl ?_);show wpAny _ _ (seqItems? (.ref l) >>= _) _ _ s;refine wpAny_bind (wpAny_seqItems el dl ?_);simp only [Int.toNat_natCast,hx];refine wpAny_bind (wpAny_rule (wpAny_bind (wpAny_setField eb db (by simp) ?_)));show wpAny _ _ (newExc (.type "StopIteration") [] >>= _) _ _ _;refine wpAny_bind ?_;simp only [newExc,newTuple];refine wpAny_bind (wpAny_newObj_type ?_ (by size_fits));refine wpAny_bind (m:=firstArgMember _ _) (wpAny_of_eq (a:=Value.none) (by first | rfl | (simp only [firstArgMember];rfl)) ?_);refine wpAny_newObj_type ?_ (by size_fits);simp only [raiseNew];refine wpAny_bind (wpAny_handled ?_)
    first | rw [show A.in1.handled=none from hh] | rw [hh]
    exact wpAny_bind (wpAny_pure (wpAny_throw (k _ _ (((Heap.SameBut.update ..).extBut.push _).push _) ⟨_,Heap.get?_push_size _ rfl,rfl⟩)))
end
section
variable {prog:Program} {w:World} {A:Around} {E:Value->Shared->Prop} {s:Shared}
structure ZipSt (t1 t2:Bool) (h:Heap) (z TI TO i1 i2 l1 l2:Addr) (k:Nat):Prop where
  hz:IsZip h z TI TO .none
  hTI:IsPair h TI (.ref i1) (.ref i2)
  hTO:∃ c d,IsPair h TO c d
  h1:Bu t1 h i1 l1 k
  h2:Bu t2 h i2 l2 k
theorem Ms {t1 t2:Bool} {z TI TO i1 i2 l1 l2:Addr} {k:Nat} {xs ys:Array Value} {x y:Value} {Q:Value->Shared->Prop} (D:ZipApart z TI TO i1 i2 l1 l2) (Z:ZipSt t1 t2 s.heap z TI TO i1 i2 l1 l2 k)
    (q1:BD t1 s.heap l1 xs) (q2:BD t2 s.heap l2 ys) (hx:xs[k]?=some x) (hy:ys[k]?=some y)
    (fin:∀ h',IsZip h' z TI TO (rawInt s.heap.objs.size)->IsPair h' TO x y->Bu t1 h' i1 l1 (k+1)->Bu t2 h' i2 l2 (k+1)->IsPair h' s.heap.objs.size x y->
      (∀ c o,c≠z->c≠TO->c≠i1->c≠i2->s.heap.get? c=some o->h'.get? c=some o)->Q (.ref s.heap.objs.size) { s with heap:=h' }):
    wpAny (model prog w) A (Builtin.«zip.__next__» ⟨[.ref z],[]⟩) (λ fin s'=>∃ v,fin= .done (.ret v)/\Q v s') E s:=by
  obtain ⟨hz,hTI,⟨c0,d0,hTO⟩,g1,g2⟩:=Z;show wpAny _ _ (field (.ref z) 2 >>= _) _ _ _;refine wpAny_bind (wpAny_field hz rfl (x:= .bool false) rfl ?_);show wpAny _ _ (field (.ref z) 3 >>= _) _ _ _;refine wpAny_bind (wpAny_field hz rfl (x:= .ref TI) rfl (wpAny_bind (wpAny_seqItems hTI rfl ?_)));show wpAny _ _ (Builtin.SmallTypes.ownedTupleIsFree (.ref z) >>= _) _ _ _;refine wpAny_bind ?_;unfold Builtin.SmallTypes.ownedTupleIsFree;refine wpAny_bind (wpAny_field hz rfl (x:= .none) rfl (wpAny_pure ?_));simp only [if_true];refine wpAny_bind (wpAny_rule (wpAny_bind (wpAny_field hz rfl (x:= .ref TO) rfl (wpAny_bind (wpAny_setField_rec hz (by simp) λ a1 za b1=> ?_)))));replace za:IsZip a1 z TI TO .ellipsis:=za;refine wpAny_bind ?_;simp only [List.zipIdx_cons,List.zipIdx_nil,List.forIn_cons,List.forIn_nil];refine wpAny_bind (wpAny_bind (wpAny_onRaise ?_));show wpAny _ _ (Builtin.SmallTypes.nextOf (.ref i1) >>= _) _ _ _;refine wpAny_bind (Ff (s:={ s with heap:=a1 }) (AL g1 λ o e=>b1.extBut _ o D.i1z e) (Cb q1 λ o e=>b1.extBut _ o D.l1z e) hx λ a2 i1a b2=>wpAny_pure ?_);have to2:IsPair a2 TO c0 d0:=b2.extBut _ _ D.TOi1 (b1.extBut _ _ D.TOz hTO);refine wpAny_bind (wpAny_seqItems to2 rfl (wpAny_bind (wpAny_updateSeq_pair to2 λ a3 to3 b3=> ?_)));replace to3:IsPair a3 TO x d0:=to3;refine wpAny_bind (wpAny_letGo (wpAny_pure (wpAny_bind (wpAny_bind (wpAny_onRaise ?_)))));show wpAny _ _ (Builtin.SmallTypes.nextOf (.ref i2) >>= _) _ _ _;have up3:∀ c o,c≠z->c≠i1->c≠TO->s.heap.get? c=some o->a3.get? c=some o:=λ c o n1 n2 n3 e=>b3.extBut _ o n3 (b2.extBut _ o n2 (b1.extBut _ o n1 e));refine wpAny_bind (Ff (s:={ s with heap:=a3 }) (AL g2 λ o e=>up3 _ o D.i2z D.i12.symm D.TOi2.symm e) (Cb q2 λ o e=>up3 _ o D.l2z D.l2i1 D.l2TO e) hy λ a4 i2a b4=>wpAny_pure ?_);have to4:IsPair a4 TO x d0:=b4.extBut _ _ D.TOi2 to3;refine wpAny_bind (wpAny_seqItems to4 rfl (wpAny_bind (wpAny_updateSeq_pair to4 λ a5 to5 b5=> ?_)));replace to5:IsPair a5 TO x y:=to5;refine wpAny_bind (wpAny_letGo (wpAny_pure (wpAny_pure (wpAny_bind (wpAny_seqItems to5 rfl (wpAny_bind (wpAny_newTuple ?_)))))));have sz:a5.objs.size=s.heap.objs.size:=by rw [b5.1,b4.1,b3.1,b2.1,b1.1]
  have z5:IsZip a5 z TI TO .ellipsis:=b5.extBut _ _ D.TOz.symm (b4.extBut _ _ D.i2z.symm (b3.extBut _ _ D.TOz.symm (b2.extBut _ _ D.i1z.symm za)));have k5:∀ c o,c≠z->c≠TO->c≠i1->c≠i2->s.heap.get? c=some o->a5.get? c=some o:=λ c o n1 n2 n3 n4 e=>b5.extBut _ _ n2 (b4.extBut _ _ n4 (up3 c o n1 n3 n2 e));have f1:Bu t1 a5 i1 l1 (k+1):=AL i1a λ o e=>b5.extBut _ o D.TOi1.symm (b4.extBut _ o D.i12 (b3.extBut _ o D.TOi1.symm e));have f2:Bu t2 a5 i2 l2 (k+1):=AL i2a λ o e=>b5.extBut _ o D.TOi2.symm e;have zlt:z<a5.objs.size:=Heap.lt_size z5;show wpAny _ _ (Builtin.SmallTypes.ownedTupleHandOut (.ref z) (.ref a5.objs.size) >>= _) _ _ _;refine wpAny_bind ?_;unfold Builtin.SmallTypes.ownedTupleHandOut;have z6:IsZip (a5.push { cls:= .type "tuple",data:= .seq #[x,y] }) z TI TO .ellipsis:=Heap.get?_push_of_some _ z5;refine wpAny_bind (wpAny_setField_rec z6 (by simp) λ a7 z7 b7=> ?_);replace z7:IsZip a7 z TI TO (rawInt a5.objs.size):=z7;refine wpAny_setField_rec z7 (by simp) λ a8 z8 b8=> ?_;replace z8:IsZip a8 z TI TO (rawInt a5.objs.size):=z8;have up:∀ c o,c≠z->a5.get? c=some o->a8.get? c=some o:=λ c o n e=>b8.extBut _ _ n (b7.extBut _ _ n (Heap.get?_push_of_some _ e));have t8:IsPair a8 a5.objs.size x y:=b8.extBut _ _ (Nat.ne_of_gt zlt) (b7.extBut _ _ (Nat.ne_of_gt zlt) (Heap.get?_push_size _ rfl));rw [sz] at z8 t8;refine wpAny_pure ⟨_,rfl,?_⟩;show Q (.ref a5.objs.size) _;rw [sz];exact fin a8 z8 (up _ _ D.TOz to5) (AL f1 λ o e=>up _ o D.i1z e) (AL f2 λ o e=>up _ o D.i2z e) t8 λ c o n1 n2 n3 n4 e=>up c o n1 (k5 c o n1 n2 n3 n4 e)
theorem Op {t1 t2:Bool} {z TI TO i1 i2 l1 l2:Addr} {k:Nat} {xs ys:Array Value} {Q:Fin->Shared->Prop} (hh:A.handled=none) (D:ZipApart z TI TO i1 i2 l1 l2) (Z:ZipSt t1 t2 s.heap z TI TO i1 i2 l1 l2 k)
    (q1:BD t1 s.heap l1 xs) (q2:BD t2 s.heap l2 ys) (hend:xs[k]?=none\/ys[k]?=none)
    (fin:∀ h' e,(∀ c o,c≠z->c≠TO->c≠i1->c≠i2->s.heap.get? c=some o->h'.get? c=some o)->(∃ o,h'.get? e=some o/\o.cls= .type "StopIteration")->E (.ref e) { s with heap:=h' }):
    wpAny (model prog w) A (Builtin.«zip.__next__» ⟨[.ref z],[]⟩) Q E s:=by
  obtain ⟨hz,hTI,⟨c0,d0,hTO⟩,g1,g2⟩:=Z;show wpAny _ _ (field (.ref z) 2 >>= _) _ _ _;refine wpAny_bind (wpAny_field hz rfl (x:= .bool false) rfl ?_);show wpAny _ _ (field (.ref z) 3 >>= _) _ _ _;refine wpAny_bind (wpAny_field hz rfl (x:= .ref TI) rfl (wpAny_bind (wpAny_seqItems hTI rfl ?_)));show wpAny _ _ (Builtin.SmallTypes.ownedTupleIsFree (.ref z) >>= _) _ _ _;refine wpAny_bind ?_;unfold Builtin.SmallTypes.ownedTupleIsFree;refine wpAny_bind (wpAny_field hz rfl (x:= .none) rfl (wpAny_pure ?_));simp only [if_true];refine wpAny_bind (wpAny_rule (wpAny_bind (wpAny_field hz rfl (x:= .ref TO) rfl (wpAny_bind (wpAny_setField_rec hz (by simp) λ a1 za b1=> ?_)))));replace za:IsZip a1 z TI TO .ellipsis:=za;refine wpAny_bind ?_;simp only [List.zipIdx_cons,List.zipIdx_nil,List.forIn_cons,List.forIn_nil];refine wpAny_bind (wpAny_bind (wpAny_onRaise ?_));show wpAny _ _ (Builtin.SmallTypes.nextOf (.ref i1) >>= _) _ _ _;have g1':=AL g1 λ o e=>b1.extBut _ o D.i1z e;have q1':=Cb q1 λ o e=>b1.extBut _ o D.l1z e;cases hx:xs[k]? with
  | none=>
    refine wpAny_bind (Gr (s:={ s with heap:=a1 }) hh g1' q1' hx λ a2 e b2 he=> ?_);obtain ⟨oe,eo,ce⟩:=he;have z2:IsZip a2 z TI TO .ellipsis:=b2 _ _ D.i1z.symm za;have nz:e≠z:=λ q=>by subst q;rw [z2] at eo;cases eo;simp at ce
    exact wpAny_setField_rec z2 (by simp) λ a3 _ b3=>fin a3 e (λ c o n1 _ n3 _ q=>b3.extBut _ _ n1 (b2 _ _ n3 (b1.extBut _ _ n1 q))) ⟨oe,b3.extBut _ _ nz eo,ce⟩
  | some x=>
    have hy:ys[k]?=none:=by
      rcases hend with q | q
      · rw [hx] at q;cases q
      · exact q
    refine wpAny_bind (Ff (s:={ s with heap:=a1 }) g1' q1' hx λ a2 i1a b2=>wpAny_pure ?_);have to2:IsPair a2 TO c0 d0:=b2.extBut _ _ D.TOi1 (b1.extBut _ _ D.TOz hTO);refine wpAny_bind (wpAny_seqItems to2 rfl (wpAny_bind (wpAny_updateSeq_pair to2 λ a3 to3 b3=> ?_)));refine wpAny_bind (wpAny_letGo (wpAny_pure (wpAny_bind (wpAny_bind (wpAny_onRaise ?_)))));show wpAny _ _ (Builtin.SmallTypes.nextOf (.ref i2) >>= _) _ _ _;have up3:∀ c o,c≠z->c≠i1->c≠TO->s.heap.get? c=some o->a3.get? c=some o:=λ c o n1 n2 n3 e=>b3.extBut _ o n3 (b2.extBut _ o n2 (b1.extBut _ o n1 e));refine wpAny_bind (Gr (s:={ s with heap:=a3 }) hh (AL g2 λ o e=>up3 _ o D.i2z D.i12.symm D.TOi2.symm e) (Cb q2 λ o e=>up3 _ o D.l2z D.l2i1 D.l2TO e) hy λ a4 e b4 he=> ?_);obtain ⟨oe,eo,ce⟩:=he;have z4:IsZip a4 z TI TO .ellipsis:=b4 _ _ D.i2z.symm (b3.extBut _ _ D.TOz.symm (b2.extBut _ _ D.i1z.symm za));have nz:e≠z:=λ q=>by subst q;rw [z4] at eo;cases eo;simp at ce
    exact wpAny_setField_rec z4 (by simp) λ a5 _ b5=>fin a5 e (λ c o n1 n2 n3 n4 q=>b5.extBut _ _ n1 (b4 _ _ n4 (up3 c o n1 n3 n2 q))) ⟨oe,b5.extBut _ _ nz eo,ce⟩
noncomputable def IN (tp:Bool):String:=if tp=true then "tuple_iterator" else "list_iterator"
theorem GV {tp:Bool} {l:Addr} {xs:Array Value} {Q:Value->Shared->Prop} (hq:BD tp s.heap l xs) (k:Q (.ref s.heap.objs.size) { s with heap:=s.heap.push { cls:= .type (IN tp),data:= .fields #[.ref l, .int 0 0] } }):
    wpAny (model prog w) A (pyIter (.ref l)) Q E s:=by
  cases tp with
  | false=>exact wpAny_pyIter_list (show s.heap.IsList l xs from hq) k
  | true=>exact wpAny_pyIter_tuple (show s.heap.IsTuple l xs from hq) k
theorem FJ {tp:Bool} {h:Heap} {l:Addr}:Bu tp (h.push { cls:= .type (IN tp),data:= .fields #[.ref l, .int 0 0] }) h.objs.size l 0:=by
  cases tp with
  | false=>exact (show Heap.IsListIter _ _ l 0 from ⟨_,Heap.get?_push_size _ rfl,rfl,rfl⟩)
  | true=>exact (show Heap.IsTupleIter _ _ l 0 from ⟨_,Heap.get?_push_size _ rfl,rfl,rfl⟩)
noncomputable abbrev zs1 (t1:Bool) (h:Heap) (l1:Addr):Heap:=h.push { cls:= .type (IN t1),data:= .fields #[.ref l1, .int 0 0] }
noncomputable abbrev zs2 (t1 t2:Bool) (h:Heap) (l1 l2:Addr):Heap:=(zs1 t1 h l1).push { cls:= .type (IN t2),data:= .fields #[.ref l2, .int 0 0] }
noncomputable abbrev zs3 (t1 t2:Bool) (h:Heap) (l1 l2:Addr):Heap:=(zs2 t1 t2 h l1 l2).push { cls:= .type "tuple",data:= .seq #[.ref h.objs.size, .ref (zs1 t1 h l1).objs.size] }
noncomputable abbrev zs4 (t1 t2:Bool) (h:Heap) (l1 l2:Addr):Heap:=(zs3 t1 t2 h l1 l2).push { cls:= .type "tuple",data:= .seq #[.none, .none] }
noncomputable abbrev zs5 (t1 t2:Bool) (h:Heap) (l1 l2:Addr):Heap:=(zs4 t1 t2 h l1 l2).push { cls:= .type "zip",data:= .fields #[.none, .bool false, .bool false, .ref (zs2 t1 t2 h l1 l2).objs.size, .ref (zs3 t1 t2 h l1 l2).objs.size] }
theorem KN (t1 t2:Bool) (l1 l2:Addr) (xs ys:Array Value):
    Meets (Builtin.«zip.__new__» ⟨[.type "zip", .ref l1, .ref l2],[]⟩) (λ _ R s=>BD t1 s.heap l1 xs/\BD t2 s.heap l2 ys/\
      R (.ok (.ret (.ref (zs4 t1 t2 s.heap l1 l2).objs.size))) { s with heap:=zs5 t1 t2 s.heap l1 l2 }):=
  .of_wp λ prog w A R s h=>by
    obtain ⟨hp,g,d,tk,os⟩:=s;obtain ⟨m1,m2,h⟩:=h;have hsub:=sub_zip;have M1:BD t1 (Shared.heap ⟨hp,g,d,tk,os⟩) l1 xs:=m1;have M2:BD t2 (Shared.heap ⟨hp.push { cls:= .type (IN t1),data:= .fields #[.ref l1, .int 0 0] },g,d,tk,os⟩) l2 ys:=Cb m2 λ o e=>Heap.get?_push_of_some _ e
    wp_walk using GV M1,GV M2
    exact ⟨_,rfl,h⟩
theorem Mz {t1 t2:Bool} {l1 l2:Addr} {xs ys:Array Value} {Q:Value->Shared->Prop} (m1:BD t1 s.heap l1 xs) (m2:BD t2 s.heap l2 ys)
    (k:∀ h',ZipSt t1 t2 h' (s.heap.objs.size+4) (s.heap.objs.size+2) (s.heap.objs.size+3) s.heap.objs.size (s.heap.objs.size+1) l1 l2 0->
      (∀ c o,s.heap.get? c=some o->h'.get? c=some o)->Q (.ref (s.heap.objs.size+4)) { s with heap:=h' }):
    wpAny (model prog w) A (call (.type "zip") [.ref l1, .ref l2]) Q E s:=by
  refine callType_new F.called_zip (by decide) (F.typeCall_zip_2 _ _) (F.newCall_zip_2 _ _) (λ obj=>F.args_object_init_3 obj _ _) F.entry_zip_new (KN t1 t2 l1 l2 xs ys) ⟨m1,m2,?_⟩;have n1:(zs1 t1 s.heap l1).objs.size=s.heap.objs.size+1:=Heap.size_push ..;have n2:(zs2 t1 t2 s.heap l1 l2).objs.size=s.heap.objs.size+2:=by rw [Heap.size_push,n1]
  have n3:(zs3 t1 t2 s.heap l1 l2).objs.size=s.heap.objs.size+3:=by rw [Heap.size_push,n2]
  have n4:(zs4 t1 t2 s.heap l1 l2).objs.size=s.heap.objs.size+4:=by rw [Heap.size_push,n3]
  have g5:(zs5 t1 t2 s.heap l1 l2).get? (zs4 t1 t2 s.heap l1 l2).objs.size=some _:=Heap.get?_push_size _ rfl;have g4:(zs5 t1 t2 s.heap l1 l2).get? (zs3 t1 t2 s.heap l1 l2).objs.size=some _:=Heap.get?_push_of_some _ (Heap.get?_push_size _ rfl);have g3:(zs5 t1 t2 s.heap l1 l2).get? (zs2 t1 t2 s.heap l1 l2).objs.size=some _:=Heap.get?_push_of_some _ (Heap.get?_push_of_some _ (Heap.get?_push_size _ rfl));have up2:∀ c o,(zs2 t1 t2 s.heap l1 l2).get? c=some o->(zs5 t1 t2 s.heap l1 l2).get? c=some o:=λ c o e=>Heap.get?_push_of_some _ (Heap.get?_push_of_some _ (Heap.get?_push_of_some _ e));have s2:Bu t2 (zs5 t1 t2 s.heap l1 l2) (zs1 t1 s.heap l1).objs.size l2 0:=AL FJ λ o e=>up2 _ o e;have s1:Bu t1 (zs5 t1 t2 s.heap l1 l2) s.heap.objs.size l1 0:=AL FJ λ o e=>up2 _ o (Heap.get?_push_of_some _ e);show _/\_;rw [n2,n3,n4] at g5;rw [n1,n2] at g3;rw [n3] at g4;rw [n1] at s2;rw [n4];exact ⟨⟨_,g5,rfl⟩,k _ ⟨g5,g3,⟨_,_,g4⟩,s1,s2⟩ λ c o e=>up2 c o (Heap.get?_push_of_some _ (Heap.get?_push_of_some _ e))⟩
end
def SqS (tp:Bool) (K:PySem.W.Frag) (H:Hp) (a:Addr) (xs:List V):Prop:=if tp=true then SqT K H a xs else SqL K H a xs
theorem B7 {X:Cx} {pins:List (Addr × Obj)} {σ:St} {H:Hp} {s:Shared} {tp:Bool} {a:Addr} {xs:List V} (I:Inv X pins σ H s) (h:SqS tp X.K H a xs):∃ its:List Value,Vals xs its/\BD tp s.heap a its.toArray:=by
  cases tp with
  | false=>
    obtain ⟨its,r,p,_⟩:=I.list (show SqL X.K H a xs from h);exact ⟨its,r,(show s.heap.IsList a its.toArray from p.isList)⟩
  | true=>
    obtain ⟨its,r,p,_⟩:=I.tuple (show SqT X.K H a xs from h);exact ⟨its,r,(show s.heap.IsTuple a its.toArray from p)⟩
theorem Jp {X:Cx} {pins:List (Addr × Obj)} {σ:St} {H:Hp} {s:Shared} {tp:Bool} {a:Addr} {xs ys:List V} (I:Inv X pins σ H s) (h:SqS tp X.K H a xs) (h2:SqS tp X.K H a ys):xs=ys:=by
  cases tp with
  | false=>exact I.list_inj h h2
  | true=>exact I.tuple_inj h h2
noncomputable def Izs (t1 t2:Bool) (K:PySem.W.Frag) (a b:Addr):It:=
  ⟨λ i H=>∃ xs ys x y,SqS t1 K H a xs/\SqS t2 K H b ys/\xs[i]?=some x/\ys[i]?=some y,
   λ i H v H'=>∃ p x y,H p=none/\v= .ref p/\H'=upd H p (.tup [x,y])/\(∀ xs,SqS t1 K H a xs->xs[i]?=some x)/\∀ ys,SqS t2 K H b ys->ys[i]?=some y,
   λ i H=>∃ xs ys,SqS t1 K H a xs/\SqS t2 K H b ys/\(xs.length<=i\/ys.length<=i)⟩
theorem PD {P:Program} {w:World} {K:PySem.W.Frag} {elts:List Expr} {k:Nat} {pos:Pos} (t1 t2:Bool) (a b z TI TO i1 i2:Addr) (D:ZipApart z TI TO i1 i2 a b):
    Turn P w K (.Tuple elts k pos) (Izs t1 t2 K a b) [z,TI,TO,i1,i2] z (λ i h=>ZipSt t1 t2 h z TI TO i1 i2 a b i) where
  mem:=by simp
  obj:=λ i h st c hc=>by
    obtain ⟨hz,hTI,⟨x,y,hTO⟩,h1,h2⟩:=st;obtain ⟨o1,e1,d1⟩:=Bv h1;obtain ⟨o2,e2,d2⟩:=Bv h2;simp only [List.mem_cons,List.not_mem_nil,or_false] at hc;rcases hc with q | q | q | q | q
    · subst q;exact ⟨_,hz,λ v z=>by cases (show Data.fields _=Data.cell v from z)⟩
    · subst q;exact ⟨_,hTI,λ v z=>by cases (show Data.seq _ _=Data.cell v from z)⟩
    · subst q;exact ⟨_,hTO,λ v z=>by cases (show Data.seq _ _=Data.cell v from z)⟩
    · subst q;exact ⟨o1,e1,λ v z=>by rw [d1] at z;cases z⟩
    · subst q;exact ⟨o2,e2,λ v z=>by rw [d2] at z;cases z⟩
  keep:=λ i h h' st kp=>by
    obtain ⟨hz,hTI,⟨x,y,hTO⟩,h1,h2⟩:=st;exact ⟨kp z (by simp) _ hz,kp TI (by simp) _ hTI,⟨x,y,kp TO (by simp) _ hTO⟩,AL h1 λ o q=>kp i1 (by simp) o q,AL h2 λ o q=>kp i2 (by simp) o q⟩
  item:=by
    intro X hP hw hK hc i pins s σ H E I hf st hg;subst hP hw hK;obtain ⟨xs,ys,x,y,hq1,hq2,hx,hy⟩:=hg;obtain ⟨its,rv,p1⟩:=B7 I hq1;obtain ⟨its2,rv2,p2⟩:=B7 I hq2;obtain ⟨u,hu,ru⟩:=rv.get hx;obtain ⟨u2,hu2,ru2⟩:=rv2.get hy;have lt:∀ q∈[z,TI,TO,i1,i2],q<s.heap.objs.size:=λ q hq=>by
      obtain ⟨hz,hTI,⟨c,d,hTO⟩,h1,h2⟩:=id st;obtain ⟨_,e1,_⟩:=Bv h1;obtain ⟨_,e2,_⟩:=Bv h2;simp only [List.mem_cons,List.not_mem_nil,or_false] at hq;rcases hq with q' | q' | q' | q' | q'
      · subst q';exact Heap.lt_size hz
      · subst q';exact Heap.lt_size hTI
      · subst q';exact Heap.lt_size hTO
      · subst q';exact Heap.lt_size e1
      · subst q';exact Heap.lt_size e2
    have hT0:s.TypeIs (.ref z) "zip":=⟨_,st.hz,rfl⟩;unfold pyNext;refine wpAny_bind (wpAny_attempt (wpAny_callSpecial?_slot (name:=Str.ofString "__next__") hT0 F.slot_zip_next (wpAny_call_entry F.slot_zip_next hT0 F.entry_zip_next
      (Ms D st p1 p2 (x:=u) (y:=u2) (by simpa using hu) (by simpa using hu2) λ h' hz' hTO' h1' h2' hT hk=>wpAny_pure ?_) (F.args_zip_next_1 _))))
    have I0:=I.laid (h':=s.heap.push { cls:= .type "tuple",data:= .seq #[u,u2] }) (a:=s.heap.objs.size) (o:= .tup [x,y]) (t':=s.toks) (λ _ _ q=>Heap.get?_push_of_some _ q) (Nat.le_refl _)
      ⟨(by show 2<=sizeLine;decide),[u,u2], .cons ru (.cons ru2 .nil),⟨_,Heap.get?_push_size _ rfl,rfl,_,rfl⟩⟩
    have f0:∀ b∈[z,TI,TO,i1,i2],DG X pins (upd H s.heap.objs.size (.tup [x,y])) b:=λ b hb=>K1 (hf b hb) (Nat.ne_of_lt (lt b hb));have I1:=Inv.turnedL (t':=s.toks) (h':=h') [z,TI,TO,i1,i2] I0 f0 (λ b o hb q=>by
      rcases Heap.get?_push_cases (show (s.heap.push { cls:= .type "tuple",data:= .seq #[u,u2] }).get? b=some o from q) with ⟨q1,q2⟩ | q
      · rw [q1,q2];exact hT
      · exact hk b o (λ e=>hb (by simp [e])) (λ e=>hb (by simp [e])) (λ e=>hb (by simp [e])) (λ e=>hb (by simp [e])) q)
    refine ⟨.ref s.heap.objs.size,rfl,wpAny_letOwnedTupleGo_zip (s:={ s with heap:=h' }) hz' λ h3 hz3 sb=> ?_⟩;refine ⟨.ref s.heap.objs.size,_,Inv.turnedL (t':=s.toks) (h':=h3) [z,TI,TO,i1,i2] I1 f0 (λ b o hb q=>(sb.2 b λ e=>hb (by simp [e])).trans q),rfl,
      ⟨_,x,y,I.fresh,rfl,rfl,λ l hl=>by rw [Jp I hl hq1];exact hx,λ l hl=>by rw [Jp I hl hq2];exact hy⟩,
      ⟨hz3,(sb.2 TI D.TIz).trans (hk TI _ D.TIz D.TITO D.TIi1 D.TIi2 st.hTI),⟨u,u2,(sb.2 TO D.TOz).trans hTO'⟩,AL h1' λ o q=>(sb.2 i1 D.i1z).trans q,AL h2' λ o q=>(sb.2 i2 D.i2z).trans q⟩,λ b hb=>(f0 b hb).1⟩
  done:=by
    intro X hP hw hK hc i pins s σ H E I hf st hg;subst hP hw hK;obtain ⟨xs,ys,hq1,hq2,hx⟩:=hg;obtain ⟨its,rv,p1⟩:=B7 I hq1;obtain ⟨its2,rv2,p2⟩:=B7 I hq2;have hl:=rv.length;have hl2:=rv2.length;have hT0:s.TypeIs (.ref z) "zip":=⟨_,st.hz,rfl⟩;unfold pyNext;refine wpAny_bind (wpAny_attempt (wpAny_callSpecial?_slot (name:=Str.ofString "__next__") hT0 F.slot_zip_next (wpAny_call_entry F.slot_zip_next hT0 F.entry_zip_next
      (Op (I.ok.hd hc) D st p1 p2 (hx.elim (λ q=> .inl (by simp;omega)) λ q=> .inr (by simp;omega)) λ h' e eb he=> ?_) (F.args_zip_next_1 _))))
    obtain ⟨oe,eo,ce⟩:=he;refine wpAny_bind (wpAny_isInstance (T:="StopIteration") (b:=true) ⟨oe,eo,ce⟩ isSubtype_stop (wpAny_pure ?_));exact ⟨rfl,I.turnedL (t':=s.toks) [z,TI,TO,i1,i2] hf λ b o hb q=>eb b o (λ e=>hb (by simp [e])) (λ e=>hb (by simp [e])) (λ e=>hb (by simp [e])) (λ e=>hb (by simp [e])) q⟩
  self:=λ _ _ _ _ _ st h=>wpAny_pyIter_zip st.hz h
section
variable {X:Cx} {elts:List Expr} {k:Nat} {tpos:Pos} {K:PySem.W.Frag}
def iZs (K:PySem.W.Frag) (ta:TA):TI:=λ σ H R=>ta σ H λ vs H1=>∃ t1 t2 a b,vs=[.ref a, .ref b]/\(∃ xs,SqS t1 K H1 a xs)/\(∃ ys,SqS t2 K H1 b ys)/\R (Izs t1 t2 K a b) H1
theorem SC {l m:Expr} {ta:TA} {p pos:Pos} (hg:Gl X "zip") (hm:X.mg "zip"=none) (ha:PA X [l,m] ta) (hK:X.K=K:=by rfl) (hs:starEach [l,m] X.env=[(false,eval l X.env),(false,eval m X.env)]:=by rfl) (hs2:starEach [m] X.env=[(false,eval m X.env)]:=by rfl):
    PI X (.Tuple elts k tpos) (.Call (.Name "zip" p) [l,m] [] pos) (iZs K ta):=by
  subst hK;intro pins s σ H R I h;refine Call_ (CZ I hg hm On (PyProof.Rows.callWith_type1 (thn (ha pos pins s σ H _ I h) λ us s1 ⟨vs,H1,I1,r1,q1⟩=> ?_) (by rw [hs,hs2]) (by rw [hs2];rfl)));obtain ⟨t1,t2,a,b,e,⟨xs,hq⟩,⟨ys,hq2⟩,q⟩:=q1;subst e;cases r1 with
  | cons r rr=>
    cases rr with
    | cons r' rr=>
    cases rr;cases r;cases r';obtain ⟨its,rv,pl⟩:=B7 I1 hq;obtain ⟨its2,rv2,pl2⟩:=B7 I1 hq2;obtain ⟨oa,_,ea,_⟩:=Ek pl;obtain ⟨ob,_,eb,_⟩:=Ek pl2;refine Mz pl pl2 λ h' st hk=> ?_;refine wpAny_pyIter_zip st.hz ?_;have I2:=I1.kept (t':=s1.toks) hk;refine ⟨s1.heap.objs.size+4,_,_,_,H1,rfl,I2,PD t1 t2 a b _ _ _ _ _ (PySem.W.ktu_apart s1.heap.objs.size a b (Heap.lt_size ea) (Heap.lt_size eb)),st,λ c hc=> ?_,q⟩;have hb':s1.heap.objs.size<=c:=by
      simp only [List.mem_cons,List.not_mem_nil,or_false] at hc;rcases hc with q | q | q | q | q <;> rw [q] <;> first | exact Nat.le_refl _ | exact Nat.le_add_right _ _
    exact I1.fpOk hb' (I1.hok.fresh hb')
end
section
variable {X:Cx} {K:PySem.W.Frag}
theorem A6:bootBuiltins "list"=some (.type "list"):=by decide +kernel
theorem A0:bootBuiltins "tuple"=some (.type "tuple"):=by decide +kernel
theorem GG {es:List Expr} {k:Nat} {t:TGs} {n:Nat} {pos:Pos} (hc:X.calm=true) (h:PGs X es t) (hK:X.K=K:=by rfl)
    (hn:(assignEach es X.env).length=n:=by rfl) (hst:(assignEach es X.env).findIdx? (·.1)=none:=by rfl):PG X (.Tuple es k pos) (GW K n t):=by
  subst hK;exact NO hc h hn hst
variable {scope:Scope} {fr:List (Str × Nat)}
theorem Pn {x y:Str} {px py pt:Pos} {k:Nat} (h:Fu X.env.scope X.N scope [x,y] fr=true) (hc:X.calm=true) (C:Addr) (ex:List Addr) (s:Shared) (H:Hp) (hK:X.K=K:=by rfl):
    PG (Bc X scope [x,y] fr C ex s H) (.Tuple [.Name x px, .Name y py] k pt) (GW K 2 (BB (AK 0) (BB (AK 1) HS))):=by
  subst hK;exact NO (X:=Bc X scope [x,y] fr C ex s H) hc (A2 (Ja h rfl C ex s H) (A2 (Ja h rfl C ex s H) En))
theorem Fw {elt iter:Expr} {x y:Str} {px py pt:Pos} {k:Nat} {ifs:List Expr} {pos:Pos} {wi:TI} {tc:TT} {te:TE} (hi:PI X (.Tuple [.Name x px, .Name y py] k pt) iter wi)
    (ht:∀ C ex s H,PTs (Bc X scope [x,y] (Gm X.N scope) C ex s H) ifs tc) (he:∀ C ex s H,PE (Bc X scope [x,y] (Gm X.N scope) C ex s H) elt te) (hK:X.K=K:=by rfl)
    (hb:Fu X.env.scope X.N scope [x,y] (Gm X.N scope)=true:=by with_unfolding_all rfl) (hc:X.calm=true:=by rfl)
    (hs:∀ x,foldedSetIterable iter X.env x=pure x:=by intro _;rfl):PE X (.ListComp elt [⟨.Tuple [.Name x px, .Name y py] k pt,iter,ifs,0⟩] scope pos) (IP wi [x,y] (Gm X.N scope) (GW K 2 (BB (AK 0) (BB (AK 1) HS))) tc te):=
  LK hc (.of hb) hi (λ C ex s H=>Pn hb hc C ex s H hK) ht he hs
end
section
variable {K:PySem.W.Frag} {D:Addr} {σ0:St} {tc:TT} {te:TE} {Q:VK} {H:Hp}
end
inductive Dt where
  | non | bl (b:Bool) | int (i:Int) | str (z:Str) | lst (xs:List Dt) | tup (xs:List Dt)
inductive Rp (H:Hp) (F:Addr->Prop):Nat->V->Dt->Prop where
  | non {n:Nat}:Rp H F n .non .non
  | bl {n:Nat} (b:Bool):Rp H F n (.bl b) (.bl b)
  | int {n:Nat} (i:Int):Rp H F n (.int i) (.int i)
  | str {n:Nat} (z:Str):Rp H F n (.str z) (.str z)
  | lst {n:Nat} {a:Addr} {vs:List V} {ds:List Dt} (h:H a=some (.lst vs)) (f:F a) (b:vs.length<=100000) (l:vs.length=ds.length) (e:∀ (i:Nat) (v:V) (d:Dt),vs[i]?=some v->ds[i]?=some d->Rp H F n v d):Rp H F (n+1) (.ref a) (.lst ds)
  | tup {n:Nat} {a:Addr} {vs:List V} {ds:List Dt} (h:H a=some (.tup vs)) (b:vs.length<=100000) (l:vs.length=ds.length) (e:∀ (i:Nat) (v:V) (d:Dt),vs[i]?=some v->ds[i]?=some d->Rp H F n v d):Rp H F (n+1) (.ref a) (.tup ds)
theorem Rp.mono {H H':Hp} {F F':Addr->Prop} {n:Nat} {v:V} {d:Dt} (r:Rp H F n v d) (k:∀ a o,H a=some o->(∀ xs,o= .lst xs->F a)->H' a=some o) (f:∀ a,F a->F' a):Rp H' F' n v d:=by
  induction r with
  | non=>exact .non
  | bl b=>exact .bl b
  | int i=>exact .int i
  | str z=>exact .str z
  | lst h p b l e ih=>exact .lst (k _ _ h λ _ _=>p) (f _ p) b l λ i v d h1 h2=>ih i v d h1 h2
  | tup h b l e ih=>exact .tup (k _ _ h λ xs q=>by cases q) b l λ i v d h1 h2=>ih i v d h1 h2
theorem Rp.same {H H':Hp} {F:Addr->Prop} {n:Nat} {v:V} {d:Dt} (r:Rp H F n v d) (s:Same H H'):Rp H' F n v d:=r.mono (λ a o h _=>s a o h) λ _ h=>h
theorem Rp.imp {H:Hp} {F F':Addr->Prop} {n:Nat} {v:V} {d:Dt} (r:Rp H F n v d) (f:∀ a,F a->F' a):Rp H F' n v d:=r.mono (λ a o h _=>h) f
theorem Rp.up {H:Hp} {F:Addr->Prop} {n m:Nat} {v:V} {d:Dt} (r:Rp H F n v d) (h:n<=m):Rp H F m v d:=by
  induction r generalizing m with
  | non=>exact .non
  | bl b=>exact .bl b
  | int i=>exact .int i
  | str z=>exact .str z
  | lst h p b l e ih=>
    cases m with
    | zero=>exact absurd h (by omega)
    | succ m=>exact .lst ‹_› p b l λ i v d h1 h2=>ih i v d h1 h2 (by omega)
  | tup h b l e ih=>
    cases m with
    | zero=>exact absurd h (by omega)
    | succ m=>exact .tup ‹_› b l λ i v d h1 h2=>ih i v d h1 h2 (by omega)
abbrev FT:Addr->Prop:=λ _=>True
abbrev FN (H:Hp):Addr->Prop:=λ a=>H a=none
theorem Rp.any {H:Hp} {F:Addr->Prop} {n:Nat} {v:V} {d:Dt} (r:Rp H F n v d):Rp H FT n v d:=r.imp λ _ _=>trivial
theorem Rp.new {H:Hp} {F:Addr->Prop} {n:Nat} {v:V} {d:Dt} {p:Addr} {o:HO} (r:Rp H F n v d) (h:H p=none):Rp (L2.upd H p o) F n v d:=r.same λ b u e=>by rw [Aj (Av e h)];exact e
noncomputable def Qd (ns:List Int):Dt:= .lst (ns.map .int)
theorem LH {H:Hp} {F:Addr->Prop} {n:Nat} {v:V} {ns:List Int} (r:Rp H F n v (Qd ns)):∃ a,v= .ref a/\H a=some (.lst (ns.map V.int))/\F a:=by
  unfold Qd at r;cases r with
  | @lst n a vs _ h f b l e=>
    refine ⟨a,rfl,?_,f⟩;rw [h];congr 2;refine List.ext_getElem (by simpa using l) λ i h1 h2=> ?_;have h2':i<ns.length:=by simpa using h2
    have:=e i vs[i] (.int ns[i]) (by simp [h1]) (by simp [h2']);cases hv:vs[i] <;> rw [hv] at this <;> cases this;simp
section
variable {t u:TS} {D:Ends} {σ:St} {H:Hp} {te ta tb tk:TE} {tt tu:TT} {g:TG} {Q:VK} {QT:Bool->Hp->Prop} {QA:List V->Hp->Prop} {i:Nat} {v x y:V} {r:R2} {tr:TA} {K:PySem.W.Frag}
theorem Rq (h:t { D with nx:=u D } σ H):QQ t u D σ H:=h
theorem Em (h:D.nx σ H):NN D σ H:=h
theorem RH (h:te σ H λ x H1=>g x σ H1 D.nx):Mi te g D σ H:=h
theorem LD {QS:St->Hp->Prop} (h:QS (σ.set i (some v)) H):AK i v σ H QS:=h
theorem QJ (e:σ[i]?=some (some v)) (h:Q v H):Hv i σ H Q:=⟨v,e,h⟩
theorem Y6 (h:Q v H):tC v σ H Q:=h
theorem U4 (h:ta σ H λ x H1=>tb σ H1 λ y H2=>r x y H2 Q):tOp r ta tb σ H Q:=h
theorem Xv {ru:V->Hp->VK->Prop} (h:ta σ H λ x H1=>ru x H1 Q):tUn ru ta σ H Q:=h
theorem AH {C:Int->Int->Prop} {gg:Int->Int->V} {a b:Int} (c:C a b) (h:Q (gg a b) H):rI C gg (.int a) (.int b) H Q:=⟨a,b,rfl,rfl,c,h⟩
theorem Rr {gg:Int->Int->V} {a b:Int} (h:Q (gg a b) H):rI0 gg (.int a) (.int b) H Q:=⟨a,b,rfl,rfl,h⟩
theorem Wp {gg:Int->V} {a:Int} (h:Q (gg a) H):rU gg (.int a) H Q:=⟨a,rfl,h⟩
theorem Rk {a b:Int} (h:Q (.bl (decide (a=b))) H):rEq (.int a) (.int b) H Q:=⟨rfl,by rw [show decide (V.int a=V.int b)=decide (a=b) by rw [Bool.eq_iff_iff];simp];exact h⟩
theorem QE {a b:Int} (h:Q (.bl (!decide (a=b))) H):rNe (.int a) (.int b) H Q:=⟨rfl,by rw [show decide (V.int a=V.int b)=decide (a=b) by rw [Bool.eq_iff_iff];simp];exact h⟩
theorem RZ {a b:Str} (h:Q (.bl (decide (a=b))) H):rEq (.str a) (.str b) H Q:=⟨rfl,by rw [show decide (V.str a=V.str b)=decide (a=b) by rw [Bool.eq_iff_iff];simp];exact h⟩
theorem QI (h:tt σ H λ c H1=>QT (!c) H1):UM tt σ H QT:=h
theorem PU (h:te σ H λ x H'=>∃ k,x= .bl k/\QT k H'):Qp te σ H QT:=h
theorem Sj (h:te σ H λ x H'=>∃ k,x= .bl k/\QT k H'):tB te σ H QT:=h
theorem SW {b:Bool} {R:Bool->Prop} (h:R b):∃ k,V.bl b= .bl k/\R k:=⟨b,rfl,h⟩
theorem S4 (h:tt σ H λ c H1=>if c=true then QT true H1 else tu σ H1 QT):tOr tt tu σ H QT:=h
theorem Q0 (h:tt σ H λ c H1=>if c=true then tu σ H1 QT else QT false H1):SE tt tu σ H QT:=h
theorem Oy (h:ta σ H λ x H1=>∃ c,x= .bl c/\if c=true then tb σ H1 Q else Q (.bl false) H1):Ly ta tb σ H Q:=h
theorem PM (h:ta σ H λ x H1=>∃ c,x= .bl c/\Q (.bl (!c)) H1):Ql ta σ H Q:=h
theorem Rn (h:tt σ H λ b H1=>if b=true then t D σ H1 else u D σ H1):OD tt t u D σ H:=h
theorem Yc (h:tt σ H λ c H1=>if c=true then ta σ H1 Q else tb σ H1 Q):tIf tt ta tb σ H Q:=h
theorem Q9 (h:te σ H D.rt):RK te D σ H:=h
theorem Pq (h:te σ H λ _ H1=>D.nx σ H1):Qm te D σ H:=h
theorem Ry (h:QA [] H):Gf σ H QA:=h
theorem PL (h:te σ H λ x H1=>tr σ H1 λ xs H2=>QA (x::xs) H2):F6 te tr σ H QA:=h
theorem QZ (h:tr σ H λ xs H1=>xs.length<=sizeLine/\∀ p,H1 p=none->Q (.ref p) (upd H1 p (.lst xs))):Se tr σ H Q:=h
theorem Q2 (h:tr σ H λ xs H1=>xs.length<=sizeLine/\∀ p,H1 p=none->Q (.ref p) (upd H1 p (.tup xs))):R4 tr σ H Q:=h
theorem S6 {rr:List V->Hp->VK->Prop} (h:tr σ H λ vs H1=>rr vs H1 Q):tCB rr tr σ H Q:=h
theorem PH {sp:Sp} {E:XK} (h:tr σ H λ vs H1=>sp vs H1 Q E):Kk sp [] E tr σ H Q:=by
  unfold Kk;simpa using h
theorem Uc {rs:V->Option Int->Option Int->Hp->VK->Prop} {tl th:TO} (h:te σ H λ x H1=>tl σ H1 λ l H2=>th σ H2 λ u H3=>rs x l u H3 Q):tSl rs te tl th σ H Q:=h
theorem Ov {QO:Option Int->Hp->Prop} (h:te σ H λ x H1=>∃ i,x= .int i/\QO (some i) H1):PY te σ H QO:=h
theorem Mu {QO:Option Int->Hp->Prop} (h:QO none H):LW σ H QO:=h
theorem Ri {a:Int} {R:Int->Prop} (h:R a):∃ k,V.int a= .int k/\R k:=⟨a,rfl,h⟩
theorem NF {p:Addr} {xs:List V} {lo hi:Option Int} (c:SqL K H p xs) (h:∀ q,H q=none->Q (.ref q) (upd H q (.lst (Dd xs lo hi)))):Qz K (.ref p) lo hi H Q:=⟨p,xs,rfl,c,h⟩
theorem PR {z:Str} (c:z.length<=sizeLine) (h:Q (.int z.length) H):MC K [.str z] H Q:=⟨_,_,rfl,⟨c,rfl⟩,h⟩
theorem AQ {p:Addr} {xs:List V} (c:SqL K H p xs) (h:Q (.int xs.length) H):MC K [.ref p] H Q:=⟨_,_,rfl, .inl ⟨xs,c,rfl⟩,h⟩
theorem Fp {p:Addr} {xs:List V} (c:SqT K H p xs) (h:Q (.int xs.length) H):MC K [.ref p] H Q:=⟨_,_,rfl, .inr ⟨xs,c,rfl⟩,h⟩
theorem M5 {p:Addr} {ns:List Int} (c:SqL K H p (ns.map V.int)) (h:Q (.int ns.sum) H):W0 K [.ref p] H Q:=⟨p,ns,rfl,c,h⟩
theorem FE {p:Addr} {bs:List Bool} (c:SqL K H p (bs.map V.bl)) (h:Q (.bl (bs.all id)) H):VW K [.ref p] H Q:=⟨p,bs,rfl,c,h⟩
theorem A1 {n:String} {ty:Value} {b:Bool} (c:TyOf K H x ty) (e:PySem.W.kitOne K ty (.type n)=some b) (h:Q (.bl b) H):Qr K [x, .ty n] H Q:=⟨x,n,ty,b,rfl,c,e,h⟩
theorem Bk {p:Addr} {xs:List V} {k:Int} (c:SqL K H p xs) (e:atI xs k=some v) (h:Q v H):M6 K (.ref p) (.int k) H Q:=⟨p,xs,k,v,rfl,rfl,c,e,h⟩
theorem Ar {p:Addr} {xs:List V} {k:Int} (c:SqT K H p xs) (e:atI xs k=some v) (h:Q v H):Pr K (.ref p) (.int k) H Q:=⟨p,xs,k,v,rfl,rfl,c,e,h⟩
theorem Nh {z:Str} {k:Int} {c:Nat} (l:z.length<=sizeLine) (e:atI z.cps.toList k=some c) (h:Q (.str ⟨#[c]⟩) H):Xo (.str z) (.int k) H Q:=⟨z,k,c,rfl,rfl,l,e,h⟩
theorem RF {xs:List V} {B:Prop} (c:xs.length<=1000) (h:B):xs.length<=sizeLine/\B:=⟨Nat.le_trans c (by decide),h⟩
end
theorem Dg {p A B:Prop} [Decidable p] (h1:p->A) (h2:¬ p->B):if decide p=true then A else B:=by
  by_cases h:p
  · rw [if_pos (decide_eq_true h)];exact h1 h
  · rw [if_neg (λ q=>h (of_decide_eq_true q))];exact h2 h
theorem YW {p A B:Prop} [Decidable p] (h1:¬ p->A) (h2:p->B):if (!decide p)=true then A else B:=by
  by_cases h:p
  · rw [decide_eq_true h];exact Fh (h2 h)
  · rw [decide_eq_false h];exact Kj (h1 h)
noncomputable def Iy:Dt->Bool | .lst _=>true | _=>false
noncomputable def IS:Dt->Bool | .tup _=>true | _=>false
theorem SqS.same {K:PySem.W.Frag} {H H':Hp} {tp:Bool} {p:Addr} {xs:List V} (c:SqS tp K H p xs) (s:Same H H'):SqS tp K H' p xs:=by
  cases tp with
  | false=>exact (show SqL K H' p xs from s.seq c)
  | true=>
    rcases (show SqT K H p xs from c) with (q | ⟨o,q⟩) | q
    · exact (show SqT K H' p xs from .inl (.inl (s _ _ q)))
    · exact (show SqT K H' p xs from .inl (.inr ⟨o,s _ _ q⟩))
    · exact (show SqT K H' p xs from .inr q)
theorem Ai {H:Hp} {p:Addr} {o:HO} (h:H p=none):Same H (upd H p o):=λ b u e=>by rw [Aj (Av e h)];exact e
theorem Fc {H H':Hp} {D:Addr} {o:HO} (s:Same H H') (h:H D=none):Same H (upd H' D o):=λ b u e=>by rw [Aj (Av e h)];exact s b u e
structure SrcOk (J:It) (g:TG) (σ0:St) (H:Hp) (n:Nat) (st:Nat->St):Prop where
  go:∀ i H',i<n->Same H H'->J.go i H'
  stop:∀ H',Same H H'->J.stop n H'
  yld:∀ i H' x H'' (R:St->Hp->Prop),i<n->Same H H'->J.yld i H' x H''->(∀ H3,Same H' H3->R (st i) H3)->g x σ0 H'' R
  kp:∀ i,i<n->Kp σ0 (st i)
section
variable {J:It} {g:TG} {σ0:St} {H:Hp} {n:Nat} {st:Nat->St} {tc:TT} {te:TE} {Q:VK} {D:Addr}
theorem Rp.off {H:Hp} {F:Addr->Prop} {m:Nat} {v:V} {d:Dt} {D:Addr} {xs:List V} {o:HO} (r:Rp H F m v d) (hD:H D=some (.lst xs)) (hF:¬ F D):Rp (L2.upd H D o) F m v d:=by
  refine r.mono (λ a u e q=> ?_) λ _ h=>h;have n:a≠D:=λ z=>by
    subst z;rw [hD] at e;cases e;exact hF (q _ rfl)
  rw [Aj n];exact e
theorem B8 {m:Nat} {p:Nat->Bool} {G:Nat->Dt} (S:SrcOk J g σ0 H n st) (hD:H D=none) (hn:n<=100000)
    (ht:∀ i H' (R:Bool->Hp->Prop),i<n->Same H H'->(∀ H3,Same H' H3->R (p i) H3)->tc (st i) H' R)
    (he:∀ i H' (R:VK),i<n->p i=true->Same H H'->(∀ H3 y,Same H' H3->Rp H3 (FN H') m y (G i)->R y H3)->te (st i) H' R)
    (hd:∀ H' ys,Same H H'->H' D=some (.lst ys)->Rp H' (FN H) (m+1) (.ref D) (.lst (((List.range n).filter p).map G))->Q (.ref D) H'):
    F8 J σ0 g tc te Q H D:=by
  refine ⟨λ i k ys H'=>k=n - i/\i<=n/\Same H H'/\H' D=some (.lst ys)/\ys.length=(((List.range i).filter p).map G).length/\∀ (j:Nat) (y:V) (d:Dt),ys[j]?=some y->(((List.range i).filter p).map G)[j]?=some d->Rp H' (λ a=>H a=none/\a≠D) m y d,
    ⟨_,rfl,Nat.zero_le _,Fc (Same.refl _) hD,Ac,rfl,λ j y d q=>by simp at q⟩,?_⟩
  rintro i k ys H1 ⟨rfl,hi,s1,hl,len,el⟩;have bnd:∀ i,(((List.range i).filter p).map G).length<=i:=λ i=>by
    rw [List.length_map];exact Nat.le_trans (List.length_filter_le _ _) (by simp)
  by_cases hlt:i<n
  · refine .inr ⟨S.go i H1 hlt s1,λ ys' H'=>Same H H'/\H' D=some (.lst ys')/\ys'.length=(((List.range (i+1)).filter p).map G).length/\∀ (j:Nat) (y:V) (d:Dt),ys'[j]?=some y->(((List.range (i+1)).filter p).map G)[j]?=some d->Rp H' (λ a=>H a=none/\a≠D) m y d,
      λ ys' H' q=>⟨n - (i+1),by omega,rfl,hlt,q⟩,λ x H2 y=> ?_⟩
    refine S.yld i H1 x H2 _ hlt s1 y λ H3 s3=>⟨S.kp i hlt,?_⟩;refine ht i H3 _ hlt (s1.trans s3) λ H4 s4=> ?_;have hl4:H4 D=some (.lst ys):=s4 _ _ (s3 _ _ hl);have s14:Same H H4:=s1.trans (s3.trans s4);cases hp:p i with
    | false=>
      refine Fh ⟨s14,hl4,?_,?_⟩
      · rw [List.range_succ,List.filter_append,List.filter_cons,hp];simpa using len
      · intro j y d h1 h2;have e:((List.range (i+1)).filter p).map G=((List.range i).filter p).map G:=by
          rw [List.range_succ,List.filter_append,List.filter_cons,hp];simp
        rw [e] at h2;exact (el j y d h1 h2).same (s3.trans s4)
    | true=>
      refine Kj ?_;refine he i H4 _ hlt hp s14 λ H5 y s5 ry=> ?_;have hl5:H5 D=some (.lst ys):=s5 _ _ hl4;have e:((List.range (i+1)).filter p).map G=((List.range i).filter p).map G++[G i]:=by
        rw [List.range_succ,List.filter_append,List.filter_cons,hp];simp
      refine ⟨hl5,?_,?_,Ac,?_,?_⟩
      · have:=bnd i;exact Nat.lt_of_le_of_lt (by omega:ys.length<=100000) (by decide)
      · exact Fc (s14.trans s5) hD
      · rw [e,List.length_append,List.length_append,len];rfl
      · intro j z d h1 h2;rw [e] at h2;have nF:¬ (H D=none/\D≠D):=λ q=>q.2 rfl;by_cases hj:j<ys.length
        · rw [List.getElem?_append_left hj] at h1;rw [List.getElem?_append_left (by omega)] at h2;exact ((el j z d h1 h2).same (s3.trans (s4.trans s5))).off hl5 nF
        · have ej:j=ys.length:=by
            have:=(List.getElem?_eq_some_iff.mp h1).1;rw [List.length_append] at this;have:([y]:List V).length=1:=rfl;omega
          subst ej;rw [List.getElem?_append_right (Nat.le_refl _),Nat.sub_self] at h1;rw [len,List.getElem?_append_right (Nat.le_refl _),Nat.sub_self] at h2;cases h1;cases h2;refine (ry.imp (F':=λ a=>H a=none/\a≠D) λ a ha=>⟨s14.free ha,λ q=> ?_⟩).off hl5 nF;subst q;rw [show H4 a=none from ha] at hl4;cases hl4
  · have e:i=n:=by omega
    subst e;refine .inl ⟨S.stop H1 s1,hd H1 ys s1 hl (.lst hl hD ?_ len λ j y d h1 h2=>(el j y d h1 h2).imp λ a q=>q.1)⟩;have:=bnd i;omega
theorem AF {m:Nat} {G:Nat->Dt} (S:SrcOk J g σ0 H n st) (hD:H D=none) (hn:n<=100000)
    (he:∀ i H' (R:VK),i<n->Same H H'->(∀ H3 y,Same H' H3->Rp H3 (FN H') m y (G i)->R y H3)->te (st i) H' R)
    (hd:∀ H' ys,Same H H'->H' D=some (.lst ys)->Rp H' (FN H) (m+1) (.ref D) (.lst ((List.range n).map G))->Q (.ref D) H'):
    F8 J σ0 g Oz te Q H D:=by
  refine B8 (p:=λ _=>true) (m:=m) (G:=G) S hD hn (λ i H' R _ _ k=>k H' (Same.refl _)) (λ i H' R hi _ s k=>he i H' R hi s k) λ H' ys s hl r=>hd H' ys s hl ?_;have e:(List.range n).filter (λ _=>true)=List.range n:=by simp
  rw [e] at r;exact r
variable {K:PySem.W.Frag} {a b:Addr} {xs zs:List V}
theorem A4 (h:SqL K H a xs) (h0:σ0[0]?=some none):SrcOk (Itl K a) (AK 0) σ0 H xs.length (λ i=>σ0.set 0 (some (xs.getD i .non))) where
  go:=λ i H' hi s=>⟨xs,xs[i],s.seq h,by simp [hi]⟩
  stop:=λ H' s=>⟨xs,s.seq h,Nat.le_refl _⟩
  yld:=λ i H' x H'' R hi s y k=>by
    obtain ⟨e,hv⟩:=y;subst e;have e:x=xs.getD i .non:=by
      have:=hv xs (s.seq h);rw [List.getD_eq_getElem?_getD,this];rfl
    subst e;exact k _ (Same.refl _)
  kp:=λ i hi=>(Kp.refl _).set h0
theorem Dp (h:SqT K H a xs) (h0:σ0[0]?=some none):SrcOk (Itt K a) (AK 0) σ0 H xs.length (λ i=>σ0.set 0 (some (xs.getD i .non))) where
  go:=λ i H' hi s=>⟨xs,xs[i],(SqS.same (tp:=true) h s),by simp [hi]⟩
  stop:=λ H' s=>⟨xs,(SqS.same (tp:=true) h s),Nat.le_refl _⟩
  yld:=λ i H' x H'' R hi s y k=>by
    obtain ⟨e,hv⟩:=y;subst e;have e:x=xs.getD i .non:=by
      have:=hv xs (SqS.same (tp:=true) h s);rw [List.getD_eq_getElem?_getD,this];rfl
    subst e;exact k _ (Same.refl _)
  kp:=λ i hi=>(Kp.refl _).set h0
theorem CM {lo:Int} {n:Nat} (h0:σ0[0]?=some none):SrcOk (Itr lo n) (AK 0) σ0 H n (λ i=>σ0.set 0 (some (.int (lo+i)))) where
  go:=λ i H' hi s=>hi
  stop:=λ H' s=>Nat.le_refl _
  yld:=λ i H' x H'' R hi s y k=>by
    obtain ⟨e,hv⟩:=y;subst e hv;exact k _ (Same.refl _)
  kp:=λ i hi=>(Kp.refl _).set h0
theorem Kw (h:SqL K H a xs) (h0:σ0[0]?=some none) (h1:σ0[1]?=some none):SrcOk (Ite K a) (GW K 2 (BB (AK 0) (BB (AK 1) HS))) σ0 H xs.length (λ i=>(σ0.set 0 (some (.int i))).set 1 (some (xs.getD i .non))) where
  go:=λ i H' hi s=>⟨xs,xs[i],s.seq h,by simp [hi]⟩
  stop:=λ H' s=>⟨xs,s.seq h,Nat.le_refl _⟩
  yld:=λ i H' x H'' R hi s y k=>by
    obtain ⟨p,v,hp,rfl,rfl,hv⟩:=y;have e:v=xs.getD i .non:=by
      have:=hv xs (s.seq h);rw [List.getD_eq_getElem?_getD,this];rfl
    subst e;exact ⟨p,_,rfl,SqT.of Ac,rfl,_,_,rfl,_,_,rfl,rfl,k _ (Ai hp)⟩
  kp:=λ i hi=>((Kp.refl _).set h0).set h1
end
theorem AI {α β:Type} (f:α->β) (xs:List α) (d:α):(List.range xs.length).map (λ i=>f (xs.getD i d))=xs.map f:=by
  refine List.ext_getElem (by simp) λ i h1 h2=> ?_;have hi:i<xs.length:=by simpa using h2
  simp [List.getD_eq_getElem?_getD,hi]
theorem MQ (a b c:Int) (hc:c≠0):0<=Builtin.Range.rangeSize a b c/\Builtin.Range.rangeSize a b c<=(b - a).natAbs:=by
  unfold Builtin.Range.rangeSize;split
  · rename_i h
    split
    · rename_i h2
      have h3:0<=(b - a - 1) / c:=Int.ediv_nonneg (by omega) (by omega);have h4:(b - a - 1) / c<=b - a - 1:=Int.ediv_le_self _ (by omega);omega
    · omega
  · rename_i h
    split
    · rename_i h2
      have h3:0<=(a - b - 1) / (-c):=Int.ediv_nonneg (by omega) (by omega);have h4:(a - b - 1) / (-c)<=a - b - 1:=Int.ediv_le_self _ (by omega);omega
    · omega
theorem OF {a b c:Int} (ha: -(2 ^ 40)<=a/\a<2 ^ 40) (hb: -(2 ^ 40)<=b/\b<2 ^ 40) (hc: -(2 ^ 20)<=c/\c<2 ^ 20) (h0:c≠0):Builtin.Range.small a b c=true:=by
  have h:=MQ a b c h0;unfold Builtin.Range.small;simp only [Builtin.Range.rangeFitsLong,Bool.and_eq_true,Bool.or_eq_true,decide_eq_true_eq,beq_iff_eq];generalize Builtin.Range.rangeSize a b c=n at h;have hn:(b - a).natAbs<2 ^ 42:=by omega
  refine ⟨⟨⟨⟨by omega,by omega⟩,by omega⟩,by omega⟩, .inr ?_⟩;split <;> rw [Bool.and_eq_true,decide_eq_true_eq,decide_eq_true_eq] <;> omega
noncomputable def Itc (lo c:Int) (n:Nat):It:=⟨λ i _=>i<n,λ i H x H'=>H'=H/\x= .int (lo+i*c),λ i _=>n<=i⟩
theorem Kc {P:Program} {w:World} {K:PySem.W.Frag} {tg:Expr} (it:Addr) (lo c:Int) (n:Nat):Turn P w K tg (Itc lo c n) [it] it (λ i h=>IsRangeIter h it (lo+(i:Nat)*c) ((n:Int) - (i:Nat)) c) where
  mem:=by simp
  obj:=λ i h st b hb=>by
    have e:b=it:=by simpa using hb
    subst e;exact ⟨_,st,λ v z=>by cases (show Data.fields _=Data.cell v from z)⟩
  keep:=λ i h h' st k=>k it (by simp) _ st
  item:=by
    intro X hP hw hK hc i pins s σ H E I hf st hg;subst hP hw hK;obtain ⟨f0,f1,f2,f3,f4,f5⟩:=hf it (by simp);have W:=Walks.range (prog:=X.prog) (w:=X.w) (I.ok.hd hc) it lo c n;refine W.item i s _ _ hg st λ v h' tk hv st' kk=> ?_;obtain ⟨t,rfl⟩:=hv;have I1:Inv X pins σ H { s with heap:=h',toks:=tk }:=I.turned (λ b o hb e=>kk b o (by simpa using hb) e) f0 f1 f3 f4 f5;exact ⟨_,rfl,LV (s:={ s with heap:=h',toks:=tk }) (n:="range_iterator") st' rfl rfl (by decide) ⟨.int (lo+i*c),H,I1,⟨t,rfl⟩,⟨rfl,rfl⟩,st',λ b hb=>(hf b hb).1⟩⟩
  done:=by
    intro X hP hw hK hc i pins s σ H E I hf st hg;subst hP hw hK;obtain ⟨f0,f1,f2,f3,f4,f5⟩:=hf it (by simp);exact wpAny_pyNext_range_end (I.ok.hd hc) st (by have:n<=i:=hg;omega) λ h' eb=>⟨rfl,I.turned (t':=s.toks) (λ b o hb e=>eb b o hb e) f0 f1 f3 f4 f5⟩
  self:=λ _ _ _ _ _ st h=>wpAny_pyIter_rangeiter st h
section
variable {X:Cx} {tg:Expr}
def Qe (ta:TA):TI:=λ σ H R=>ta σ H λ vs H1=>∃ i j c:Int,vs=[.int i, .int j, .int c]/\(-(2 ^ 40)<=i/\i<2 ^ 40)/\(-(2 ^ 40)<=j/\j<2 ^ 40)/\(-(2 ^ 20)<=c/\c<2 ^ 20)/\c≠0/\R (Itc i c (Builtin.Range.rangeSize i j c).toNat) H1
theorem MI {a b c:Expr} {ta:TA} {p pos:Pos} (hg:Gl X "range") (hm:X.mg "range"=none) (ha:PA X [a,b,c] ta) (hs:starEach [a,b,c] X.env=[(false,eval a X.env),(false,eval b X.env),(false,eval c X.env)]:=by rfl)
    (hs2:starEach [b,c] X.env=[(false,eval b X.env),(false,eval c X.env)]:=by rfl):PI X tg (.Call (.Name "range" p) [a,b,c] [] pos) (Qe ta):=by
  intro pins s σ H R I h;refine Call_ (CZ I hg hm boot_range (PyProof.Rows.callWith_type1 (thn (ha pos pins s σ H _ I h) λ us s1 ⟨vs,H1,I1,r1,q1⟩=> ?_) (by rw [hs,hs2]) (by rw [hs2];rfl)));obtain ⟨i,j,k,e,h1,h2,h3,h0,q⟩:=q1;subst e;cases r1 with
  | cons r rr=>
    cases rr with
    | cons r' rr=>
      cases rr with
      | cons r'' rr=>
        cases rr;obtain ⟨t,rfl⟩:=r;obtain ⟨t',rfl⟩:=r';obtain ⟨t'',rfl⟩:=r'';refine call_range_3 h0 ?_ (.inl (PyProof.noPylong_small (by omega)));refine wpAny_pyIter_range (IsRange.new ..) (OF h1 h2 h3 h0) ?_;have I2:Inv X pins σ H1 { s1 with heap:=s1.heap.push { cls:= .type "range",data:= .fields #[.int i t, .int j t', .int k t''] },toks:=s1.toks }:=I1.kept λ b o e=>Heap.get?_push_of_some _ e;refine ⟨(s1.heap.push { cls:= .type "range",data:= .fields #[.int i t, .int j t', .int k t''] }).objs.size,[(s1.heap.push { cls:= .type "range",data:= .fields #[.int i t, .int j t', .int k t''] }).objs.size],_,_,H1,rfl,
          I2.kept (t':=s1.toks) λ b o e=>Heap.get?_push_of_some _ e,Kc _ i k (Builtin.Range.rangeSize i j k).toNat,?_,λ b hb=> ?_,q⟩
        · have e1:i+((0:Nat):Int)*k=i:=by simp
          have e2:(((Builtin.Range.rangeSize i j k).toNat:Nat):Int) - ((0:Nat):Int)=Builtin.Range.rangeSize i j k:=by have:=(MQ i j k h0).1;omega
          show IsRangeIter _ _ (i+((0:Nat):Int)*k) ((((Builtin.Range.rangeSize i j k).toNat:Nat):Int) - ((0:Nat):Int)) k;rw [e1,e2];exact Heap.get?_push_size _ rfl
        · have e:b=(s1.heap.push { cls:= .type "range",data:= .fields #[.int i t, .int j t', .int k t''] }).objs.size:=by simpa using hb
          subst e;exact I2.fpOk (Nat.le_refl _) (I2.hok.fresh (Nat.le_refl _))
theorem Lm {lo c:Int} {n:Nat} {σ0:St} {H:Hp} (h0:σ0[0]?=some none):SrcOk (Itc lo c n) (AK 0) σ0 H n (λ i=>σ0.set 0 (some (.int (lo+i*c)))) where
  go:=λ i H' hi s=>hi
  stop:=λ H' s=>Nat.le_refl _
  yld:=λ i H' x H'' R hi s y k=>by
    obtain ⟨e,hv⟩:=y;subst e hv;exact k _ (Same.refl _)
  kp:=λ i hi=>(Kp.refl _).set h0
def Wh:List V->Hp->VK->Prop:=λ xs H Q=>∃ b:Bool,xs=[.bl b]/\Q (.int (if b=true then 1 else 0)) H
end
theorem Qv {X:Cx}:BA X (.type "int") Wh:=by
  intro pins s σ H xs us Q I r h;obtain ⟨b,rfl,q⟩:=h;exact ML pins s σ H _ us Q I r (.inr ⟨b,rfl,q⟩)
section
variable {X:Cx} {K:PySem.W.Frag} {e st:Expr} {te ts:TE} {pos p2:Pos}
end
end L2
namespace MM
theorem JV {α:Type} {p:List α->Prop} (h0:p []) (h1:∀ l a,p l->p (l++[a])):∀ l,p l:=λ l=>by
  have h:∀ r:List α,p r.reverse:=λ r=>by
    induction r with
    | nil=>exact h0
    | cons a r ih=>rw [List.reverse_cons];exact h1 _ _ ih
  have:=h l.reverse
  rwa [List.reverse_reverse] at this
theorem or_add_and (a:Nat):∀ b:Nat,(a ||| b)+(a &&& b)=a+b:=by
  induction a using Nat.strongRecOn with
  | ind a ih=>
    intro b;by_cases h:a=0
    · subst h;simp
    · have ih':=ih (a / 2) (by omega) (b / 2);have e1:(a ||| b)=2*((a ||| b) / 2)+(a ||| b)%2:=by omega
      have e2:(a &&& b)=2*((a &&& b) / 2)+(a &&& b)%2:=by omega
      have d1:(a ||| b) / 2=a / 2 ||| b / 2:=by simpa using Nat.or_div_two (a:=a) (b:=b)
      have d2:(a &&& b) / 2=a / 2 &&& b / 2:=by simpa using Nat.and_div_two (a:=a) (b:=b)
      have m1:(a ||| b)%2+(a &&& b)%2=a%2+b%2:=by
        have z:∀ x:Nat,x%2=(x.testBit 0).toNat:=λ x=>by rw [Nat.toNat_testBit];simp
        rw [z (a ||| b),z (a &&& b),z a,z b,Nat.testBit_or,Nat.testBit_and];cases a.testBit 0 <;> cases b.testBit 0 <;> rfl
      rw [d1] at e1;rw [d2] at e2;omega
theorem xor_eq (a b:Nat):(a ^^^ b)+(a &&& b)=(a ||| b):=by
  have h1:=or_add_and (a ^^^ b) (a &&& b);have e1:((a ^^^ b) ||| (a &&& b))=(a ||| b):=by
    refine Nat.eq_of_testBit_eq λ i=> ?_;simp only [Nat.testBit_or,Nat.testBit_xor,Nat.testBit_and];cases a.testBit i <;> cases b.testBit i <;> rfl
  have e2:((a ^^^ b) &&& (a &&& b))=0:=by
    refine Nat.eq_of_testBit_eq λ i=> ?_;simp only [Nat.testBit_and,Nat.testBit_xor,Nat.zero_testBit];cases a.testBit i <;> cases b.testBit i <;> rfl
  rw [e1,e2] at h1;omega
def ofB (f:Nat->Bool):Nat->Nat
  | 0=>0
  | w+1=>ofB f w+(f w).toNat*2 ^ w
theorem ofB_lt (f:Nat->Bool):∀ w,ofB f w<2 ^ w
  | 0=>by simp [ofB]
  | w+1=>by
    have:=ofB_lt f w;unfold ofB;rw [Nat.pow_succ];cases f w <;> simp <;> omega
theorem ofB_bit (f:Nat->Bool):∀ w i,(ofB f w).testBit i=(decide (i<w)&&f i)
  | 0,i=>by simp [ofB]
  | w+1,i=>by
    have hl:=ofB_lt f w;unfold ofB;have e:ofB f w+(f w).toNat*2 ^ w=2 ^ w*(f w).toNat+ofB f w:=by rw [Nat.mul_comm];omega
    rw [e,Nat.testBit_two_pow_mul_add _ hl];by_cases h:i<w
    · rw [if_pos h,ofB_bit f w i];simp [h,Nat.lt_succ_of_lt h]
    · rw [if_neg h];by_cases h2:i=w
      · subst h2;cases f i <;> simp
      · have h3:¬ i<w+1:=by omega
        have h4:i - w≠0:=by omega
        have h5:(1:Nat).testBit (i - w)=false:=by
          obtain ⟨d,hd⟩:∃ d,i - w=d+1:=⟨i - w - 1,by omega⟩;rw [hd,Nat.testBit_succ];simp
        cases f w
        · simp [h3]
        · simp only [Bool.toNat_true,h5,h3,decide_false,Bool.false_and]
theorem NJ (m w:Nat) (h:m<2 ^ w):ofB m.testBit w=m:=by
  refine Nat.eq_of_testBit_eq λ i=> ?_;rw [ofB_bit];by_cases hi:i<w
  · simp [hi]
  · have:m.testBit i=false:=Nat.testBit_lt_two_pow (Nat.lt_of_lt_of_le h (Nat.pow_le_pow_right (by decide) (by omega)));simp [hi,this]
theorem ofB_congr {f g:Nat->Bool} {w:Nat} (h:∀ i,i<w->f i=g i):ofB f w=ofB g w:=by
  refine Nat.eq_of_testBit_eq λ i=> ?_;rw [ofB_bit,ofB_bit];by_cases hi:i<w
  · simp [hi,h i hi]
  · simp [hi]
theorem eq_ofB {m w:Nat} {f:Nat->Bool} (h:m<2 ^ w) (b:∀ i,i<w->m.testBit i=f i):m=ofB f w:=by
  rw [<-NJ m w h];exact ofB_congr b
theorem bit_div (m e:Nat):m / 2 ^ e%2=(m.testBit e).toNat:=by
  rw [Nat.testBit_eq_decide_div_mod_eq];have:m / 2 ^ e%2<2:=Nat.mod_lt _ (by decide);by_cases h:m / 2 ^ e%2=1
  · simp [h]
  · have:m / 2 ^ e%2=0:=by omega
    simp [this]
def mOf (ns:List Nat):Nat:=ns.foldl (λ m n=>m ||| 2 ^ (n - 1)) 0
theorem mOf_snoc (ns:List Nat) (n:Nat):mOf (ns++[n])=mOf ns ||| 2 ^ (n - 1):=by unfold mOf;rw [List.foldl_append];rfl
theorem mOf_bit (ns:List Nat) (i:Nat):(mOf ns).testBit i=ns.any λ n=>decide (n - 1=i):=by
  refine JV (p:=λ ns=>(mOf ns).testBit i=ns.any λ n=>decide (n - 1=i)) (by simp [mOf]) (λ l a ih=> ?_) ns
  · rw [mOf_snoc,Nat.testBit_or,ih,List.any_append,Nat.testBit_two_pow];simp
def uOf (ms:List Nat):Nat:=ms.foldl (λ m n=>m ||| n) 0
theorem uOf_snoc (ns:List Nat) (n:Nat):uOf (ns++[n])=uOf ns ||| n:=by unfold uOf;rw [List.foldl_append];rfl
theorem uOf_bit (ns:List Nat) (i:Nat):(uOf ns).testBit i=ns.any λ n=>n.testBit i:=by
  refine JV (p:=λ ns=>(uOf ns).testBit i=ns.any λ n=>n.testBit i) (by simp [uOf]) (λ l a ih=> ?_) ns;rw [uOf_snoc,Nat.testBit_or,ih,List.any_append];simp
def bits (m:Nat):Nat:=if m=0 then 0 else m.log2+1
theorem LI (m:Nat):m<2 ^ bits m:=by
  unfold bits;split
  · subst_vars;decide
  · exact Nat.lt_log2_self
theorem bits_le {m w:Nat} (h:m<2 ^ w):bits m<=w:=by
  unfold bits;split
  · exact Nat.zero_le _
  · rename_i h0
    exact (Nat.log2_lt h0).mpr h
def nOf (m:Nat):List Nat:=((List.range (bits m)).filter m.testBit).map (· + 1)
theorem nOf_mem (m n:Nat):n∈nOf m↔1<=n/\m.testBit (n - 1)=true:=by
  unfold nOf;simp only [List.mem_map,List.mem_filter,List.mem_range];constructor
  · rintro ⟨k,⟨_,h⟩,rfl⟩;exact ⟨by omega,by simpa using h⟩
  · rintro ⟨h1,h2⟩;refine ⟨n - 1,⟨?_,h2⟩,by omega⟩;rcases Nat.lt_or_ge (n - 1) (bits m) with q | q
    · exact q
    · rw [Nat.testBit_lt_two_pow (Nat.lt_of_lt_of_le (LI m) (Nat.pow_le_pow_right (by decide) q))] at h2;cases h2
theorem NV {m w:Nat} (h:m<2 ^ w):nOf m=((List.range w).filter m.testBit).map (· + 1):=by
  unfold nOf;have hb:=bits_le h;obtain ⟨d,rfl⟩:∃ d,w=bits m+d:=⟨w - bits m,by omega⟩;congr 1;rw [List.range_add,List.filter_append];have e:((List.range d).map (bits m+ ·)).filter m.testBit=[]:=by
    rw [List.filter_eq_nil_iff];intro x hx;obtain ⟨k,_,rfl⟩:=List.mem_map.mp hx;rw [Nat.testBit_lt_two_pow (Nat.lt_of_lt_of_le (LI m) (Nat.pow_le_pow_right (by decide) (Nat.le_add_right _ _)))];simp
  rw [e,List.append_nil]
theorem nOf_len {m w:Nat} (h:m<2 ^ w):(nOf m).length<=w:=by
  rw [NV h,List.length_map];exact Nat.le_trans (List.length_filter_le _ _) (by simp)
end MM
namespace L2
open PySem PySem.Spec PyProof.Rows
section
variable {X:Cx}
theorem IW {x:Str} {i:Int} {pos:Pos} (h:∃ t,X.mg x=some (.int i t)) (hg:Gl X x:=by rfl) (hd:(x == ("__debug__":Str))=false:=by decide):PE X (.Name x pos) (tC (.int i)):=by
  obtain ⟨t,e⟩:=h;exact Jj hg e ⟨t,rfl⟩ hd
theorem CH {x z:Str} {pos:Pos} (h:∃ t,X.mg x=some (.str z t)) (hg:Gl X x:=by rfl) (hd:(x == ("__debug__":Str))=false:=by decide):PE X (.Name x pos) (tC (.str z)):=by
  obtain ⟨t,e⟩:=h;exact Jj hg e ⟨t,rfl⟩ hd
end
section
variable {H:Hp} {Q:VK} {σ:St} {td ty tv:TE} {D:Ends} {a:Addr} {kvs:List (Key × V)}
end
section
variable {H:Hp} {Q:VK} {σ:St} {K:PySem.W.Frag} {to:TE} {t:TA} {r:V->List V->Hp->VK->Prop} {T:String} {l p q:Addr} {xs ys:List V} {y:V}
theorem RX (h:to σ H λ x H1=>tyV K T x H1/\r x [] H1 Q):QN K T r to σ H Q:=h
theorem V4 (h:to σ H λ x H1=>tyV K T x H1/\t σ H1 λ xs H2=>r x xs H2 Q):tBM K T r to t σ H Q:=h
theorem tyL {B:Prop} (c:SqL K H l xs) (h:B):tyV K "list" (.ref l) H/\B:=⟨.inl ⟨rfl,xs,c⟩,h⟩
theorem tyI {B:Prop} {i:Int} (h:B):tyV K "int" (.int i) H/\B:=⟨rfl,h⟩
theorem NR (c:H l=some (.lst xs)) (b:xs.length<16777216) (h:Q .non (upd H l (.lst (xs++[y])))):rAppend (.ref l) [y] H Q:=⟨l,xs,y,rfl,rfl,c,by rw [sizeLine_eq];exact b,h⟩
theorem Jy (c:H l=some (.lst xs)) (d:H p=some (.lst ys)) (b:xs.length+ys.length<=16777216) (h:Q .non (upd H l (.lst (xs++ys)))):rExtend (.ref l) [.ref p] H Q:=⟨l,p,xs,ys,rfl,rfl,c,d,by rw [sizeLine_eq];exact b,h⟩
theorem BK (c:SqL K H l xs) (d:SqL K H p ys) (b:xs.length+ys.length<=16777216) (h:∀ q,H q=none->Q (.ref q) (upd H q (.lst (xs++ys)))):M9 K (.ref l) (.ref p) H Q:=⟨l,p,xs,ys,rfl,rfl,c,d,by rw [sizeLine_eq];exact b,h⟩
theorem RM {k:Int} (c:H l=some (.lst xs)) (b1:0<=k) (b2:k<=100000) (b3:xs.length<=100) (h:∀ q,H q=none->Q (.ref q) (upd H q (.lst (List.replicate k.toNat xs).flatten))):UA (.ref l) (.int k) H Q:=
  ⟨l,k,xs,rfl,rfl,c,by omega,by omega,by
    rw [sizeLine_eq];have h1:k.toNat<=100000:=by omega
    exact Nat.le_trans (Nat.mul_le_mul b3 h1) (by decide),h⟩
theorem PX {as bs:List Int} (c:SqL K H l (as.map V.int)) (d:SqL K H p (bs.map V.int)) (h:Q (.bl (decide (as=bs))) H):KL K false (.ref l) (.ref p) H Q:=
  ⟨l,p,_,_,rfl,rfl,c,d,JS as,JS bs,by rw [MS];exact h⟩
theorem Bt {z:Addr} (c:SqT K H z xs) (h:∀ q,H q=none->Q (.ref q) (upd H q (.lst xs))):Lw K [.ref z] H Q:=⟨z,xs,rfl, .inr c,h⟩
theorem BS {z:Addr} (c:SqL K H z xs) (h:∀ q,H q=none->Q (.ref q) (upd H q (.tup xs))):KB K [.ref z] H Q:=⟨z,xs,rfl, .inl ⟨c,h⟩⟩
end
end L2
namespace L2
open PySem
open Sem (wp)
open AutoSeq1 (wpAny_loadPart')
section
variable {prog:Program} {w:World} {A:Around} {E:Value->Shared->Prop} {s:Shared}
theorem Kl {T newId:String} {Bn:Builtin} {v:Value} {x:Str} {u:Value} {Q:Value->Shared->Prop} (ft:TypeCalled T newId "object.__init__") (hne:(some newId != some "object.__new__")=true)
    (hct:checkTypeCall T ⟨[v],[(x,u)]⟩=pure ()) (hcn:checkBuiltinCall newId ⟨[.type T,v],[(x,u)]⟩=pure ()) (hok:∀ obj,argsOk "object.__init__" ⟨[obj,v],[(x,u)]⟩) (entryN:entryFor table newId=some Bn)
    (g:wpAny (model prog w) A.in1.in1 (Bn ⟨[.type T,v],[(x,u)]⟩) (λ fin s1=>∃ obj,fin= .done (.ret obj)/\s1.TypeIs obj T/\Q obj s1) E s):wpAny (model prog w) A (call (.type T) [v] [(x,u)]) Q E s:=by
  obtain ⟨c,tl,hmro⟩:=ft.mro;have hmade:=ft.made;have hsub:=ft.sub;refine wpAny_call (codeAny_of_tree ?_);show wpAny _ _ (callAny (.type T) _) _ _ _;refine wpAny_pure ⟨Code.quiet_builtin _ (by decide +kernel),codeAny_builtin F.entry_type_call ?_⟩;rw [Around.under_plain (weight_type_call_type T [v] [(x,u)]) (units_type_call_type T [v] [(x,u)])];have h1:=ft.notType;have h2:=ft.canCreate
  repeat (any_goals (first | assumption | wp_step))
  refine codeAny_call_builtin ft.plain entryN (wpAny_of_eq hcn (wpAny_mono g (λ fin s1 q=> ?_) λ _ _ q=>q));obtain ⟨obj,rfl,hT,q⟩:=q;have hli:=ft.init.lookup;have hbi:=ft.init.bind obj;show wpAny _ _ _ _ _ _
  repeat (any_goals (first | assumption | wp_step))
  refine codeAny_call_builtin ft.init.plain F.entry_object_init (ft.init.check _ _ _ _ _ _ _ _ hT (hok obj) ?_)
  repeat (any_goals (first | assumption | wp_step))
  trace_state
theorem Ko {v:Value} {t:Tok} {Q:Value->Shared->Prop}
    (h:wpAny (model prog w) A (pyIter v) (λ itv s1=>Q (.ref s1.heap.objs.size) { s1 with heap:=s1.heap.push { cls:= .type "enumerate",data:= .fields #[.none, .bool false,itv,rawInt 1, .none, .none] } }) E s):
    wpAny (model prog w) A (Builtin.«enumerate.__new__» ⟨[.type "enumerate",v],[("start", .int 1 t)]⟩) (λ fin s1=>∃ obj,fin= .done (.ret obj)/\Q obj s1) E s:=by
  have hsub:=sub_enumerate;have hit:∀ {R:Value->Shared->Prop},(∀ itv s1,Q (.ref s1.heap.objs.size) { s1 with heap:=s1.heap.push { cls:= .type "enumerate",data:= .fields #[.none, .bool false,itv,rawInt 1, .none, .none] } }->R itv s1)->wpAny (model prog w) A (pyIter v) R E s:=λ k=>wpAny_mono h k λ _ _ q=>q;unfold Builtin.«enumerate.__new__»
  wp_walk
  refine wpAny_stack_any λ st=>wpAny_pure ?_;split
  · rename_i c _ _ _ _ _
    cases (c == Value.type "enumerate")
    · wp_walk using hit
      intro itv s1 q
      wp_walk
      exact ⟨_,rfl,q⟩
    · wp_walk using hit
      intro itv s1 q
      wp_walk
      exact ⟨_,rfl,q⟩
  · wp_walk using hit
    intro itv s1 q
    wp_walk
    exact ⟨_,rfl,q⟩
theorem K6 {v:Value} {t:Tok} {Q:Value->Shared->Prop}
    (h:wpAny (model prog w) A.in1.in1 (pyIter v) (λ itv s1=>∃ it,itv= .ref it/\∀ h',IsEnum h' s1.heap.objs.size it 1 .none->(∀ b o,s1.heap.get? b=some o->h'.get? b=some o)->h'.objs.size=s1.heap.objs.size+1->Q (.ref s1.heap.objs.size) { s1 with heap:=h' }) E s):
    wpAny (model prog w) A (call (.type "enumerate") [v] [("start", .int 1 t)]) Q E s:=by
  refine Kl F.called_enumerate (by decide) (by kernel_rfl) (by kernel_rfl) (λ obj=>by unfold argsOk;kernel_rfl) F.entry_enumerate_new (Ko (wpAny_mono h (λ itv s1 q=> ?_) λ _ _ q=>q));obtain ⟨it,rfl,q⟩:=q;refine ⟨⟨_,Heap.get?_push_size _ rfl,rfl⟩,q _ (Heap.get?_push_size _ rfl) (λ b o e=>Heap.get?_push_of_some _ e) (Heap.size_push ..)⟩
end
theorem Rm {prog:Program} {w:World} {A:Around} {it:Addr} {fp:List Addr} {n:Nat} {Pv:Nat->Value->Prop} {St:Nat->Heap->Prop} (k:Nat) (D:Draws prog w A it fp n Pv St):
    Draws prog w A it fp (n+k) (λ i v=>∃ j,i=j+k/\Pv j v) (λ i h=>∃ j,i=j+k/\St j h) where
  live:=λ i h ⟨j,_,st⟩=>D.live j h st
  frame:=λ i h h' ⟨j,e,st⟩ q=>⟨j,e,D.frame j h h' st q⟩
  item:=λ i s Q E hi ⟨j,e,st⟩ hQ=>D.item j s Q E (by omega) st λ x h' tk p st' sb=>hQ x h' tk ⟨j,e,p⟩ ⟨j+1,by omega,st'⟩ sb
  done:=λ s Q E ⟨j,e,st⟩ hE=>D.done s Q E (by
    have q:j=n:=by omega
    rw [q] at st;exact st) hE
theorem Ky {M:Model} {A:Around} {E:Value->Shared->Prop} {s:Shared} {pos:Pos} {T:String} {args:List (Bool × Sem Value)} {kws:List (Option Str × Sem Value)} {Q:Value->Shared->Prop}
    (hp:args.any (·.1)=false) (hk:kws.any (·.1.isNone)=false) (h:wpAny M A (evalArgs (.type T) true args kws) (λ a s1=>wpAny M A (call (.type T) a.pos a.kw) Q E s1) E s):wpAny M A (callWith pos (.type T) [] args kws) Q E s:=by
  unfold callWith;refine wpAny_bind (wpAny_holding (wpAny_mono h (λ a s1 h1=>wpAny_bind (wpAny_standAt ?_)) λ _ _ q=>q));simp only [hp,hk,Bool.or_false];refine wpAny_bind (wpAny_pure ?_);refine wpAny_bind (wpAny_mono h1 (λ r s2 hr=> ?_) λ _ _ q=>q);exact wpAny_bind (wpAny_holding (wpAny_point (wpAny_pure hr)))
end L2
namespace L2
open PySem PySem.Spec PyProof.Rows
theorem Qw {prog:Program} {w:World} {A:Around} (hh:A.handled=none) (tp:Bool) (it l:Addr) (hne:l≠it) (items:Array Value):
    Draws prog w A it [it,l] items.size (λ i v=>items[i]?=some v) (λ i h=>Bu tp h it l i/\BD tp h l items) where
  live:=λ _ _ st=>let ⟨o,e,_⟩:=Bv st.1;⟨o,e⟩
  frame:=λ _ _ _ st hk=>⟨AL st.1 λ o e=>hk it (by simp) o e,Cb st.2 λ o e=>hk l (by simp) o e⟩
  item:=λ i s Q E hi st hQ=>Ff st.1 st.2 (x:=items[i]) (by simp [hi]) λ h' hit sb=>hQ _ h' s.toks (by simp [hi]) ⟨hit,Cb st.2 λ o e=>(sb.2 l hne).trans e⟩ sb
  done:=λ s Q E st hE=>Gr hh st.1 st.2 (by simp) hE
noncomputable def Of (tp:Bool) (K:PySem.W.Frag) (a:Addr):It:=
  ⟨λ i H=>∃ xs x,SqS tp K H a xs/\xs[i]?=some x,λ i H v H'=>∃ p x,H p=none/\v= .ref p/\H'=upd H p (.tup [.int ((i+1:Nat):Int),x])/\∀ xs,SqS tp K H a xs->xs[i]?=some x,λ i H=>∃ xs,SqS tp K H a xs/\xs.length<=i⟩
theorem Lg {P:Program} {w:World} {K:PySem.W.Frag} {elts:List Expr} {k:Nat} {pos:Pos} (tp:Bool) (a e it:Addr) (hne:e≠it):
    Turn P w K (.Tuple elts k pos) (Of tp K a) [e,it] e (λ i h=>(∃ old,IsEnum h e it ((i+1:Nat):Int) old)/\Bu tp h it a i) where
  mem:=by simp
  obj:=λ i h st b hb=>by
    obtain ⟨⟨old,he⟩,hi⟩:=st;obtain ⟨o,eo,d⟩:=Bv hi;rcases List.mem_cons.mp hb with z | z
    · subst z;exact ⟨_,he,λ v z=>by cases (show Data.fields _=Data.cell v from z)⟩
    · have z:b=it:=by simpa using z
      subst z;exact ⟨o,eo,λ v z=>by rw [d] at z;cases z⟩
  keep:=λ i h h' st kp=>by
    obtain ⟨⟨old,he⟩,hi⟩:=st;exact ⟨⟨old,kp e (by simp) _ he⟩,AL hi λ o z=>kp it (by simp) o z⟩
  item:=by
    intro X hP hw hK hc i pins s σ H E I hf st hg;subst hP hw hK;obtain ⟨xs,x,hq,hx⟩:=hg;obtain ⟨its,rv,p⟩:=B7 I hq;obtain ⟨u,hu,ru⟩:=rv.get hx;obtain ⟨⟨old,he⟩,hi⟩:=st;obtain ⟨oi,ei,di⟩:=Bv hi;obtain ⟨oa,na,ea,da⟩:=Ek p;have hel:e<s.heap.objs.size:=Heap.lt_size he;have hil:it<s.heap.objs.size:=Heap.lt_size ei;have nia:a≠it:=λ z=>by
      subst z;rw [ei] at ea;cases ea;rw [di] at da;cases da
    have nea:e≠a:=λ z=>by
      subst z;rw [show s.heap.get? e=_ from he] at ea;cases ea;cases (show Data.fields _=Data.seq _ _ from da)
    have hlt:i<its.toArray.size:=by
      have:=(List.getElem?_eq_some_iff.mp hu).1;simpa using this
    have D:=Rm 1 (Qw (prog:=X.prog) (w:=X.w) (A:=X.A.in1) (I.ok.hd hc) tp it a nia its.toArray);refine wpAny_pyNext_enum_itemD (i:=i+1) D he ⟨i,rfl,hi,p⟩ (by omega) hne (by simp [hne,nea]) λ v h' tk pv ho st' hT hsz hk=> ?_;obtain ⟨j,ej,ev⟩:=pv;obtain ⟨j2,ej2,hi',p'⟩:=st';have ej:j=i:=by omega
    have ej2:j2=i+1:=by omega
    subst ej ej2;have ev:v=u:=by
      rw [show its.toArray[j]?=some u by simpa using hu] at ev;exact (Option.some.inj ev).symm
    subst ev;have I0:=I.laid (h':=s.heap.push { cls:= .type "tuple",data:= .seq #[.int ((j+1:Nat):Int) tk,v] }) (a:=s.heap.objs.size) (o:= .tup [.int ((j+1:Nat):Int),x]) (t':=tk+1) (λ _ _ q=>Heap.get?_push_of_some _ q) (Nat.le_refl _)
      ⟨(by show 2<=sizeLine;decide),[.int ((j+1:Nat):Int) tk,v], .cons ⟨_,rfl⟩ (.cons ru .nil),⟨_,Heap.get?_push_size _ rfl,rfl,_,rfl⟩⟩
    have f0:∀ b∈[e,it],DG X pins (upd H s.heap.objs.size (.tup [.int ((j+1:Nat):Int),x])) b:=λ b hb=>K1 (hf b hb) (by
      rcases List.mem_cons.mp hb with z | z
      · rw [z];exact Nat.ne_of_lt hel
      · rw [show b=it by simpa using z];exact Nat.ne_of_lt hil)
    have I1:=Inv.turnedL (t':=tk+1) (h':=h') [e,it] I0 f0 (λ b o hb z=>by
      have hb1:b≠e:=λ q=>hb (by simp [q]);have hb2:b≠it:=λ q=>hb (by simp [q]);rcases Heap.get?_push_cases (show (s.heap.push { cls:= .type "tuple",data:= .seq #[.int ((j+1:Nat):Int) tk,v] }).get? b=some o from z) with ⟨q1,q2⟩ | q
      · rw [q1,q2];exact hT
      · exact hk b o hb1 hb2 q)
    refine ⟨.ref s.heap.objs.size,rfl,wpAny_letOwnedTupleGo_enum (s:={ s with heap:=h',toks:=tk+1 }) ho λ h2 he2 sb=> ?_⟩;exact ⟨.ref s.heap.objs.size,_,Inv.turnedL (t':=tk+1) (h':=h2) [e,it] I1 f0 (λ b o hb z=>(sb.2 b λ q=>hb (by simp [q])).trans z),rfl,⟨_,x,I.fresh,rfl,rfl,λ ys hy=>by rw [Jp I hy hq];exact hx⟩,
      ⟨⟨v,by simpa using he2⟩,AL hi' λ o z=>(sb.2 it hne.symm).trans z⟩,λ b hb=>(f0 b hb).1⟩
  done:=by
    intro X hP hw hK hc i pins s σ H E I hf st hg;subst hP hw hK;obtain ⟨xs,hq,hx⟩:=hg;obtain ⟨its,rv,p⟩:=B7 I hq;obtain ⟨⟨old,he⟩,hi⟩:=st;obtain ⟨oi,ei,di⟩:=Bv hi;obtain ⟨oa,na,ea,da⟩:=Ek p;have hT:s.TypeIs (.ref e) "enumerate":=⟨_,he,rfl⟩;have hl:=rv.length;unfold pyNext;refine wpAny_bind (wpAny_attempt (wpAny_callSpecial?_slot (name:=Str.ofString "__next__") hT F.slot_enumerate_next (wpAny_call_entry F.slot_enumerate_next hT F.entry_enumerate_next ?_ (F.args_enumerate_next_1 _))));show wpAny _ _ (field (.ref e) 2 >>= _) _ _ _;refine wpAny_bind (wpAny_field he rfl (x:= .ref it) rfl ?_);refine wpAny_bind (Gr (A:=X.A.in1) (I.ok.hd hc) hi p (by simp;omega) λ h' x eb hx'=> ?_);obtain ⟨o,ho,hc2⟩:=hx';exact wpAny_bind (wpAny_isInstance (T:="StopIteration") (b:=true) ⟨o,ho,hc2⟩ isSubtype_stop (wpAny_pure ⟨rfl,I.turnedL (t':=s.toks) [e,it] hf λ b o hb z=>eb b o (λ q=>hb (by simp [q])) z⟩))
  self:=λ _ _ _ _ _ st h=>by
    obtain ⟨⟨old,he⟩,_⟩:=st;exact wpAny_pyIter_enum he h
section
variable {X:Cx} {elts:List Expr} {k:Nat} {tpos:Pos} {K:PySem.W.Frag}
def NU (K:PySem.W.Frag) (ta:TA):TI:=λ σ H R=>ta σ H λ vs H1=>∃ tp a,vs=[.ref a]/\(∃ xs,SqS tp K H1 a xs)/\R (Of tp K a) H1
theorem KC {l:Expr} {ta:TA} {p pos kp cp:Pos} {cj:Nat} (hg:Gl X "enumerate") (hm:X.mg "enumerate"=none) (ha:PA X [l] ta) (hK:X.K=K:=by rfl) (hs:starEach [l] X.env=[(false,eval l X.env)]:=by rfl):
    PI X (.Tuple elts k tpos) (.Call (.Name "enumerate" p) [l] [⟨some "start", .Constant (.int 1) cj cp,kp⟩] pos) (NU K ta):=by
  subst hK;intro pins s σ H R I h;refine wpAny_Call_Name_kw (CZ I hg hm IY (Ky (by rw [hs];rfl) rfl (PyProof.Rows.evalArgs_kw2 rfl ?_ (by rw [hs];rfl))));refine thn (ha pos pins s σ H _ I h) λ us s1 ⟨vs,H1,I1,r1,q1⟩=>PyProof.Rows.kwAll_cons ?_;refine Ae pins s1 σ H1 (λ v H2=>v= .int 1/\H2=H1) I1 ⟨rfl,rfl⟩ |> λ z=>thn z λ u s2 ⟨v,H2,I2,r2,ev,eh⟩=> ?_
  subst ev eh;obtain ⟨t,rfl⟩:=r2;refine PyProof.Rows.kwAll_nil ?_;obtain ⟨tp,a,e,⟨xs,hq⟩,q⟩:=q1;subst e;cases r1 with
  | cons r rr=>
    cases rr;cases r;obtain ⟨its,rv,pl⟩:=B7 I2 hq;refine K6 ?_;refine GV pl ⟨_,rfl,λ h' he hk hsz=> ?_⟩;refine wpAny_pyIter_enum he ?_;have hz:(s2.heap.push { cls:= .type (IN tp),data:= .fields #[.ref a, .int 0 0] }).objs.size=s2.heap.objs.size+1:=Heap.size_push ..;have hk2:∀ b o,s2.heap.get? b=some o->h'.get? b=some o:=λ b o z=>hk b o (Heap.get?_push_of_some _ z);have I3:=I2.kept (t':=s2.toks) hk2;have st:Bu tp h' s2.heap.objs.size a 0:=AL FJ λ o z=>hk _ o z;refine ⟨_,[_,s2.heap.objs.size],_,_,H2,rfl,I3,Lg tp a _ _ (by rw [hz];exact Nat.succ_ne_self _),⟨⟨_,he⟩,st⟩,λ b hb=> ?_,q⟩;have hb':s2.heap.objs.size<=b:=by
      rcases List.mem_cons.mp hb with z | z
      · rw [z,hz];exact Nat.le_succ _
      · have z:b=s2.heap.objs.size:=by simpa using z
        rw [z];exact Nat.le_refl _
    exact I2.fpOk hb' (I2.hok.fresh hb')
end
noncomputable def Isq (tp:Bool) (K:PySem.W.Frag) (a:Addr):It:=if tp=true then Itt K a else Itl K a
section
variable {X:Cx} {tg:Expr} {K:PySem.W.Frag}
def iSq (K:PySem.W.Frag) (tl:TE):TI:=λ σ H R=>tl σ H λ x H1=>∃ tp a,x= .ref a/\(∃ xs,SqS tp K H1 a xs)/\R (Isq tp K a) H1
theorem L4 {l:Expr} {tl:TE} (hl:PE X l tl) (hK:X.K=K:=by rfl):PI X tg l (iSq K tl):=by
  subst hK;intro pins s σ H R I h;refine thn (hl pins s σ H _ I h) λ v s1 ⟨x,H1,I1,r1,q1⟩=> ?_;obtain ⟨tp,a,e,⟨xs,hq⟩,q⟩:=q1;subst e;cases r1;cases tp with
  | false=>
    obtain ⟨its,rv,p,hz⟩:=I1.list (show SqL X.K H1 a xs from hq);refine wpAny_pyIter_list p.isList ?_;refine ⟨s1.heap.objs.size,[s1.heap.objs.size],_,_,H1,rfl,I1.kept (t':=s1.toks) λ b o e=>Heap.get?_push_of_some _ e,Iw a _,⟨_,Heap.get?_push_size _ rfl,rfl,rfl⟩,λ b hb=> ?_,q⟩;have e:b=s1.heap.objs.size:=by simpa using hb
    subst e;exact I1.fpOk (Nat.le_refl _) (I1.hok.fresh (Nat.le_refl _))
  | true=>
    obtain ⟨its,rv,p,hz⟩:=I1.tuple (show SqT X.K H1 a xs from hq);refine wpAny_pyIter_tuple (show s1.heap.IsTuple a its.toArray from p) ?_;refine ⟨s1.heap.objs.size,[s1.heap.objs.size],_,_,H1,rfl,I1.kept (t':=s1.toks) λ b o e=>Heap.get?_push_of_some _ e,G8 a _,⟨_,Heap.get?_push_size _ rfl,rfl,rfl⟩,λ b hb=> ?_,q⟩;have e:b=s1.heap.objs.size:=by simpa using hb
    subst e;exact I1.fpOk (Nat.le_refl _) (I1.hok.fresh (Nat.le_refl _))
end
structure FSrc (J:It) (g:TG) (H:Hp) (n:Nat) (set:Nat->St->St):Prop where
  go:∀ i H',i<n->Same H H'->J.go i H'
  stop:∀ H',Same H H'->J.stop n H'
  yld:∀ i σ H' x H'' (R:St->Hp->Prop),i<n->Same H H'->J.yld i H' x H''->(∀ H3,Same H' H3->R (set i σ) H3)->g x σ H'' R
theorem Cq {J:It} {g:TG} {H:Hp} {n:Nat} {set:Nat->St->St} {tb:TS} {D:Ends} {σ:St} (S:FSrc J g H n set) (Pv:Nat->St->Hp->Prop) (h0:Pv 0 σ H) (hk:∀ i σ H',Pv i σ H'->Same H H')
    (hs:∀ i σ H' H3,i<n->Pv i σ H'->Same H' H3->tb { D with nx:=Pv (i+1),ct:=Pv (i+1),bk:=D.nx } (set i σ) H3) (hd:∀ σ H',Pv n σ H'->D.nx σ H'):
    ∃ W:Nat->Nat->St->Hp->Prop,(∃ m,W 0 m σ H)/\∀ i m σ H,W i m σ H->
      (J.stop i H/\D.nx σ H)\/(J.go i H/\∃ N:St->Hp->Prop,(∀ σ' H',N σ' H'->∃ m',m'<m/\W (i+1) m' σ' H')/\∀ x H',J.yld i H x H'->g x σ H' λ σ2 H2=>tb { D with nx:=N,ct:=N,bk:=D.nx } σ2 H2):=by
  refine ⟨λ i m σ H'=>m=n - i/\i<=n/\Pv i σ H',⟨n,by simp,Nat.zero_le _,h0⟩,?_⟩;rintro i m σ H1 ⟨rfl,hi,p⟩;by_cases hlt:i<n
  · exact .inr ⟨S.go i H1 hlt (hk _ _ _ p),Pv (i+1),λ σ' H' p'=>⟨n - (i+1),by omega,rfl,hlt,p'⟩,λ x H' y=>S.yld i σ H1 x H' _ hlt (hk _ _ _ p) y λ H3 s3=>hs i σ H1 H3 hlt p s3⟩
  · have e:i=n:=by omega
    subst e;exact .inl ⟨S.stop H1 (hk _ _ _ p),hd σ H1 p⟩
section
variable {K:PySem.W.Frag} {H:Hp} {a b:Addr} {xs zs:List V} {tp t1 t2:Bool} {i1 i2:Nat}
theorem LN (h:SqS tp K H a xs):FSrc (Isq tp K a) (AK i1) H xs.length (λ i σ=>σ.set i1 (some (xs.getD i .non))):=by
  cases tp with
  | false=>exact {
      go:=λ i H' hi s=>⟨xs,xs[i],SqS.same (tp:=false) h s,by simp [hi]⟩
      stop:=λ H' s=>⟨xs,SqS.same (tp:=false) h s,Nat.le_refl _⟩
      yld:=λ i σ H' x H'' R hi s y k=>by
        obtain ⟨e,hv⟩:=y;subst e;have e:x=xs.getD i .non:=by
          rw [List.getD_eq_getElem?_getD,hv xs (SqS.same (tp:=false) h s)];rfl
        subst e;exact k _ (Same.refl _) }
  | true=>exact {
      go:=λ i H' hi s=>⟨xs,xs[i],SqS.same (tp:=true) h s,by simp [hi]⟩
      stop:=λ H' s=>⟨xs,SqS.same (tp:=true) h s,Nat.le_refl _⟩
      yld:=λ i σ H' x H'' R hi s y k=>by
        obtain ⟨e,hv⟩:=y;subst e;have e:x=xs.getD i .non:=by
          rw [List.getD_eq_getElem?_getD,hv xs (SqS.same (tp:=true) h s)];rfl
        subst e;exact k _ (Same.refl _) }
theorem Je (h:SqL K H a xs):FSrc (Itl K a) (AK i1) H xs.length (λ i σ=>σ.set i1 (some (xs.getD i .non))):=LN (tp:=false) h
theorem J1 {lo:Int} {n:Nat}:FSrc (Itr lo n) (AK i1) H n (λ i σ=>σ.set i1 (some (.int (lo+i)))) where
  go:=λ i H' hi s=>hi
  stop:=λ H' s=>Nat.le_refl _
  yld:=λ i σ H' x H'' R hi s y k=>by
    obtain ⟨e,hv⟩:=y;subst e hv;exact k _ (Same.refl _)
theorem Kf (h:SqS tp K H a xs):FSrc (Of tp K a) (GW K 2 (BB (AK i1) (BB (AK i2) HS))) H xs.length (λ i σ=>(σ.set i1 (some (.int ((i+1:Nat):Int)))).set i2 (some (xs.getD i .non))) where
  go:=λ i H' hi s=>⟨xs,xs[i],h.same s,by simp [hi]⟩
  stop:=λ H' s=>⟨xs,h.same s,Nat.le_refl _⟩
  yld:=λ i σ H' x H'' R hi s y k=>by
    obtain ⟨p,v,hp,rfl,rfl,hv⟩:=y;have e:v=xs.getD i .non:=by
      rw [List.getD_eq_getElem?_getD,hv xs (h.same s)];rfl
    subst e;exact ⟨p,_,rfl,SqT.of Ac,rfl,_,_,rfl,_,_,rfl,rfl,k _ (Ai hp)⟩
theorem LO (h:SqL K H a xs):FSrc (Ite K a) (GW K 2 (BB (AK i1) (BB (AK i2) HS))) H xs.length (λ i σ=>(σ.set i1 (some (.int i))).set i2 (some (xs.getD i .non))) where
  go:=λ i H' hi s=>⟨xs,xs[i],s.seq h,by simp [hi]⟩
  stop:=λ H' s=>⟨xs,s.seq h,Nat.le_refl _⟩
  yld:=λ i σ H' x H'' R hi s y k=>by
    obtain ⟨p,v,hp,rfl,rfl,hv⟩:=y;have e:v=xs.getD i .non:=by
      rw [List.getD_eq_getElem?_getD,hv xs (s.seq h)];rfl
    subst e;exact ⟨p,_,rfl,SqT.of Ac,rfl,_,_,rfl,_,_,rfl,rfl,k _ (Ai hp)⟩
theorem UX (h:SqS t1 K H a xs) (h':SqS t2 K H b zs) (hl:xs.length=zs.length):
    FSrc (Izs t1 t2 K a b) (GW K 2 (BB (AK i1) (BB (AK i2) HS))) H xs.length (λ i σ=>(σ.set i1 (some (xs.getD i .non))).set i2 (some (zs.getD i .non))) where
  go:=λ i H' hi s=>⟨xs,zs,xs[i],zs[i]'(by omega),h.same s,h'.same s,by simp [hi],by simp⟩
  stop:=λ H' s=>⟨xs,zs,h.same s,h'.same s, .inl (Nat.le_refl _)⟩
  yld:=λ i σ H' x H'' R hi s y k=>by
    obtain ⟨p,v,z,hp,rfl,rfl,hv,hz⟩:=y;have e:v=xs.getD i .non:=by
      rw [List.getD_eq_getElem?_getD,hv xs (h.same s)];rfl
    have e2:z=zs.getD i .non:=by
      rw [List.getD_eq_getElem?_getD,hz zs (h'.same s)];rfl
    subst e e2;exact ⟨p,_,rfl,SqT.of Ac,rfl,_,_,rfl,_,_,rfl,rfl,k _ (Ai hp)⟩
theorem FSrc.src {J:It} {g:TG} {n:Nat} {set:Nat->St->St} {σ0:St} (S:FSrc J g H n set) (kp:∀ i,i<n->Kp σ0 (set i σ0)):SrcOk J g σ0 H n (λ i=>set i σ0) where
  go:=S.go
  stop:=S.stop
  yld:=λ i H' x H'' R hi s y k=>S.yld i σ0 H' x H'' R hi s y k
  kp:=kp
theorem NW {σ0:St} (h:SqS tp K H a xs) (h0:σ0[0]?=some none):SrcOk (Isq tp K a) (AK 0) σ0 H xs.length (λ i=>σ0.set 0 (some (xs.getD i .non))):=(LN h).src λ i _=>(Kp.refl _).set h0
theorem Mj {σ0:St} (h:SqS tp K H a xs) (h0:σ0[0]?=some none) (h1:σ0[1]?=some none):SrcOk (Of tp K a) (GW K 2 (BB (AK 0) (BB (AK 1) HS))) σ0 H xs.length (λ i=>(σ0.set 0 (some (.int ((i+1:Nat):Int)))).set 1 (some (xs.getD i .non))):=
  (Kf h).src λ i _=>((Kp.refl _).set h0).set h1
end
theorem bA (a b:Nat):Builtin.bitAnd (a:Int) (b:Int)=((a &&& b:Nat):Int):=by
  rw [PyProof.Rows.bitAnd_pp (by omega) (by omega)];rfl
theorem bO (a b:Nat):Builtin.bitOr (a:Int) (b:Int)=((a ||| b:Nat):Int):=by
  have h:=MM.or_add_and a b;rw [PyProof.Rows.bitOr_and,bA];omega
theorem bX (a b:Nat):Builtin.bitXor (a:Int) (b:Int)=((a ^^^ b:Nat):Int):=by
  have h:=MM.xor_eq a b;show Builtin.bitOr (a:Int) b - Builtin.bitAnd (a:Int) b=_;rw [bO,bA];omega
theorem O0 (m:Nat):((Builtin.Int.intBits (m:Int):Nat):Int)=((MM.bits m:Nat):Int):=by
  unfold Builtin.Int.intBits MM.bits;by_cases h:m=0
  · subst h;rfl
  · have e:((m:Int) == 0)=false:=by simp [h]
    rw [e,if_neg h];simp
theorem Fa (n:Nat):(1:Int)*2 ^ n=((2 ^ n:Nat):Int):=by
  rw [Int.one_mul];push_cast;rfl
section
variable {X:Cx}
def rBits:V->List V->Hp->VK->Prop:=λ x vs H Q=>∃ i:Int,x= .int i/\vs=[]/\Q (.int (Builtin.Int.intBits i:Nat)) H
theorem Ia:MtM X "int.bit_length" rBits:=by
  intro pins s σ H x vs v us Q I rx rv h;obtain ⟨i,rfl,rfl,q⟩:=h;obtain ⟨t,rfl⟩:=rx;have hus:=rv.zero;subst hus;exact PyProof.Rows.call_int_bit_length ⟨.int _,H,I.tok _,⟨_,rfl⟩,q⟩
end
section
variable {H:Hp} {Q:VK} {σ:St} {D:Ends} {te:TE} {ti:TIp} {i:Nat} {x:V}
theorem ON {m:Nat} (h:Q (.int (MM.bits m:Nat)) H):rBits (.int (m:Nat)) [] H Q:=⟨m,rfl,rfl,by rw [O0];exact h⟩
theorem NM (e:σ[i]?=some (some x)) (h:te σ H λ y H1=>ti x y H1 λ z H2=>D.nx (σ.set i (some z)) H2):Tt i te ti D σ H:=⟨x,e,h⟩
end
noncomputable abbrev nV (n:Nat):V:= .int (n:Nat)
theorem Bb {ns:List Nat} {i:Nat} (h:i<(ns.map nV).length):(ns.map nV).getD i .non= .int (ns.getD i 0:Nat):=by
  have h':i<ns.length:=by simpa using h
  simp [List.getD_eq_getElem?_getD,h']
theorem BP {ns:List Int} {i:Nat} (h:i<(ns.map V.int).length):(ns.map V.int).getD i .non= .int (ns.getD i 0):=by
  have h':i<ns.length:=by simpa using h
  simp [List.getD_eq_getElem?_getD,h']
theorem Pd {ns:List Int} {k:Int} (h0:0<=k) (h1:k<ns.length):atI (ns.map V.int) k=some (.int (ns.getD k.toNat 0)):=by
  obtain ⟨j,rfl⟩:∃ j:Nat,k=j:=⟨k.toNat,by omega⟩;have h':j<ns.length:=by omega
  refine Am ?_;rw [show ((j:Int)).toNat=j by omega];simp [List.getD_eq_getElem?_getD,h']
theorem Kq {ns:List Nat} {k:Int} (h0:0<=k) (h1:k<ns.length):atI (ns.map nV) k=some (.int (ns.getD k.toNat 0:Nat)):=by
  obtain ⟨j,rfl⟩:∃ j:Nat,k=j:=⟨k.toNat,by omega⟩;have h':j<ns.length:=by omega
  refine Am ?_;rw [show ((j:Int)).toNat=j by omega];simp [List.getD_eq_getElem?_getD,h']
theorem Ix {ns:List Nat} {i:Nat} (h:i<ns.length):ns.take (i+1)=ns.take i++[ns.getD i 0]:=by
  rw [List.take_succ_eq_append_getElem h];simp [List.getD_eq_getElem?_getD,h]
theorem BI {J:It} {g:TG} {σ0:St} {H:Hp} {n:Nat} {st:Nat->St} {te:TE} {Q:VK} {D:Addr} {G:Nat->Int} (S:SrcOk J g σ0 H n st) (hD:H D=none) (hn:n<=100000)
    (he:∀ i H' (R:VK),i<n->Same H H'->(∀ H3,Same H' H3->R (.int (G i)) H3)->te (st i) H' R)
    (hd:∀ H',Same H H'->H' D=some (.lst (((List.range n).map G).map V.int))->Q (.ref D) H'):F8 J σ0 g Oz te Q H D:=by
  refine AF (m:=0) (G:=λ i=> .int (G i)) S hD hn (λ i H' R hi s k=>he i H' R hi s λ H3 s3=>k H3 _ s3 (.int _)) λ H' ys s hl r=> ?_;have e:(List.range n).map (λ i=>Dt.int (G i))=((List.range n).map G).map Dt.int:=by rw [List.map_map];rfl
  rw [e] at r;obtain ⟨b,eb,hb,fb⟩:=LH r;cases eb;exact hd H' s hb
theorem Du {J:It} {g:TG} {σ0:St} {H:Hp} {n:Nat} {st:Nat->St} {tc:TT} {te:TE} {Q:VK} {D:Addr} {p:Nat->Bool} {G:Nat->Int} (S:SrcOk J g σ0 H n st) (hD:H D=none) (hn:n<=100000)
    (ht:∀ i H' (R:Bool->Hp->Prop),i<n->Same H H'->(∀ H3,Same H' H3->R (p i) H3)->tc (st i) H' R)
    (he:∀ i H' (R:VK),i<n->p i=true->Same H H'->(∀ H3,Same H' H3->R (.int (G i)) H3)->te (st i) H' R)
    (hd:∀ H',Same H H'->H' D=some (.lst ((((List.range n).filter p).map G).map V.int))->Q (.ref D) H'):F8 J σ0 g tc te Q H D:=by
  refine B8 (m:=0) (p:=p) (G:=λ i=> .int (G i)) S hD hn ht (λ i H' R hi hp s k=>he i H' R hi hp s λ H3 s3=>k H3 _ s3 (.int _)) λ H' ys s hl r=> ?_;have e:((List.range n).filter p).map (λ i=>Dt.int (G i))=(((List.range n).filter p).map G).map Dt.int:=by rw [List.map_map];rfl
  rw [e] at r;obtain ⟨b,eb,hb,fb⟩:=LH r;cases eb;exact hd H' s hb
theorem CP {J:It} {g:TG} {σ0:St} {H:Hp} {n:Nat} {st:Nat->St} {te:TE} {Q:VK} {D:Addr} {G:Nat->Bool} (S:SrcOk J g σ0 H n st) (hD:H D=none) (hn:n<=100000)
    (he:∀ i H' (R:VK),i<n->Same H H'->(∀ H3,Same H' H3->R (.bl (G i)) H3)->te (st i) H' R)
    (hd:∀ H',Same H H'->H' D=some (.lst (((List.range n).map G).map V.bl))->Q (.ref D) H'):F8 J σ0 g Oz te Q H D:=by
  refine AF (m:=0) (G:=λ i=> .bl (G i)) S hD hn (λ i H' R hi s k=>he i H' R hi s λ H3 s3=>k H3 _ s3 (.bl _)) λ H' ys s hl r=> ?_;have e:ys=((List.range n).map G).map V.bl:=by
    cases r with
    | @lst _ _ vs _ q f b l ee=>
      rw [hl] at q;cases q;refine List.ext_getElem (by simpa using l) λ i h1 h2=> ?_;have hi:i<n:=by simpa using h2
      have:=ee i ys[i] (.bl (G i)) (by simp [h1]) (by simp [hi]);cases hv:ys[i] <;> rw [hv] at this <;> cases this;simp
  rw [e] at hl;exact hd H' s hl
def J9 (P:Program) (w:World) (K:PySem.W.Frag) (mg:Str->Option Value) (base:Heap) (x:Str) (C:Addr) (k:Nat) (ps:List Str) (sp:Sp):Prop:=
  ∃ f fd,mg x=some (.ref C)/\Mk K C f/\FnOk P w K mg base CX0 k f fd ps sp/\Binds K fd ps []
def BE (P:Program) (w:World) (K:PySem.W.Frag) (mg:Str->Option Value) (base:Heap) (C:Addr) (m:Str) (k:Nat) (ps:List Str) (sp:Sp):Prop:=
  ∃ f fd,Cls K C/\Meth K C m f/\FnOk P w K mg base CX0 k f fd ps sp/\Binds K fd ps []
section
variable {X:Cx} {x m:Str} {C:Addr} {k:Nat} {ps:List Str} {sp:Sp} {o e:Expr} {es:List Expr} {t:TA} {ta:TE} {p pos apos:Pos}
theorem J4 (h:J9 X.prog X.w X.K X.mg X.base x C k ps sp) (hr:Room (k+1) X.A) (ha:PA X (e::es) t) (hg:Gl X x:=by rfl) (hdb:(x == ("__debug__":Str))=false:=by decide)
    (he:starEach (e::es) X.env=(false,eval e X.env)::starEach es X.env:=by rfl) (hpl:(backTo pos (starEach es X.env)).any (·.1)=false:=by rfl):
    PE X (.Call (.Name x p) (e::es) [] pos) (Fy C sp [] E0 t):=by
  obtain ⟨f,fd,hm,M,F,hb⟩:=h;exact Jx M F hr hg hm hb .nil LC ha hdb he hpl
theorem Ni {pl:Sem Bool} (he:PE X o ta) (h:BE X.prog X.w X.K X.mg X.base C m k ps sp) (hr:Room k X.A) (ha:PA X (e::es) t)
    (hst:starEach (e::es) X.env=(false,eval e X.env)::starEach es X.env:=by rfl) (hpl:(backTo pos (starEach es X.env)).any (·.1)=false:=by rfl)
    (ht:eval (.Call (.Attribute o m apos) (e::es) [] pos) X.env=(do
      let ov <-eval o X.env
      standAt apos.atName
      let (f,first) <-holding [ov] (getMethod ov m pl)
      callWith pos f first (backTo pos (starEach (e::es) X.env)) (backToKw pos (keywordEach [] X.env))):=by rfl):
    PE X (.Call (.Attribute o m apos) (e::es) [] pos) (Dz C m sp [] E0 ta t):=by
  obtain ⟨f,fd,c,hm,F,hb⟩:=h;exact OR (pl:=pl) he c hm F hr hb .nil LC ha hst hpl ht
theorem Bj {pl:Sem Bool} (he:PE X o ta) (h:BE X.prog X.w X.K X.mg X.base C m k ps sp) (hr:Room k X.A)
    (ht:eval (.Call (.Attribute o m apos) [] [] pos) X.env=(do
      let ov <-eval o X.env
      standAt apos.atName
      let (f,first) <-holding [ov] (getMethod ov m pl)
      callWith pos f first (backTo pos (starEach [] X.env)) (backToKw pos (keywordEach [] X.env))):=by rfl):
    PE X (.Call (.Attribute o m apos) [] [] pos) (Dz C m sp [] E0 ta Gf):=by
  obtain ⟨f,fd,c,hm,F,hb⟩:=h;exact Kt (pl:=pl) he c hm F hr hb .nil LC ht
theorem E5 {x:Str} {C:Addr} {pos:Pos} (h:X.mg x=some (.ref C)) (hg:Gl X x:=by rfl) (hd:(x == ("__debug__":Str))=false:=by decide):PE X (.Name x pos) (tC (.ref C)):=Jj hg h rfl hd
def Lo (K:PySem.W.Frag):List V->Hp->VK->Prop:=λ xs H Q=>∃ (y:V) (C:Addr) (t:Value) (b:Bool),xs=[y, .ref C]/\TyOf K H y t/\PySem.W.kitOne K t (.ref C)=some b/\Q (.bl b) H
theorem PK {K:PySem.W.Frag} (hK:X.K=K:=by rfl):BA X (.builtin "isinstance") (Lo K):=by
  subst hK;intro pins s σ H xs us Q I r h;obtain ⟨y,C,t,b,rfl,ty,e,q⟩:=h;obtain ⟨u,c,rfl,rx,rc⟩:=Nw r;cases rc;exact Fz I rx ty e λ tk=>⟨.bl b,H,I.tok tk,rfl,q⟩
end
structure Kind (K:PySem.W.Frag) (C:Addr):Prop where
  cl:Cls K C
  ha:PySem.W.findIn K (.ref C) "__class__"=some (some (.builtin "object.__class__"))
  hn:PySem.W.specialIn K (.builtin "object.__class__") "__get__"=some (some (.builtin "getset_descriptor.__get__"))
  htk:PySem.W.takesIn K (.builtin "object.__class__")=some true
  hm:PySem.W.mroIn K C (.type "object")=some true
theorem Kind.ty {K:PySem.W.Frag} {C a dx:Addr} {H:Hp} {fs:List (Str × V)} (k:Kind K C) (e:H a=some (.ins C dx fs)):TyOf K H (.ref a) (.ref C):= .ins e k.cl k.ha k.hn k.htk k.hm
section
variable {K:PySem.W.Frag} {H:Hp} {Q:VK} {σ:St} {D:Ends} {te tv:TE} {t:TA} {a C dx:Addr} {fs:List (Str × V)} {f:Str} {v:V} {sp:Sp}
theorem Nk {y:V} {ty:Value} {b:Bool} (c:TyOf K H y ty) (e:PySem.W.kitOne K ty (.ref C)=some b) (h:Q (.bl b) H):Lo K [y, .ref C] H Q:=⟨y,C,ty,b,rfl,c,e,h⟩
theorem QM (h:te σ H λ x H1=>∃ a C dx fs v,x= .ref a/\H1 a=some (.ins C dx fs)/\Cls K C/\NoAttr K C f/\fs.lookup f=some v/\Q v H1):RJ K te f σ H Q:=h
theorem RG (h:tv σ H λ y H1=>te σ H1 λ x H2=>∃ a C dx fs,x= .ref a/\H2 a=some (.ins C dx fs)/\Cls K C/\NoAttr K C f/\fs.length<1000/\D.nx σ (upd H2 a (.ins C dx (AR f y fs)))):Ts K te tv f D σ H:=h
theorem Be {y:V} (e:H a=some (.ins C dx fs)) (c:Cls K C) (n:NoAttr K C f) (l:fs.length<1000) (h:D.nx σ (upd H a (.ins C dx (AR f y fs)))):∃ a' C' dx' fs',V.ref a= .ref a'/\H a'=some (.ins C' dx' fs')/\Cls K C'/\NoAttr K C' f/\fs'.length<1000/\D.nx σ (upd H a' (.ins C' dx' (AR f y fs'))):=⟨a,C,dx,fs,rfl,e,c,n,l,h⟩
theorem OB (h:t σ H λ vs H1=>∀ x dx,H1 x=none->H1 dx=none->dx≠x->sp (.ref x::vs) (upd (upd H1 dx (.own x)) x (.ins C dx [])) (λ v H2=>v= .non/\Q (.ref x) H2) E0):Fy C sp [] E0 t σ H Q:=by
  unfold Fy;simpa using h
theorem PB {m:Str} (h:te σ H λ x H1=>∃ a dx fs,x= .ref a/\H1 a=some (.ins C dx fs)/\fs.lookup m=none/\t σ H1 λ vs H2=>sp (x::vs) H2 Q E0):Dz C m sp [] E0 te t σ H Q:=by
  unfold Dz;simpa using h
end
theorem NY {r r':R2} {ta tb tc:TE} {σ:St} {H:Hp} {Q:VK} (h:ta σ H λ x H1=>tb σ H1 λ y H2=>r x y H2 λ z H3=>∃ k,z= .bl k/\(if k=true then tc σ H3 λ w' H4=>r' y w' H4 Q else Q (.bl false) H3)):NB r r' ta tb tc σ H Q:=h
noncomputable def Bx (x:V) (a b:Int):Bool:=match x with | .int i=>decide (a<=i)&&decide (i<=b) | _=>false
theorem FZ {b b':Bool} {Q:VK} {H:Hp} (e:b=b') (h:Q (.bl b') H):Q (.bl b) H:=e▸h
theorem JZ {b:Bool} {A B:Prop} (h1:b=true->A) (h2:b=false->B):if b=true then A else B:=by
  cases b with
  | true=>exact h1 rfl
  | false=>exact h2 rfl
theorem DF {H:Hp} {x dx:Addr} {o:HO} {u:HO} (h1:H x=none) (h2:H dx=none):Same H (upd (upd H dx u) x o):=λ b q e=>by
  rw [Aj (Av e h1),Aj (Av e h2)];exact e
mutual
noncomputable def eqD:Dt->Dt->Bool
  | .non, .non=>true
  | .bl a, .bl b=>a == b
  | .int a, .int b=>a == b
  | .str a, .str b=>a == b
  | .bl a, .int b=>(if a then 1 else 0) == b
  | .int a, .bl b=>a == (if b then 1 else 0)
  | .lst xs, .lst ys=>Ca xs ys
  | .tup xs, .tup ys=>Ca xs ys
  | _,_=>false
noncomputable def Ca:List Dt->List Dt->Bool
  | [],[]=>true
  | x::xs,y::ys=>eqD x y&&Ca xs ys
  | _,_=>false
end
theorem Cm:∀ {xs ys:List Dt},xs.length≠ys.length->Ca xs ys=false
  | [],[],h=>absurd rfl h
  | [],_::_,_=>by unfold Ca;rfl
  | _::_,[],_=>by unfold Ca;rfl
  | x::xs,y::ys,h=>by
    unfold Ca;rw [Cm (xs:=xs) (ys:=ys) (λ e=>h (by simp [e])),Bool.and_false]
theorem Cf:∀ {xs ys:List Dt},xs.length=ys.length->Ca xs ys=(List.range xs.length).all λ i=>eqD (xs.getD i .non) (ys.getD i .non)
  | [],[],_=>by unfold Ca;rfl
  | [],_::_,h=>by simp at h
  | _::_,[],h=>by simp at h
  | x::xs,y::ys,h=>by
    unfold Ca;rw [Cf (xs:=xs) (ys:=ys) (by simpa using h),List.length_cons,List.range_succ_eq_map,List.all_cons,List.all_map];rfl
mutual
theorem Ch:∀ d:Dt,eqD d d=true
  | .non=>by unfold eqD;rfl
  | .bl a=>by unfold eqD;simp
  | .int a=>by unfold eqD;simp
  | .str a=>by unfold eqD;simp
  | .lst xs=>by unfold eqD;exact FC xs
  | .tup xs=>by unfold eqD;exact FC xs
theorem FC:∀ d:List Dt,Ca d d=true
  | []=>by unfold Ca;rfl
  | x::xs=>by unfold Ca;rw [Ch x,FC xs];rfl
end
theorem Rp.inj {H:Hp} {F G:Addr->Prop} {n m:Nat} {v:V} {d e:Dt} (r:Rp H F n v d) (r2:Rp H G m v e):d=e:=by
  induction r generalizing m e with
  | non=>cases r2;rfl
  | bl b=>cases r2;rfl
  | int i=>cases r2;rfl
  | str z=>cases r2;rfl
  | @lst n a vs ds h f b l el ih=>
    cases r2 with
    | @lst m _ vs2 ds2 h2 f2 b2 l2 el2=>
      rw [h] at h2;cases h2;congr 1;refine List.ext_getElem (by omega) λ i h1 h3=> ?_;have hv:i<vs.length:=by omega
      exact ih i vs[i] ds[i] (by simp [hv]) (by simp [h1]) (el2 i vs[i] ds2[i] (by simp [hv]) (by simp [h3]))
    | tup h2 _ _ _=>rw [h] at h2;cases h2
  | @tup n a vs ds h b l el ih=>
    cases r2 with
    | @tup m _ vs2 ds2 h2 b2 l2 el2=>
      rw [h] at h2;cases h2;congr 1;refine List.ext_getElem (by omega) λ i h1 h3=> ?_;have hv:i<vs.length:=by omega
      exact ih i vs[i] ds[i] (by simp [hv]) (by simp [h1]) (el2 i vs[i] ds2[i] (by simp [hv]) (by simp [h3]))
    | lst h2 _ _ _ _=>rw [h] at h2;cases h2
section
variable {X:Cx} {pins:List (Addr × Obj)} {σ:St} {H:Hp} {s:Shared}
theorem El {F G:Addr->Prop} {n:Nat} {xs ys:List V} {ds es:List Dt} {its its2:List Value} {A:Around} (r:Vals xs its) (r2:Vals ys its2) (l1:xs.length=ds.length) (l2:ys.length=es.length)
    (el:∀ (i:Nat) (v:V) (d:Dt),xs[i]?=some v->ds[i]?=some d->Rp H F n v d) (el2:∀ (i:Nat) (v:V) (d:Dt),ys[i]?=some v->es[i]?=some d->Rp H G n v d)
    (ih:∀ {v u:V} {d e:Dt} {rv ru:Value},Rp H F n v d->Rp H G n u e->RelV v rv->RelV u ru->SeqAt.EqAt A s rv ru (eqD d e)):
    ∀ j (h1:j<its.toArray.size) (h2:j<its2.toArray.size),SeqAt.EqAt A s its.toArray[j] its2.toArray[j] (eqD (ds.getD j .non) (es.getD j .non)):=λ j h1 h2=>by
  have k1:=r.length;have k2:=r2.length;have h1':j<its.length:=by simpa using h1
  have h2':j<its2.length:=by simpa using h2
  have g1:xs[j]?=some (xs.getD j .non):=by rw [List.getD_eq_getElem?_getD,List.getElem?_eq_getElem (by omega)];rfl
  have g2:ys[j]?=some (ys.getD j .non):=by rw [List.getD_eq_getElem?_getD,List.getElem?_eq_getElem (by omega)];rfl
  have d1:ds[j]?=some (ds.getD j .non):=by rw [List.getD_eq_getElem?_getD,List.getElem?_eq_getElem (by omega)];rfl
  have d2:es[j]?=some (es.getD j .non):=by rw [List.getD_eq_getElem?_getD,List.getElem?_eq_getElem (by omega)];rfl
  obtain ⟨u,e1,ru⟩:=r.get g1;obtain ⟨u2,e2,ru2⟩:=r2.get g2;have q1:its.toArray[j]=u:=by rw [List.getElem?_eq_getElem h1'] at e1;simpa using Option.some.inj e1
  have q2:its2.toArray[j]=u2:=by rw [List.getElem?_eq_getElem h2'] at e2;simpa using Option.some.inj e2
  rw [q1,q2];exact ih (el j _ _ g1 d1) (el2 j _ _ g2 d2) ru ru2
theorem Bh (A:Around):A.in1.units=A.units+1:=rfl
theorem FO (I:Inv X pins σ H s) {F G:Addr->Prop}:∀ {n:Nat} {A:Around} {v u:V} {d e:Dt} {rv ru:Value},Rp H F n v d->Rp H G n u e->RelV v rv->RelV u ru->A.units+n<cLine->SeqAt.EqAt A s rv ru (eqD d e):=by
  intro n;have sc:∀ {n m:Nat} {A:Around} {v u:V} {d e:Dt} {rv ru:Value},Rp H F n v d->Rp H G m u e->(Iy d||IS d)=false->(Iy e||IS e)=false->RelV v rv->RelV u ru->SeqAt.EqAt A s rv ru (eqD d e):=by
    intro n m A v u d e rv ru r r2 n1 n2 rr rr2;cases r with
    | non=>
      cases rr;cases r2 with
      | non=>
        cases rr2;simp only [eqD];exact (show SeqAt.EqAt A s Value.none Value.none true from SeqAt.EqAt.same _)
      | bl x2=>
        cases rr2;simp only [eqD];exact SeqAt.EqAt.none_bool _
      | int x2=>
        obtain ⟨t2,rfl⟩:=rr2;simp only [eqD];exact SeqAt.EqAt.none_int _ _
      | str x2=>
        obtain ⟨t2,rfl⟩:=rr2;simp only [eqD];exact SeqAt.EqAt.none_str _ _
      | lst _ _ _ _ _=>cases n2
      | tup _ _ _ _=>cases n2
    | bl x1=>
      cases rr;cases r2 with
      | non=>
        cases rr2;simp only [eqD];exact SeqAt.EqAt.bool_none _
      | bl x2=>
        cases rr2;simp only [eqD];exact SeqAt.EqAt.bool_bool _ _
      | int x2=>
        obtain ⟨t2,rfl⟩:=rr2;simp only [eqD];exact SeqAt.EqAt.bool_int _ _ _
      | str x2=>
        obtain ⟨t2,rfl⟩:=rr2;simp only [eqD];exact SeqAt.EqAt.bool_str _ _ _
      | lst _ _ _ _ _=>cases n2
      | tup _ _ _ _=>cases n2
    | int x1=>
      obtain ⟨t1,rfl⟩:=rr;cases r2 with
      | non=>
        cases rr2;simp only [eqD];exact SeqAt.EqAt.int_none _ _
      | bl x2=>
        cases rr2;simp only [eqD];exact SeqAt.EqAt.int_bool _ _ _
      | int x2=>
        obtain ⟨t2,rfl⟩:=rr2;simp only [eqD];exact SeqAt.EqAt.int_int _ _ _ _
      | str x2=>
        obtain ⟨t2,rfl⟩:=rr2;simp only [eqD];exact SeqAt.EqAt.int_str _ _ _ _
      | lst _ _ _ _ _=>cases n2
      | tup _ _ _ _=>cases n2
    | str x1=>
      obtain ⟨t1,rfl⟩:=rr;cases r2 with
      | non=>
        cases rr2;simp only [eqD];exact SeqAt.EqAt.str_none _ _
      | bl x2=>
        cases rr2;simp only [eqD];exact SeqAt.EqAt.str_bool _ _ _
      | int x2=>
        obtain ⟨t2,rfl⟩:=rr2;simp only [eqD];exact SeqAt.EqAt.str_int _ _ _ _
      | str x2=>
        obtain ⟨t2,rfl⟩:=rr2;simp only [eqD];exact SeqAt.EqAt.str_str _ _ _ _
      | lst _ _ _ _ _=>cases n2
      | tup _ _ _ _=>cases n2
    | lst _ _ _ _ _=>cases n1
    | tup _ _ _ _=>cases n1
  induction n with
  | zero=>
    intro A v u d e rv ru r r2 rr rr2 hu;exact sc r r2 (by cases r <;> rfl) (by cases r2 <;> rfl) rr rr2
  | succ n ih=>
    intro A v u d e rv ru r r2 rr rr2 hu;have hu':A.units<cLine:=by omega
    cases h1:(Iy d||IS d) with
    | false=>
      cases h2:(Iy e||IS e) with
      | false=>exact sc r r2 h1 h2 rr rr2
      | true=>
        cases r2 with
        | @lst _ b ys es q2 f2 b2 l2 el2=>
          obtain rfl:ru=Value.ref b:=rr2;obtain ⟨its2,rv2,pl2,_⟩:=I.list (SqL.of q2);cases r with
          | non=>cases rr;simp only [eqD];exact SeqAt.EqAt.none_list pl2.isList hu'
          | bl x1=>cases rr;simp only [eqD];exact SeqAt.EqAt.bool_list _ pl2.isList hu'
          | int x1=>obtain ⟨t,rfl⟩:=rr;simp only [eqD];exact SeqAt.EqAt.int_list _ _ pl2.isList hu'
          | str x1=>obtain ⟨t,rfl⟩:=rr;simp only [eqD];exact SeqAt.EqAt.str_list _ _ pl2.isList hu'
          | lst _ _ _ _ _=>cases h1
          | tup _ _ _ _=>cases h1
        | @tup _ b ys es q2 b2 l2 el2=>
          obtain rfl:ru=Value.ref b:=rr2;obtain ⟨its2,rv2,pl2,_⟩:=I.tuple (SqT.of q2);have pl2:s.heap.IsTuple b its2.toArray:=pl2;cases r with
          | non=>cases rr;simp only [eqD];exact SeqAt.EqAt.none_tuple pl2 hu'
          | bl x1=>cases rr;simp only [eqD];exact SeqAt.EqAt.bool_tuple _ pl2 hu'
          | int x1=>obtain ⟨t,rfl⟩:=rr;simp only [eqD];exact SeqAt.EqAt.int_tuple _ _ pl2 hu'
          | str x1=>obtain ⟨t,rfl⟩:=rr;simp only [eqD];exact SeqAt.EqAt.str_tuple _ _ pl2 hu'
          | lst _ _ _ _ _=>cases h1
          | tup _ _ _ _=>cases h1
        | _=>cases h2
    | true=>
      cases r with
      | @lst _ a xs ds q1 f1 b1 l1 el1=>
        obtain rfl:rv=Value.ref a:=rr;obtain ⟨its,rv1,pl,_⟩:=I.list (SqL.of q1);have k1:=rv1.length;cases r2 with
        | @lst _ b ys es q2 f2 b2 l2 el2=>
          obtain rfl:ru=Value.ref b:=rr2;obtain ⟨its2,rv2,pl2,_⟩:=I.list (SqL.of q2);have k2:=rv2.length;by_cases hab:a=b
          · subst hab;have e:=(Rp.lst (n:=n) q1 f1 b1 l1 el1).inj (Rp.lst (n:=n) q2 f2 b2 l2 el2);rw [e,Ch];exact SeqAt.EqAt.same _
          · refine SeqAt.EqAt.of_refs hab ?_;simp only [eqD];by_cases hl:ds.length=es.length
            · rw [Cf hl];have q:=SeqAt.RcAt.lists (A:=A) (e:=λ i=>eqD (ds.getD i .non) (es.getD i .non)) pl.isList pl2.isList (by simp;omega) hu' (El rv1 rv2 l1 l2 el1 el2 λ r r2 rr rr2=>ih r r2 rr rr2 (by rw [Bh];omega));rw [show its.toArray.size=ds.length by simp;omega] at q;exact q
            · rw [Cm hl];exact SeqAt.RcAt.lists_lengths pl.isList pl2.isList (by simp;omega) hu'
        | @tup _ b ys es q2 b2 l2 el2=>
          obtain rfl:ru=Value.ref b:=rr2;obtain ⟨its2,rv2,pl2,_⟩:=I.tuple (SqT.of q2);simp only [eqD];exact SeqAt.EqAt.list_tuple pl.isList (show s.heap.IsTuple b its2.toArray from pl2) hu'
        | non=>cases rr2;simp only [eqD];exact SeqAt.EqAt.list_none pl.isList hu'
        | bl x1=>cases rr2;simp only [eqD];exact SeqAt.EqAt.list_bool _ pl.isList hu'
        | int x1=>obtain ⟨t,rfl⟩:=rr2;simp only [eqD];exact SeqAt.EqAt.list_int _ _ pl.isList hu'
        | str x1=>obtain ⟨t,rfl⟩:=rr2;simp only [eqD];exact SeqAt.EqAt.list_str _ _ pl.isList hu'
      | @tup _ a xs ds q1 b1 l1 el1=>
        obtain rfl:rv=Value.ref a:=rr;obtain ⟨its,rv1,pl,_⟩:=I.tuple (SqT.of q1);have pl:s.heap.IsTuple a its.toArray:=pl;have k1:=rv1.length;cases r2 with
        | @tup _ b ys es q2 b2 l2 el2=>
          obtain rfl:ru=Value.ref b:=rr2;obtain ⟨its2,rv2,pl2,_⟩:=I.tuple (SqT.of q2);have pl2:s.heap.IsTuple b its2.toArray:=pl2;have k2:=rv2.length;by_cases hab:a=b
          · subst hab;have e:=(Rp.tup (n:=n) (F:=F) q1 b1 l1 el1).inj (Rp.tup (n:=n) (F:=G) q2 b2 l2 el2);rw [e,Ch];exact SeqAt.EqAt.same _
          · refine SeqAt.EqAt.of_refs hab ?_;simp only [eqD];have q:=SeqAt.RcAt.tuples (A:=A) (e:=λ i=>eqD (ds.getD i .non) (es.getD i .non)) pl pl2 hu' (El rv1 rv2 l1 l2 el1 el2 λ r r2 rr rr2=>ih r r2 rr rr2 (by rw [Bh];omega));have e1:its.toArray.size=ds.length:=by simp;omega
            have e2:its2.toArray.size=es.length:=by simp;omega
            rw [e1,e2] at q;by_cases hl:ds.length=es.length
            · rw [Cf hl];rw [<-hl,Nat.min_self,beq_self_eq_true,Bool.and_true] at q;exact q
            · rw [Cm hl];rw [beq_eq_false_iff_ne.mpr hl,Bool.and_false] at q;exact q
        | @lst _ b ys es q2 f2 b2 l2 el2=>
          obtain rfl:ru=Value.ref b:=rr2;obtain ⟨its2,rv2,pl2,_⟩:=I.list (SqL.of q2);simp only [eqD];exact SeqAt.EqAt.tuple_list pl pl2.isList hu'
        | non=>cases rr2;simp only [eqD];exact SeqAt.EqAt.tuple_none pl hu'
        | bl x1=>cases rr2;simp only [eqD];exact SeqAt.EqAt.tuple_bool _ pl hu'
        | int x1=>obtain ⟨t,rfl⟩:=rr2;simp only [eqD];exact SeqAt.EqAt.tuple_int _ _ pl hu'
        | str x1=>obtain ⟨t,rfl⟩:=rr2;simp only [eqD];exact SeqAt.EqAt.tuple_str _ _ pl hu'
      | _=>cases h1
def Me (neg:Bool):R2:=λ x y H Q=>∃ (n:Nat) (d e:Dt),n<=30/\Rp H FT n x d/\Rp H FT n y e/\(Iy d&&Iy e||IS d&&IS e)=true/\Q (.bl (if neg then !eqD d e else eqD d e)) H
theorem KJ (hu:X.A.units+64<cLine):OpR X (compareOp .Eq) (Me false):=by
  intro pins s σ H x y v u Q I rx ry h;obtain ⟨n,d,e,hn,r,r2,hs,q⟩:=h;cases r with
  | @lst m a xs ds q1 f1 b1 l1 el1=>
    cases r2 with
    | @lst _ b ys es q2 f2 b2 l2 el2=>
      obtain rfl:v=Value.ref a:=rx;obtain rfl:u=Value.ref b:=ry;obtain ⟨its,rv1,pl,_⟩:=I.list (SqL.of q1);obtain ⟨its2,rv2,pl2,_⟩:=I.list (SqL.of q2);have k1:=rv1.length;have k2:=rv2.length;have q:Q (.bl (Ca ds es)) H:=by
        have q:=q;unfold eqD at q;exact q
      by_cases hl:ds.length=es.length
      · refine SeqAt.eq_listAt (e:=λ i=>eqD (ds.getD i .non) (es.getD i .non)) pl.isList pl2.isList (by simp;omega) (by omega) (El rv1 rv2 l1 l2 el1 el2 λ r r2 rr rr2=>FO I r r2 rr rr2 (by rw [Bh];omega)) ⟨.bl _,H,I,rfl,?_⟩;rw [show its.toArray.size=ds.length by simp;omega, <-Cf hl];exact q
      · refine SeqAt.eq_list_lengthsAt pl.isList pl2.isList (by simp;omega) (by omega) ⟨.bl _,H,I,rfl,?_⟩;rw [<-Cm hl];exact q
    | _=>cases hs
  | @tup m a xs ds q1 b1 l1 el1=>
    cases r2 with
    | @tup _ b ys es q2 b2 l2 el2=>
      obtain rfl:v=Value.ref a:=rx;obtain rfl:u=Value.ref b:=ry;obtain ⟨its,rv1,pl,_⟩:=I.tuple (SqT.of q1);obtain ⟨its2,rv2,pl2,_⟩:=I.tuple (SqT.of q2);have k1:=rv1.length;have k2:=rv2.length;have q:Q (.bl (Ca ds es)) H:=by
        have q:=q;unfold eqD at q;exact q
      refine SeqAt.eq_tupleAt (e:=λ i=>eqD (ds.getD i .non) (es.getD i .non)) (show s.heap.IsTuple a its.toArray from pl) (show s.heap.IsTuple b its2.toArray from pl2) (by omega) (El rv1 rv2 l1 l2 el1 el2 λ r r2 rr rr2=>FO I r r2 rr rr2 (by rw [Bh];omega)) ⟨.bl _,H,I,rfl,?_⟩;have e1:its.toArray.size=ds.length:=by simp;omega
      have e2:its2.toArray.size=es.length:=by simp;omega
      rw [e1,e2];by_cases hl:ds.length=es.length
      · rw [<-hl,Nat.min_self,beq_self_eq_true,Bool.and_true, <-Cf hl];exact q
      · rw [beq_eq_false_iff_ne.mpr hl,Bool.and_false, <-Cm hl];exact q
    | _=>cases hs
  | _=>cases hs
theorem Lk (hu:X.A.units+64<cLine):OpR X (compareOp .NotEq) (Me true):=by
  intro pins s σ H x y v u Q I rx ry h;obtain ⟨n,d,e,hn,r,r2,hs,q⟩:=h;cases r with
  | @lst m a xs ds q1 f1 b1 l1 el1=>
    cases r2 with
    | @lst _ b ys es q2 f2 b2 l2 el2=>
      obtain rfl:v=Value.ref a:=rx;obtain rfl:u=Value.ref b:=ry;obtain ⟨its,rv1,pl,_⟩:=I.list (SqL.of q1);obtain ⟨its2,rv2,pl2,_⟩:=I.list (SqL.of q2);have k1:=rv1.length;have k2:=rv2.length;have q:Q (.bl (!Ca ds es)) H:=by
        have q:=q;unfold eqD at q;exact q
      by_cases hl:ds.length=es.length
      · refine SeqAt.RcNeAt.lists (e:=λ i=>eqD (ds.getD i .non) (es.getD i .non)) pl.isList pl2.isList (by simp;omega) (by omega) (El rv1 rv2 l1 l2 el1 el2 λ r r2 rr rr2=>FO I r r2 rr rr2 (by rw [Bh];omega)) _ _ _ _ ⟨.bl _,H,I,rfl,?_⟩;rw [show its.toArray.size=ds.length by simp;omega, <-Cf hl];exact q
      · refine SeqAt.RcNeAt.lists_lengths pl.isList pl2.isList (by simp;omega) (by omega) _ _ _ _ ⟨.bl _,H,I,rfl,?_⟩;rw [Cm hl] at q;exact q
    | _=>cases hs
  | @tup m a xs ds q1 b1 l1 el1=>
    cases r2 with
    | @tup _ b ys es q2 b2 l2 el2=>
      obtain rfl:v=Value.ref a:=rx;obtain rfl:u=Value.ref b:=ry;obtain ⟨its,rv1,pl,_⟩:=I.tuple (SqT.of q1);obtain ⟨its2,rv2,pl2,_⟩:=I.tuple (SqT.of q2);have k1:=rv1.length;have k2:=rv2.length;have q:Q (.bl (!Ca ds es)) H:=by
        have q:=q;unfold eqD at q;exact q
      refine SeqAt.RcNeAt.tuples (e:=λ i=>eqD (ds.getD i .non) (es.getD i .non)) (show s.heap.IsTuple a its.toArray from pl) (show s.heap.IsTuple b its2.toArray from pl2) (by omega) (El rv1 rv2 l1 l2 el1 el2 λ r r2 rr rr2=>FO I r r2 rr rr2 (by rw [Bh];omega)) _ _ _ _ ⟨.bl _,H,I,rfl,?_⟩;have e1:its.toArray.size=ds.length:=by simp;omega
      have e2:its2.toArray.size=es.length:=by simp;omega
      rw [e1,e2];by_cases hl:ds.length=es.length
      · rw [<-hl,Nat.min_self,beq_self_eq_true,Bool.and_true, <-Cf hl];exact q
      · rw [beq_eq_false_iff_ne.mpr hl,Bool.and_false, <-Cm hl];exact q
    | _=>cases hs
  | _=>cases hs
end
end L2
namespace L2
open PySem PySem.Spec PyProof.Rows
noncomputable abbrev dN (n:Nat):Dt:= .int (n:Nat)
noncomputable def dL (ns:List Nat):Dt:= .lst (ns.map dN)
noncomputable def dT (ns:List Nat):Dt:= .tup (ns.map dN)
noncomputable def dS (zs:List Str):Dt:= .lst (zs.map .str)
noncomputable def dST (zs:List Str):Dt:= .tup (zs.map .str)
noncomputable def dLL (ls:List (List Nat)):Dt:= .lst (ls.map dL)
noncomputable def dTT (ls:List (List Nat)):Dt:= .tup (ls.map dT)
section
variable {H:Hp} {F:Addr->Prop} {n:Nat} {v:V}
theorem Fo {α:Type} {f:α->V} {g:α->Dt} (uniq:∀ (a:α) (v:V),Rp H F n v (g a)->v=f a) {vs:List V} {as:List α} (l:vs.length=(as.map g).length)
    (e:∀ (i:Nat) (v:V) (d:Dt),vs[i]?=some v->(as.map g)[i]?=some d->Rp H F n v d):vs=as.map f:=by
  refine List.ext_getElem (by simpa using l) λ i h1 h2=> ?_;have h3:i<as.length:=by simpa using h2
  rw [List.getElem_map];exact uniq _ _ (e i vs[i] (g as[i]) (by simp [h1]) (by simp [h3]))
theorem Ol (a:Nat) (v:V) (r:Rp H F n v (dN a)):v=nV a:=by cases r;rfl
theorem Na (a:Str) (v:V) (r:Rp H F n v (.str a)):v= .str a:=by cases r;rfl
theorem CO {ns:List Nat} (r:Rp H F n v (dL ns)):∃ a,v= .ref a/\H a=some (.lst (ns.map nV))/\F a/\ns.length<=100000:=by
  unfold dL at r;cases r with
  | @lst m a vs _ h f b l e=>
    have q:=Fo (f:=nV) (λ a v r=>Ol a v r) l e;subst q;exact ⟨a,rfl,h,f,by simpa using b⟩
theorem Dx {ns:List Nat} (r:Rp H F n v (dT ns)):∃ a,v= .ref a/\H a=some (.tup (ns.map nV))/\ns.length<=100000:=by
  unfold dT at r;cases r with
  | @tup m a vs _ h b l e=>
    have q:=Fo (f:=nV) (λ a v r=>Ol a v r) l e;subst q;exact ⟨a,rfl,h,by simpa using b⟩
theorem N8 {zs:List Str} (r:Rp H F n v (dS zs)):∃ a,v= .ref a/\H a=some (.lst (zs.map V.str))/\F a/\zs.length<=100000:=by
  unfold dS at r;cases r with
  | @lst m a vs _ h f b l e=>
    have q:=Fo (f:=V.str) (λ a v r=>Na a v r) l e;subst q;exact ⟨a,rfl,h,f,by simpa using b⟩
theorem Np {zs:List Str} (r:Rp H F n v (dST zs)):∃ a,v= .ref a/\H a=some (.tup (zs.map V.str))/\zs.length<=100000:=by
  unfold dST at r;cases r with
  | @tup m a vs _ h b l e=>
    have q:=Fo (f:=V.str) (λ a v r=>Na a v r) l e;subst q;exact ⟨a,rfl,h,by simpa using b⟩
theorem FR {α:Type} {f:α->V} {g:α->Dt} {as:List α} (k:∀ a∈as,Rp H F n (f a) (g a)):∀ (i:Nat) (v:V) (d:Dt),(as.map f)[i]?=some v->(as.map g)[i]?=some d->Rp H F n v d:=by
  intro i v d h1 h2;rw [List.getElem?_map] at h1 h2;cases e:as[i]? with
  | none=>rw [e] at h1;cases h1
  | some a=>
    rw [e] at h1 h2;cases h1;cases h2;exact k a (List.mem_of_getElem? e)
theorem Gb {a:Addr} {ns:List Nat} (h:H a=some (.lst (ns.map nV))) (f:F a) (b:ns.length<=100000):Rp H F (n+1) (.ref a) (dL ns):= .lst h f (by simpa using b) (by simp) (FR λ k _=> .int _)
theorem Mh {a:Addr} {ns:List Nat} (h:H a=some (.tup (ns.map nV))) (b:ns.length<=100000):Rp H F (n+1) (.ref a) (dT ns):= .tup h (by simpa using b) (by simp) (FR λ k _=> .int _)
theorem X3 {a:Addr} {zs:List Str} (h:H a=some (.lst (zs.map V.str))) (f:F a) (b:zs.length<=100000):Rp H F (n+1) (.ref a) (dS zs):= .lst h f (by simpa using b) (by simp) (FR λ k _=> .str _)
theorem P5 {a:Addr} {zs:List Str} (h:H a=some (.tup (zs.map V.str))) (b:zs.length<=100000):Rp H F (n+1) (.ref a) (dST zs):= .tup h (by simpa using b) (by simp) (FR λ k _=> .str _)
theorem BG {ds:List Dt} (r:Rp H F n v (.lst ds)):∃ m a vs,n=m+1/\v= .ref a/\H a=some (.lst vs)/\F a/\vs.length=ds.length/\vs.length<=100000/\∀ i,i<ds.length->Rp H F m (vs.getD i .non) (ds.getD i .non):=by
  cases r with
  | @lst m a vs _ h f b l e=>
    refine ⟨m,a,vs,rfl,rfl,h,f,l,b,λ i hi=>e i _ _ ?_ ?_⟩
    · rw [List.getD_eq_getElem?_getD,List.getElem?_eq_getElem (by omega)];rfl
    · rw [List.getD_eq_getElem?_getD,List.getElem?_eq_getElem hi];rfl
theorem BX {ds:List Dt} (r:Rp H F n v (.tup ds)):∃ m a vs,n=m+1/\v= .ref a/\H a=some (.tup vs)/\vs.length=ds.length/\vs.length<=100000/\∀ i,i<ds.length->Rp H F m (vs.getD i .non) (ds.getD i .non):=by
  cases r with
  | @tup m a vs _ h b l e=>
    refine ⟨m,a,vs,rfl,rfl,h,l,b,λ i hi=>e i _ _ ?_ ?_⟩
    · rw [List.getD_eq_getElem?_getD,List.getElem?_eq_getElem (by omega)];rfl
    · rw [List.getD_eq_getElem?_getD,List.getElem?_eq_getElem hi];rfl
theorem AM {α β:Type} (f:α->β) (as:List α) (i:Nat) (x:β) (y:α) (h:i<as.length):(as.map f).getD i x=f (as.getD i y):=by simp [List.getD_eq_getElem?_getD,h]
theorem Fj {zs:List Str} {i:Nat} (h:i<(zs.map V.str).length):(zs.map V.str).getD i .non= .str (zs.getD i Str.empty):=AM V.str zs i .non Str.empty (by simpa using h)
theorem AA {α:Type} {as:List α} {i:Nat} {y:α} (h:i<as.length):as.getD i y∈as:=by
  rw [List.getD_eq_getElem?_getD,List.getElem?_eq_getElem h];exact List.getElem_mem h
theorem Iv {α β:Type} (f:α->β) (as:List α) (y:α):(List.range as.length).map (λ i=>f (as.getD i y))=as.map f:=AI f as y
end
theorem Rp.ins {H:Hp} {F:Addr->Prop} {n:Nat} {v:V} {d:Dt} {x C dx:Addr} {fs:List (Str × V)} {o:HO} (r:Rp H F n v d) (h:H x=some (.ins C dx fs)):Rp (L2.upd H x o) F n v d:=by
  induction r with
  | non=>exact .non
  | bl b=>exact .bl b
  | int i=>exact .int i
  | str z=>exact .str z
  | @lst n a vs ds q f b l e ih=>
    refine .lst ?_ f b l ih;rw [Aj (Ee q h (by intro z;cases z))];exact q
  | @tup n a vs ds q b l e ih=>
    refine .tup ?_ b l ih;rw [Aj (Ee q h (by intro z;cases z))];exact q
def But (x:Addr) (H H':Hp):Prop:=∀ b o,H b=some o->b≠x->H' b=some o
theorem But.same {x:Addr} {H H1 H2:Hp} (b:But x H H1) (s:Same H1 H2):But x H H2:=λ a o e n=>s _ _ (b a o e n)
theorem But.of {x:Addr} {H H1:Hp} (s:Same H H1):But x H H1:=λ a o e _=>s _ _ e
theorem But.put {x:Addr} {H H1:Hp} {o:HO} (b:But x H H1):But x H (upd H1 x o):=λ a u e n=>by rw [Aj n];exact b a u e n
theorem But.rp {x:Addr} {H H':Hp} {F:Addr->Prop} {n:Nat} {v:V} {d:Dt} {C dx:Addr} {fs:List (Str × V)} (k:But x H H') (h:H x=some (.ins C dx fs)) (r:Rp H F n v d):Rp H' F n v d:=by
  induction r with
  | non=>exact .non
  | bl b=>exact .bl b
  | int i=>exact .int i
  | str z=>exact .str z
  | @lst n a vs ds q f b l e ih=>exact .lst (k _ _ q (Ee q h (by intro z;cases z))) f b l ih
  | @tup n a vs ds q b l e ih=>exact .tup (k _ _ q (Ee q h (by intro z;cases z))) b l ih
theorem Rp.tupd {H:Hp} {F:Addr->Prop} {n:Nat} {D t:Addr} {ds:List Dt} {ys:List V} (r:Rp H F (n+1) (.ref D) (.lst ds)) (hl:H D=some (.lst ys)) (ht:H t=none):Rp (L2.upd H t (.tup ys)) F (n+1) (.ref t) (.tup ds):=by
  cases r with
  | @lst _ _ vs _ q f b l ee=>
    rw [hl] at q;cases q;exact .tup Ac b l λ i v e h1 h2=>(ee i v e h1 h2).new ht
theorem P6 (ls:List (List Nat)):(List.range ls.length).map (λ i=>dT (ls.getD i []))=ls.map dT:=AI dT ls []
theorem Qc (ls:List (List Nat)):(List.range ls.length).map (λ i=>dL (ls.getD i []))=ls.map dL:=AI dL ls []
section
variable {H:Hp} {a:Addr} {kvs:List (Key × V)}
end
theorem GJ {xs:List V} {k:Int} (h:0<=k):Dd xs (some k) none=xs.drop k.toNat:=by
  unfold Dd;have e2:HT.sIx xs.length xs.length none=xs.length:=rfl;rw [e2];have e1:HT.sIx xs.length 0 (some k)=min k.toNat xs.length:=by
    unfold HT.sIx;simp only;split <;> omega
  rw [e1];by_cases q:k.toNat<=xs.length
  · rw [Nat.min_eq_left q,List.take_of_length_le (by simp)]
  · rw [Nat.min_eq_right (by omega),List.drop_of_length_le (Nat.le_refl _),List.drop_of_length_le (by omega)];simp
theorem KR {xs:List V} {k:Int} (h:0<=k):Dd xs none (some k)=xs.take k.toNat:=by
  unfold Dd;have e2:HT.sIx xs.length 0 none=0:=rfl;rw [e2,List.drop_zero];have e1:HT.sIx xs.length xs.length (some k)=min k.toNat xs.length:=by
    unfold HT.sIx;simp only;split <;> omega
  rw [e1,Nat.sub_zero];by_cases q:k.toNat<=xs.length
  · rw [Nat.min_eq_left q]
  · rw [Nat.min_eq_right (by omega),List.take_of_length_le (Nat.le_refl _),List.take_of_length_le (by omega)]
section
variable {K:PySem.W.Frag} {wi:TI} {own:List Str} {fr:List (Str × Nat)} {g:TG} {tc:TT} {te tl:TE} {tb:TS} {D:Ends} {σ:St} {H:Hp} {Q:VK} {R:It->Hp->Prop} {ta:TA}
theorem PQ (h:wi σ H λ J H1=>∀ D,H1 D=none->F8 J (E8 own fr σ) g tc te Q H1 D):IP wi own fr g tc te σ H Q:=h
theorem Q8 (h:wi σ H λ J H1=>∃ W:Nat->Nat->St->Hp->Prop,(∃ m,W 0 m σ H1)/\∀ i m σ H,W i m σ H->
  (J.stop i H/\D.nx σ H)\/(J.go i H/\∃ N:St->Hp->Prop,(∀ σ' H',N σ' H'->∃ m',m'<m/\W (i+1) m' σ' H')/\∀ x H',J.yld i H x H'->g x σ H' λ σ2 H2=>tb { D with nx:=N,ct:=N,bk:=D.nx } σ2 H2)):UI wi g tb D σ H:=h
theorem Yv (h:tl σ H λ x H1=>∃ a,x= .ref a/\(∃ xs,SqL K H1 a xs)/\R (Itl K a) H1):Od K tl σ H R:=h
theorem Sa (h:tl σ H λ x H1=>∃ a,x= .ref a/\(∃ xs,SqT K H1 a xs)/\R (Itt K a) H1):QK K tl σ H R:=h
theorem T4 (h:tl σ H λ x H1=>∃ tp a,x= .ref a/\(∃ xs,SqS tp K H1 a xs)/\R (Isq tp K a) H1):iSq K tl σ H R:=h
theorem Wx (h:ta σ H λ vs H1=>∃ a,vs=[.ref a]/\(∃ xs,SqL K H1 a xs)/\R (Ite K a) H1):Qb K ta σ H R:=h
theorem VJ (h:ta σ H λ vs H1=>∃ tp a,vs=[.ref a]/\(∃ xs,SqS tp K H1 a xs)/\R (Of tp K a) H1):NU K ta σ H R:=h
theorem Tu (h:ta σ H λ vs H1=>∃ t1 t2 a b,vs=[.ref a, .ref b]/\(∃ xs,SqS t1 K H1 a xs)/\(∃ ys,SqS t2 K H1 b ys)/\R (Izs t1 t2 K a b) H1):iZs K ta σ H R:=h
theorem TB (h:ta σ H λ vs H1=>∃ j:Int,vs=[.int j]/\ -(2 ^ 62)<=j/\j<2 ^ 62/\R (Itr 0 j.toNat) H1):Qg ta σ H R:=h
theorem WU (h:ta σ H λ vs H1=>∃ i j:Int,vs=[.int i, .int j]/\(-(2 ^ 62)<=i/\i<2 ^ 62/\ -(2 ^ 62)<=j/\j<2 ^ 62)/\R (Itr i (j - i).toNat) H1):P7 ta σ H R:=h
theorem VB (h:ta σ H λ vs H1=>∃ i j c:Int,vs=[.int i, .int j, .int c]/\(-(2 ^ 40)<=i/\i<2 ^ 40)/\(-(2 ^ 40)<=j/\j<2 ^ 40)/\(-(2 ^ 20)<=c/\c<2 ^ 20)/\c≠0/\R (Itc i c (Builtin.Range.rangeSize i j c).toNat) H1):Qe ta σ H R:=h
end
theorem Oq {K:PySem.W.Frag} {n:Nat} {t:TGs} {a:Addr} {xs:List V} {σ:St} {H:Hp} {QS:St->Hp->Prop} (h:SqT K H a xs) (l:xs.length=n) (k:t xs σ H QS):GW K n t (.ref a) σ H QS:=⟨a,xs,rfl,h,l,k⟩
theorem Oc {t:TG} {u:TGs} {v:V} {vs:List V} {σ:St} {H:Hp} {QS:St->Hp->Prop} (k:t v σ H λ σ' H'=>u vs σ' H' QS):BB t u (v::vs) σ H QS:=⟨v,vs,rfl,k⟩
theorem Pw {σ:St} {H:Hp} {QS:St->Hp->Prop} (k:QS σ H):HS [] σ H QS:=⟨rfl,k⟩
theorem EZ {J:It} {g:TG} {H0 H:Hp} {n:Nat} {set:Nat->St->St} {tb:TS} {D:Ends} {σ:St} (S:FSrc J g H0 n set) (Pv:Nat->St->Hp->Prop) (h0:Pv 0 σ H) (hk:∀ i σ H',Pv i σ H'->Same H0 H')
    (hs:∀ i σ H' H3,i<n->Pv i σ H'->Same H' H3->tb { D with nx:=Pv (i+1),ct:=Pv (i+1),bk:=D.nx } (set i σ) H3) (hd:∀ σ H',Pv n σ H'->D.nx σ H'):
    ∃ W:Nat->Nat->St->Hp->Prop,(∃ m,W 0 m σ H)/\∀ i m σ H,W i m σ H->
      (J.stop i H/\D.nx σ H)\/(J.go i H/\∃ N:St->Hp->Prop,(∀ σ' H',N σ' H'->∃ m',m'<m/\W (i+1) m' σ' H')/\∀ x H',J.yld i H x H'->g x σ H' λ σ2 H2=>tb { D with nx:=N,ct:=N,bk:=D.nx } σ2 H2):=by
  refine ⟨λ i m σ H'=>m=n - i/\i<=n/\Pv i σ H',⟨n,by simp,Nat.zero_le _,h0⟩,?_⟩;rintro i m σ H1 ⟨rfl,hi,p⟩;by_cases hlt:i<n
  · exact .inr ⟨S.go i H1 hlt (hk _ _ _ p),Pv (i+1),λ σ' H' p'=>⟨n - (i+1),by omega,rfl,hlt,p'⟩,λ x H' y=>S.yld i σ H1 x H' _ hlt (hk _ _ _ p) y λ H3 s3=>hs i σ H1 H3 hlt p s3⟩
  · have e:i=n:=by omega
    subst e;exact .inl ⟨S.stop H1 (hk _ _ _ p),hd σ H1 p⟩
theorem IX {H:Hp} {i1 n:Nat}:FSrc (Itr 0 n) (AK i1) H n (λ i σ=>σ.set i1 (some (.int (i:Nat)))):=by
  have:=J1 (H:=H) (i1:=i1) (lo:=0) (n:=n);simpa using this
theorem Bp {n:Nat} {σ0:St} {H:Hp} (h0:σ0[0]?=some none):SrcOk (Itr 0 n) (AK 0) σ0 H n (λ i=>σ0.set 0 (some (.int (i:Nat)))):=by
  have:=CM (H:=H) (lo:=0) (n:=n) h0;simpa using this
theorem YM {H:Hp} {F:Addr->Prop} {n:Nat} {a:Addr} {x y:V} {d e:Dt} (h:H a=some (.lst [x,y])) (f:F a) (r1:Rp H F n x d) (r2:Rp H F n y e):Rp H F (n+1) (.ref a) (.lst [d,e]):=by
  refine .lst h f (by simp) rfl λ i v u h1 h2=> ?_
  match i with
  | 0=>cases h1;cases h2;exact r1
  | 1=>cases h1;cases h2;exact r2
  | i+2=>cases h1
theorem Gx {H:Hp} {F:Addr->Prop} {n:Nat} {a:Addr} {x y:V} {d e:Dt} (h:H a=some (.tup [x,y])) (r1:Rp H F n x d) (r2:Rp H F n y e):Rp H F (n+1) (.ref a) (.tup [d,e]):=by
  refine .tup h (by simp) rfl λ i v u h1 h2=> ?_
  match i with
  | 0=>cases h1;cases h2;exact r1
  | 1=>cases h1;cases h2;exact r2
  | i+2=>cases h1
theorem P4 {A B:Prop} (h:B):if (!true)=true then A else B:=by simpa using h
theorem SU {A B:Prop} (h:A):if (!false)=true then A else B:=by simpa using h
theorem LP {H:Hp} {F:Addr->Prop} {n:Nat} {a:Addr} {v0 v1 v2 v3 v4 v5 v6:V} {d0 d1 d2 d3 d4 d5 d6:Dt} (h:H a=some (.tup [v0,v1,v2,v3,v4,v5,v6])) (r0:Rp H F n v0 d0) (r1:Rp H F n v1 d1) (r2:Rp H F n v2 d2) (r3:Rp H F n v3 d3) (r4:Rp H F n v4 d4) (r5:Rp H F n v5 d5) (r6:Rp H F n v6 d6):
    Rp H F (n+1) (.ref a) (.tup [d0,d1,d2,d3,d4,d5,d6]):=by
  refine .tup h (by simp) rfl λ i v u h1 h2=> ?_
  match i with
  | 0=>cases h1;cases h2;exact r0
  | 1=>cases h1;cases h2;exact r1
  | 2=>cases h1;cases h2;exact r2
  | 3=>cases h1;cases h2;exact r3
  | 4=>cases h1;cases h2;exact r4
  | 5=>cases h1;cases h2;exact r5
  | 6=>cases h1;cases h2;exact r6
  | i+7=>cases h1
theorem Ci {α:Type} {xs:List α} {n:Nat} (h:xs.length=n+1):∃ x ys,xs=x::ys/\ys.length=n:=by
  cases xs with
  | nil=>cases h
  | cons x ys=>exact ⟨x,ys,rfl,Nat.succ.inj h⟩
theorem Gy {H:Hp} {F:Addr->Prop} {n:Nat} {v:V} {d0 d1 d2 d3 d4 d5 d6:Dt} (r:Rp H F n v (.tup [d0,d1,d2,d3,d4,d5,d6])):∃ m a v0 v1 v2 v3 v4 v5 v6,n=m+1/\v= .ref a/\H a=some (.tup [v0,v1,v2,v3,v4,v5,v6])/\
    Rp H F m v0 d0/\Rp H F m v1 d1/\Rp H F m v2 d2/\Rp H F m v3 d3/\Rp H F m v4 d4/\Rp H F m v5 d5/\Rp H F m v6 d6:=by
  cases r with
  | @tup m a vs _ h b l e=>
    replace l:vs.length=7:=l;obtain ⟨v0,w0,rfl,l0⟩:=Ci l;obtain ⟨v1,w1,rfl,l1⟩:=Ci l0;obtain ⟨v2,w2,rfl,l2⟩:=Ci l1;obtain ⟨v3,w3,rfl,l3⟩:=Ci l2;obtain ⟨v4,w4,rfl,l4⟩:=Ci l3;obtain ⟨v5,w5,rfl,l5⟩:=Ci l4;obtain ⟨v6,w6,rfl,l6⟩:=Ci l5;cases List.eq_nil_of_length_eq_zero l6;exact ⟨m,a,v0,v1,v2,v3,v4,v5,v6,rfl,rfl,h,e 0 _ _ rfl rfl,e 1 _ _ rfl rfl,e 2 _ _ rfl rfl,e 3 _ _ rfl rfl,e 4 _ _ rfl rfl,e 5 _ _ rfl rfl,e 6 _ _ rfl rfl⟩
theorem ifJ {c:TT} {t u:TS} {D:Ends} {σ:St} {H:Hp} (J:St->Hp->Prop) (h1:∀ σ' H',J σ' H'->D.nx σ' H') (h2:(∀ σ' H',J σ' H'->D.nx σ' H')->OD c t u D σ H):OD c t u D σ H:=h2 h1
theorem JC {α:Type} (f:α->List Nat) (xs:List α):Dt.lst (xs.map λ x=>dL (f x))=dLL (xs.map f):=by unfold dLL;rw [List.map_map];rfl
theorem Q3 {α:Type} (f:α->Nat) (xs:List α):Dt.lst (xs.map λ x=>dN (f x))=dL (xs.map f):=by unfold dL;rw [List.map_map];rfl
theorem NG {α:Type} (f:α->Str) (xs:List α):Dt.lst (xs.map λ x=>Dt.str (f x))=dS (xs.map f):=by unfold dS;rw [List.map_map];rfl
theorem Lp (s:Nat) (ns:List Nat):inV (nV s) (ns.map nV)=decide (s∈ns):=by
  unfold inV;rw [Bool.eq_iff_iff,List.any_eq_true,decide_eq_true_eq];constructor
  · rintro ⟨y,hy,e⟩;obtain ⟨k,hk,rfl⟩:=List.mem_map.mp hy;have e:((k:Nat):Int)=(s:Nat):=by simpa [eqV] using e
    have:k=s:=by omega
    exact this▸hk
  · intro h;exact ⟨nV s,List.mem_map.mpr ⟨s,h,rfl⟩,by simp [eqV]⟩
theorem Ku (ns:List Nat):(ns.map nV).all Bf=true:=by simp [Bf]
theorem MP {K:PySem.W.Frag} {H:Hp} {Q:VK} {tp:Bool} {p:Addr} {s:Nat} {ns:List Nat} (c:SqS tp K H p (ns.map nV)) (h:Q (.bl (decide (s∈ns))) H):rIn K false (nV s) (.ref p) H Q:=by
  refine ⟨p,_,rfl,?_,rfl,Ku ns,by rw [Lp];exact h⟩;cases tp with
  | false=>exact .inl c
  | true=>exact .inr c
theorem Fd {vs:List V} {k:Int} {j:Nat} (e:k=j) (h:j<vs.length):atI vs k=some (vs.getD j .non):=by
  subst e;refine Am ?_;rw [List.getD_eq_getElem?_getD,List.getElem?_eq_getElem h];rfl
end L2
namespace L2
theorem Eg {α:Type} {as:List α} {i:Nat} {y:α} (h:i<as.length):as.getD i y=as[i]:=by
  rw [List.getD_eq_getElem?_getD,List.getElem?_eq_getElem h];rfl
end L2
namespace L2
open PySem PySem.Spec PyProof.Rows
theorem WR {f:Nat->Bool} {w:Nat} (h:f w=true):MM.ofB f (w+1)=MM.ofB f w+2 ^ w:=by
  show MM.ofB f w+(f w).toNat*2 ^ w=_;rw [h,Bool.toNat_true,Nat.one_mul]
theorem UH {f:Nat->Bool} {w:Nat} (h:f w=false):MM.ofB f (w+1)=MM.ofB f w:=by
  show MM.ofB f w+(f w).toNat*2 ^ w=_;rw [h,Bool.toNat_false,Nat.zero_mul,Nat.add_zero]
theorem K0 {n j y:Nat} (h:j<n):(List.range n).getD j y=j:=by
  rw [Eg (by simpa using h),List.getElem_range]
theorem MB {α:Type} (f:Nat->α) {n j:Nat} {y:α} (h:j<n):((List.range n).map f).getD j y=f j:=by
  rw [AM f (List.range n) j y 0 (by simpa using h),K0 h]
def Xh (i j:Int):Prop:=0<j/\j<2 ^ 200
theorem Mm {j:Int} (h0:0<j) (h:j<2 ^ 200):j.natAbs.log2<9000:=by
  have h1:j.natAbs<2 ^ 200:=by omega
  have:=(Nat.log2_lt (show j.natAbs≠0 by omega)).mpr h1;omega
theorem GB {X:Cx}:OpR X (binaryOp .FloorDiv) (rI Xh λ i j=> .int (i / j)):=opI λ i j _ _ _ _ _ hc q=>by
  rw [<-Int.fdiv_eq_ediv_of_nonneg i (by have:=hc.1;omega)] at q;exact floordiv_int (by have:=hc.1;omega) q (.inl (PyProof.noPylong_of_log2 (Mm hc.1 hc.2)))
section
variable {prog:Program} {w:World} {A:Around} {E:Value->Shared->Prop} {s:Shared} {T:String} {r d:Addr} {n:Nat} {P:Nat->Value->Prop} {St:Nat->Heap->Prop}
end
section
variable {prog:Program} {w:World} {A:Around} {E:Value->Shared->Prop} {s:Shared}
end
section
variable {X:Cx} {K:PySem.W.Frag} {e o:Expr} {ta:TA} {to:TE} {p p2 pos pos2 apos cpos:Pos}
end
section
variable {X:Cx} {K:PySem.W.Frag} {e o:Expr} {es:List Expr} {ta to:TE} {t:TA} {f name:Str} {pos apos cpos:Pos} {T id:String} {r:V->List V->Hp->VK->Prop}
theorem AV (he:PE X e ta) (hb:attributeBase e f X.env (eval e X.env)=eval e X.env) (hK:X.K=K:=by rfl):PE X (.Attribute e f pos) (RJ K ta f):=by
  subst hK;exact Qu he hb
theorem Rv (pa:PlainAttrs T) (slot:Slot T name id) (hty:typeOf (.builtin id)=pure (.type "method_descriptor")) (hm:MtR X id r) (ho:PE X o to) (hK:X.K=K:=by rfl)
    (hbase:attributeBase o name X.env (eval o X.env)=eval o X.env:=by rfl) (hline:(apos.endLine == cpos.line)=true:=by rfl):PE X (.Call (.Attribute o name apos) [] [] cpos) (QN K T r to):=by
  subst hK;exact RU pa slot hty hm ho hbase hline
theorem IK (pa:PlainAttrs T) (slot:Slot T name id) (hty:typeOf (.builtin id)=pure (.type "method_descriptor")) (hm:MtR X id r) (ho:PE X o to) (ha:PA X (e::es) t) (hK:X.K=K:=by rfl)
    (hbase:attributeBase o name X.env (eval o X.env)=eval o X.env:=by rfl)
    (hfew:((backTo cpos (starEach (e::es) X.env)).all (λ x=> !x.1)&&(backToKw cpos (keywordEach [] X.env)).all (λ x=>x.1.isSome)
      && decide ((e::es).length+([]:List Keyword).length+(if ([]:List Keyword).isEmpty then 0 else 1)<30))=true:=by rfl)
    (hline:(apos.endLine == cpos.line)=true:=by rfl) (hs:starEach (e::es) X.env=(false,eval e X.env)::starEach es X.env:=by rfl) (hplain:(backTo cpos (starEach es X.env)).any (·.1)=false:=by rfl):
    PE X (.Call (.Attribute o name apos) (e::es) [] cpos) (tBM K T r to t):=by
  subst hK;exact YD pa slot hty hm ho ha hbase hfew hline hs hplain
end
section
variable {prog:Program} {w:World} {A:Around} {E:Value->Shared->Prop} {s:Shared}
end
section
variable {X:Cx} {K:PySem.W.Frag} {e o:Expr} {ta:TA} {to:TE} {p p2 pos pos2 apos cpos:Pos}
end
section
variable {X:Cx} {k:Nat} {e o:Expr} {es:List Expr} {t:TA} {to:TE} {pos:Pos} {S:Addr->Sp->Prop}
end
theorem arg1 {α:Type} {P:List α->Prop} (h:∀ a0,P [a0]):∀ us:List α,us.length=1->P us:=λ us hl=>match us,hl with | [a0],_=>h a0
theorem arg2 {α:Type} {P:List α->Prop} (h:∀ a0 a1,P [a0,a1]):∀ us:List α,us.length=2->P us:=λ us hl=>match us,hl with | [a0,a1],_=>h a0 a1
theorem arg3 {α:Type} {P:List α->Prop} (h:∀ a0 a1 a2,P [a0,a1,a2]):∀ us:List α,us.length=3->P us:=λ us hl=>match us,hl with | [a0,a1,a2],_=>h a0 a1 a2
theorem arg4 {α:Type} {P:List α->Prop} (h:∀ a0 a1 a2 a3,P [a0,a1,a2,a3]):∀ us:List α,us.length=4->P us:=λ us hl=>match us,hl with | [a0,a1,a2,a3],_=>h a0 a1 a2 a3
theorem arg5 {α:Type} {P:List α->Prop} (h:∀ a0 a1 a2 a3 a4,P [a0,a1,a2,a3,a4]):∀ us:List α,us.length=5->P us:=λ us hl=>match us,hl with | [a0,a1,a2,a3,a4],_=>h a0 a1 a2 a3 a4
theorem arg6 {α:Type} {P:List α->Prop} (h:∀ a0 a1 a2 a3 a4 a5,P [a0,a1,a2,a3,a4,a5]):∀ us:List α,us.length=6->P us:=λ us hl=>match us,hl with | [a0,a1,a2,a3,a4,a5],_=>h a0 a1 a2 a3 a4 a5
theorem arg7 {α:Type} {P:List α->Prop} (h:∀ a0 a1 a2 a3 a4 a5 a6,P [a0,a1,a2,a3,a4,a5,a6]):∀ us:List α,us.length=7->P us:=λ us hl=>match us,hl with | [a0,a1,a2,a3,a4,a5,a6],_=>h a0 a1 a2 a3 a4 a5 a6
theorem arg8 {α:Type} {P:List α->Prop} (h:∀ a0 a1 a2 a3 a4 a5 a6 a7,P [a0,a1,a2,a3,a4,a5,a6,a7]):∀ us:List α,us.length=8->P us:=λ us hl=>match us,hl with | [a0,a1,a2,a3,a4,a5,a6,a7],_=>h a0 a1 a2 a3 a4 a5 a6 a7
theorem arg9 {α:Type} {P:List α->Prop} (h:∀ a0 a1 a2 a3 a4 a5 a6 a7 a8,P [a0,a1,a2,a3,a4,a5,a6,a7,a8]):∀ us:List α,us.length=9->P us:=λ us hl=>match us,hl with | [a0,a1,a2,a3,a4,a5,a6,a7,a8],_=>h a0 a1 a2 a3 a4 a5 a6 a7 a8
structure BlkScopeC (X:Cx) (scope:Scope) (cx:Str) (own:List Str) (fr:List (Str × Nat)):Prop where
  kind:scope.kind= .function
  onec:∀ y∈scope.names,y.2= .cell->y.1=cx
  isc:scope.names.lookup cx=some .cell
  lay:∀ n cl,cellsFrom n scope.names cl=(cx,n)::cl
  push:∀ h:Heap,pushCells h scope.names=h.push { cls:= .type "cell",data:= .cell none }
  loc:∀ y∈scope.names,y.2= .local->scope.names.lookup y.1=some .local
  free:∀ y∈scope.names,y.2= .free->(X.env.scope.names.lookup y.1=some .cell\/X.env.scope.names.lookup y.1=some .free)
  fr:∀ p∈fr,X.N[p.2]?=some p.1/\(p.1,NameKind.free)∈scope.names
  only:∀ x,(x,NameKind.free)∈scope.names->scope.names.lookup x=some .free
section
variable {X:Cx} {pins:List (Addr × Obj)} {σ:St} {H:Hp} {s:Shared} {scope:Scope} {cx:Str} {own:List Str} {fr:List (Str × Nat)} {fp:List Addr}
end
section
variable {X:Cx}
end
section
variable {X:Cx} {scope:Scope} {cx:Str} {own:List Str} {fr:List (Str × Nat)}
end
section
variable {X:Cx} {K:PySem.W.Frag} {scope:Scope} {fr:List (Str × Nat)}
end
section
variable {X:Cx} {e o:Expr} {es:List Expr} {t:TA} {to:TE} {pos:Pos} {S:Addr->Sp->Prop}
end
section
variable {X:Cx} {K:PySem.W.Frag}
end
end L2
namespace HT
open PySem PySem.Spec PyProof.Rows
variable {prog:Program} {w:World} {A:Around} {E:Value->Shared->Prop} {s:Shared}
theorem getItem_tuple_whole {t sl:Addr} {items:Array Value} {vl vu:Value} {lo hi:Option Int} {Q:Value->Shared->Prop} (ht:IsTup s.heap t items) (hs:s.heap.IsSliceOf sl vl vu .none) (pl:IsPart vl lo) (pu:IsPart vu hi)
    (w1:sIx items.size 0 lo=0) (w2:sIx items.size items.size hi=items.size) (h:Q (.ref t) s):wpAny (model prog w) A (getItem (.ref t) (.ref sl)) Q E s:=by
  obtain ⟨os,hos,hcs,hds⟩:=id hs;have hTs:s.TypeIs (.ref sl) "slice":=⟨os,hos,hcs⟩;unfold getItem
  try with_reducible refine wpAny_holding ?_
  first | refine wpAny_bind (wpAny_pure ?_) | skip
  refine wpAny_bind (wpAny_sequenceKey ht.typeIs (by decide) ?_);refine wpAny_bind (wpAny_callSpecial?_slot (name:=Str.ofString "__getitem__") ht.typeIs PyProof.Rows.slot_tuple_getitem
    (wpAny_call_entry PyProof.Rows.slot_tuple_getitem ht.typeIs entry_tuple_getitem ?_ (args_tuple_getitem _ _)))
  show wpAny _ _ (Builtin.Tuple.tupleItemsOf (.ref t) >>= _) _ _ s;refine wpAny_bind (tupleItemsOf_ ht ?_);refine wpAny_bind (wpAny_typeOf hTs ?_);rw [if_pos (by decide)];refine wpAny_bind (CS hs pl pu ?_);have hyes:(((sIx items.size 0 lo:Nat):Int) == 0&&(1:Int) == 1&&(sIx items.size items.size hi - sIx items.size 0 lo) == items.size)=true:=by
    rw [w1,w2];simp
  show wpAny _ _ (if (((sIx items.size 0 lo:Nat):Int) == 0&&(1:Int) == 1&&(sIx items.size items.size hi - sIx items.size 0 lo) == items.size)=true then _ else _) _ _ s;rw [if_pos hyes];unfold Builtin.Tuple.tupleIsExact;refine wpAny_bind (wpAny_bind (wpAny_typeOf ht.typeIs (wpAny_pure ?_)));rw [if_pos (by decide)];exact wpAny_bind (wpAny_rule (wpAny_pure ⟨_,rfl,wpAny_pure h⟩))
end HT
namespace L2
open PySem PySem.Spec PyProof.Rows
def Wy (K:PySem.W.Frag):V->Option Int->Option Int->Hp->VK->Prop:=λ x lo hi H Q=>∃ a xs,x= .ref a/\SqT K H a xs/\∀ H' p,Same H H'->SqT K H' p (Dd xs lo hi)->Q (.ref p) H'
theorem P9 {X:Cx} {K:PySem.W.Frag} (hK:X.K=K:=by rfl):SlR X (Wy K):=by
  subst hK;intro pins s σ H x v vl vu lo hi sl Q I rx hs pl pu h;obtain ⟨a,xs,rfl,hx,q⟩:=h;by_cases hw:HT.sIx xs.length 0 lo=0/\HT.sIx xs.length xs.length hi=xs.length
  · cases rx;obtain ⟨its,r,ht,hz⟩:=I.tuple hx;have hlen:its.toArray.size=xs.length:=by rw [List.size_toArray];exact r.length.symm
    refine ⟨"tuple",_,PyProof.Rows.slot_tuple_getitem.lookup,ht.typeIs,?_⟩;refine HT.getItem_tuple_whole ht hs pl pu (by rw [hlen];exact hw.1) (by rw [hlen];exact hw.2) ?_;have e:Dd xs lo hi=xs:=by
      unfold Dd;rw [hw.1,hw.2,List.drop_zero,Nat.sub_zero,List.take_of_length_le (Nat.le_refl _)]
    exact ⟨.ref a,H,I,rfl,q H a (Same.refl _) (by rw [e];exact hx)⟩
  · exact Ny pins s σ H _ v vl vu lo hi sl Q I rx hs pl pu ⟨a,xs,rfl,hx,hw,λ p hp=>q _ p (Ai hp) (SqT.of Ac)⟩
theorem Lj {K:PySem.W.Frag} {H:Hp} {Q:VK} {a:Addr} {xs:List V} {lo hi:Option Int} (c:SqT K H a xs) (h:∀ H' p,Same H H'->SqT K H' p (Dd xs lo hi)->Q (.ref p) H'):Wy K (.ref a) lo hi H Q:=⟨a,xs,rfl,c,h⟩
theorem Jn:∀ a b:List Nat,Ca (a.map dN) (b.map dN)=decide (a=b)
  | [],[]=>by simp [Ca]
  | [],_::_=>by simp [Ca]
  | _::_,[]=>by simp [Ca]
  | x::a,y::b=>by
    rw [List.map_cons,List.map_cons];unfold Ca;rw [Jn a b];have e:eqD (dN x) (dN y)=decide (x=y):=by
      show eqD (.int (x:Int)) (.int (y:Int))=_;unfold eqD;rw [Bool.eq_iff_iff,beq_iff_eq,decide_eq_true_iff];omega
    rw [e,Bool.eq_iff_iff];simp
theorem R1 (a b:List Nat):eqD (dT a) (dT b)=decide (a=b):=by
  show eqD (.tup _) (.tup _)=_;unfold eqD;exact Jn a b
theorem Iu (as bs:List Str):EQ (as.map V.str) (bs.map V.str)=decide (as=bs):=by
  rw [Bool.eq_iff_iff,decide_eq_true_iff];unfold EQ;simp only [Bool.and_eq_true,beq_iff_eq,List.length_map,List.all_eq_true,List.mem_range];constructor
  · rintro ⟨h1,h2⟩;refine List.ext_getElem h1 λ i ha hb=> ?_;have h3:=h2 i ha;rw [Fj (by simpa using ha),Fj (by simpa using hb)] at h3;have h4:(as.getD i Str.empty == bs.getD i Str.empty)=true:=h3;rw [beq_iff_eq,Eg ha,Eg hb] at h4;exact h4
  · rintro rfl;refine ⟨rfl,λ i hi=> ?_⟩;rw [Fj (by simpa using hi)];show (as.getD i Str.empty == as.getD i Str.empty)=true;rw [beq_iff_eq]
theorem O3 {K:PySem.W.Frag} {H:Hp} {Q:VK} {l p:Addr} {as bs:List Str} (c:SqL K H l (as.map V.str)) (d:SqL K H p (bs.map V.str)) (h:Q (.bl (decide (as=bs))) H):KL K false (.ref l) (.ref p) H Q:=
  ⟨l,p,_,_,rfl,rfl,c,d,by simp [Bf],by simp [Bf],by rw [Iu];exact h⟩
def DK {α:Type}:Sem α->Prop
  | .rule _ k=>DK (k ())
  | .at _ k=>DK (k ())
  | .load _ _ k=>∀ o,DK (k o)
  | .update _ _ f k=>(∀ o,(f o).dict=o.dict)/\DK (k ())
  | .loadIfAlive _ k=>∀ o,DK (k o)
  | .point _ k=>DK (k ())
  | .alloc _ k=>∀ a,DK (k a)
  | .fresh k=>∀ t,DK (k t)
  | .ask k=>∀ t,DK (k t)
  | .choose _ _ k=>∀ t,DK (k t)
  | .os _ _ k=>∀ t,DK (k t)
  | .call .. => False
  | .handled _ k=>∀ t,DK (k t)
  | .genState _ k=>∀ t,DK (k t)
  | .newGen _ k=>∀ t,DK (k t)
  | .resume .. => False
  | .stack k=>∀ t,DK (k t)
  | .thread k=>∀ t,DK (k t)
  | _=>True
def KD (h h':Heap):Prop:=∀ (b:Nat) (o:Obj),h.objs[b]?=some o->∃ o',h'.objs[b]?=some o'/\o'.dict=o.dict
theorem KD.refl (h:Heap):KD h h:=λ b o e=>⟨o,e,rfl⟩
theorem KD.trans {h h1 h2:Heap} (a:KD h h1) (b:KD h1 h2):KD h h2:=λ c o e=>by
  obtain ⟨o1,e1,d1⟩:=a c o e;obtain ⟨o2,e2,d2⟩:=b c o1 e1;exact ⟨o2,e2,d2.trans d1⟩
theorem Nv {h:Heap} {b:Addr} {o:Obj} (e:h.get? b=some o):h.objs[b]?=some o:=by
  unfold Heap.get? at e;split at e
  · cases e
  · exact e
theorem KD.at' {h h':Heap} (k:KD h h') {b:Addr} {o o':Obj} (e:h.get? b=some o) (e':h'.get? b=some o'):o'.dict=o.dict:=by
  obtain ⟨o1,e1,d1⟩:=k b o (Nv e);rw [Nv e'] at e1;cases e1;exact d1
theorem KD.push (h:Heap) (o:Obj):KD h (h.push o):=λ b u e=>by
  refine ⟨u,?_,rfl⟩;show (h.objs.push o)[b]?=some u;have hb:b<h.objs.size:=(Array.getElem?_eq_some_iff.mp e).1;rw [Array.getElem?_push_lt hb];rw [Array.getElem?_eq_getElem hb] at e;exact e
theorem KD.upd (h:Heap) (a:Addr) {f:Obj->Obj} (hf:∀ o,(f o).dict=o.dict):KD h (h.update a f):=λ b u e=>by
  have hb:b<h.objs.size:=(Array.getElem?_eq_some_iff.mp e).1;show ∃ o',(h.objs.modify a f)[b]?=some o'/\_;rw [Array.getElem?_modify,e];by_cases q:a=b
  · rw [if_pos q];exact ⟨f u,rfl,hf u⟩
  · rw [if_neg q];exact ⟨u,rfl,rfl⟩
theorem VD {α:Type} {M:Model} {Γ:PySem.Ctx}:∀ (t:Sem α) (Q:α->Pos->Shared->Prop) (E:Value->Pos->Shared->Prop) (p:Pos) (s s0:Shared),DK t->KD s0.heap s.heap->Sem.wp M Γ t Q E p s->
    Sem.wp M Γ t (λ a p s'=>Q a p s'/\KD s0.heap s'.heap) (λ a p s'=>E a p s'/\KD s0.heap s'.heap) p s:=by
  intro t
  induction t with
  | pure a=>intro Q E p s s0 _ k h;rw [Sem.wp] at h ⊢;exact ⟨h,k⟩
  | raise e=>intro Q E p s s0 _ k h;rw [Sem.wp] at h ⊢;exact ⟨h,k⟩
  | unsupported w=>intro Q E p s s0 _ k h;rw [Sem.wp] at h;exact h.elim
  | finish e=>intro Q E p s s0 _ k h;rw [Sem.wp] at h;exact h.elim
  | rule t k ih=>intro Q E p s s0 d k h;rw [Sem.wp] at h ⊢;exact ih () Q E p s s0 d k h
  | «at» t k ih=>intro Q E p s s0 d k h;rw [Sem.wp] at h ⊢;exact ih () Q E _ s s0 d k h
  | load a part k ih=>
    intro Q E p s s0 d k h;rw [Sem.wp] at h ⊢;obtain ⟨o,e,h⟩:=h;exact ⟨o,e,ih o Q E p s s0 (d o) k h⟩
  | update a part f k ih=>
    intro Q E p s s0 d k h;rw [Sem.wp] at h ⊢;exact ⟨h.1,ih () Q E p _ s0 d.2 (k.trans (KD.upd s.heap a d.1)) h.2⟩
  | alloc o k ih=>intro Q E p s s0 d k h;rw [Sem.wp] at h ⊢;exact ih _ Q E p _ s0 (d _) (k.trans (KD.push _ _)) h
  | loadIfAlive a k ih=>intro Q E p s s0 d k h;rw [Sem.wp] at h ⊢;exact ih _ Q E p _ s0 (d _) k h
  | point l k ih=>intro Q E p s s0 d k h;rw [Sem.wp] at h ⊢;exact ih _ Q E p _ s0 d k h
  | register a k ih=>intro Q E p s s0 d k h;rw [Sem.wp] at h;exact h.elim
  | fresh k ih=>intro Q E p s s0 d k h;rw [Sem.wp] at h ⊢;exact ih _ Q E p _ s0 (d _) k h
  | ask k ih=>intro Q E p s s0 d k h;rw [Sem.wp] at h ⊢;exact ih _ Q E p _ s0 (d _) k h
  | choose a n k ih=>intro Q E p s s0 d k h;rw [Sem.wp] at h ⊢;exact ⟨h.1,ih _ Q E p _ s0 (d _) k h.2⟩
  | os a n k ih=>intro Q E p s s0 d k h;rw [Sem.wp] at h ⊢;exact ih _ Q E p _ s0 (d _) k h
  | call c a b l k ih=>intro Q E p s s0 d k h;exact d.elim
  | handled a k ih=>intro Q E p s s0 d k h;rw [Sem.wp] at h ⊢;exact ih _ Q E p _ s0 (d _) k h
  | newGen c k ih=>intro Q E p s s0 d k h;rw [Sem.wp] at h ⊢;exact ih _ Q E p _ s0 (d _) k h
  | genState g k ih=>
    intro Q E p s s0 d k h;rw [Sem.wp] at h ⊢;obtain ⟨st,e,h⟩:=h;exact ⟨st,e,ih _ Q E p s s0 (d _) k h⟩
  | resume g r l k ih=>intro Q E p s s0 d k h;exact d.elim
  | yield v g l k ih=>intro Q E p s s0 d k h;rw [Sem.wp] at h;exact h.elim
  | stack k ih=>intro Q E p s s0 d k h;rw [Sem.wp] at h ⊢;exact ih _ Q E p _ s0 (d _) k h
  | fork c k ih=>intro Q E p s s0 d k h;rw [Sem.wp] at h;exact h.elim
  | thread k ih=>intro Q E p s s0 d k h;rw [Sem.wp] at h ⊢;exact ih _ Q E p _ s0 (d _) k h
  | await a t b l k ih=>intro Q E p s s0 d k h;rw [Sem.wp] at h;exact h.elim
theorem DQ {α:Type} {M:Model} {A:Around} {t:Sem α} {Q:α->Shared->Prop} {E:Value->Shared->Prop} {s:Shared} (d:DK t) (h:wpAny M A t Q E s):wpAny M A t (λ a s'=>Q a s'/\KD s.heap s'.heap) (λ e s'=>E e s'/\KD s.heap s'.heap) s:=
  λ Γ p hΓ=>VD t _ _ p s s d (KD.refl _) (h Γ p hΓ)
theorem DK.bind {α β:Type} {f:α->Sem β}:∀ {t:Sem α},DK t->(∀ a,DK (f a))->DK (t >>= f):=by
  intro t;show _->_->DK (Sem.bind t f)
  induction t with
  | pure a=>intro _ h;exact h a
  | raise e=>intro _ _;trivial
  | unsupported w=>intro _ _;trivial
  | finish e=>intro _ _;trivial
  | rule t k ih=>intro d h;exact ih () d h
  | «at» t k ih=>intro d h;exact ih () d h
  | load a part k ih=>intro d h o;exact ih o (d o) h
  | update a part f k ih=>intro d h;exact ⟨d.1,ih () d.2 h⟩
  | alloc o k ih=>intro d h a;exact ih a (d a) h
  | loadIfAlive a k ih=>intro d h o;exact ih o (d o) h
  | point l k ih=>intro d h;exact ih () d h
  | register a k ih=>intro _ _;trivial
  | fresh k ih=>intro d h o;exact ih o (d o) h
  | ask k ih=>intro d h o;exact ih o (d o) h
  | choose a n k ih=>intro d h o;exact ih o (d o) h
  | os a n k ih=>intro d h o;exact ih o (d o) h
  | call c a b l k ih=>intro d h;exact d.elim
  | handled a k ih=>intro d h o;exact ih o (d o) h
  | newGen c k ih=>intro d h o;exact ih o (d o) h
  | genState g k ih=>intro d h o;exact ih o (d o) h
  | resume g r l k ih=>intro d h;exact d.elim
  | yield v g l k ih=>intro _ _;trivial
  | stack k ih=>intro d h o;exact ih o (d o) h
  | fork c k ih=>intro _ _;trivial
  | thread k ih=>intro d h o;exact ih o (d o) h
  | await a t b l k ih=>intro _ _;trivial
theorem AX {α:Type} (a:α):DK (pure a:Sem α):=trivial
theorem CC {α:Type} (w:String):DK (unsupported w:Sem α):=trivial
theorem JA (a:Addr):DK (load a):=λ _=>trivial
theorem Kd (v:Value):DK (fieldsOf v):=by
  unfold fieldsOf;split
  · refine DK.bind (JA _) λ o=> ?_;split
    · exact AX _
    · exact CC _
  · exact CC _
theorem Fq (v:Value) (i:Nat):DK (field v i):=by
  unfold field;refine DK.bind (Kd v) λ vs=> ?_;split
  · exact AX _
  · exact CC _
theorem G7 (f:Array Value->Array Value) (o:Obj):(Obj.mapFields f o).dict=o.dict:=by
  unfold Obj.mapFields;split <;> rfl
theorem IJ (a:Addr) {f:Obj->Obj} (h:∀ o,(f o).dict=o.dict):DK (update a f):=⟨h,trivial⟩
theorem DT (v:Value) (i:Nat) (x:Value):DK (setField v i x):=by
  unfold setField;split
  · unfold updateField;refine DK.bind (JA _) λ o=> ?_;split
    · split
      · exact IJ _ (G7 _)
      · exact CC _
    · exact CC _
  · exact CC _
theorem GD:DK (stack):=λ _=>trivial
theorem DL {α:Type} {c:Prop} [Decidable c] {x y:Sem α} (hx:DK x) (hy:DK y):DK (if c then x else y):=by
  split
  · exact hx
  · exact hy
theorem C4 (e:Value) (f:Option Addr):DK (setFlight e f):=by
  unfold setFlight;refine DK.bind (Fq _ _) λ tb=> ?_;exact DL (DT _ _ _) (AX _)
theorem Mv (env:Env) (outer:List Env):DK (behindIsImport env outer):=by
  unfold behindIsImport;refine DL (AX _) (DL (AX _) ?_);exact DK.bind (Fq _ _) λ _=>AX _
theorem Pm (env:Env) (i:Bool) (l:List Env):DK (keptBack env i l):=by
  unfold keptBack;split
  · refine DL (AX _) ?_;unfold underTheClaimsCaller;exact DK.bind (DK.bind GD λ _=>AX _) λ _=>AX _
  · exact AX _
theorem J6:∀ l:List Env,DK (readyFrames l)
  | []=>trivial
  | env::outer=>by
    unfold readyFrames;split
    · refine DK.bind (JA _) λ o=> ?_;refine DL (AX _) ?_;refine DK.bind (Mv _ _) λ _=>DK.bind (Pm _ _ _) λ _=>DK.bind (IJ _ λ _=>rfl) λ _=>J6 outer
    · exact CC _
theorem KI (env:Env):DK (PySem.frameOf env):=by
  unfold PySem.frameOf;refine DK.bind ?_ λ _=>DK.bind ?_ λ o=> ?_
  · unfold frameEnvs;exact DK.bind GD λ _=>AX _
  · unfold frameObject;split
    · exact AX _
    · exact DK.bind (J6 _) λ _=>AX _
  · split
    · exact AX _
    · exact CC _
theorem JF (ty:String) (vs:List Value):DK (newFields ty vs):=by
  unfold newFields newObj;have hj:DK (newObjAsIs (.type ty) (.fields vs.toArray)):=by
    unfold newObjAsIs;exact λ _=>trivial
  exact DL (DK.bind (CC _) λ _=>hj) hj
theorem NA (f:Addr) (b:Bool):DK (entryPlaceOf f b):=by
  unfold entryPlaceOf;refine DK.bind GD λ _=> ?_;split
  · exact AX _
  · exact AX _
theorem L5 (e:Value) (env:Env):DK (noteFrame e env):=by
  unfold noteFrame;split
  · rename_i f _
    refine DK.bind (Fq _ _) λ head=> ?_;have hj:DK (do
        let fr <-PySem.frameOf env;let pl <-entryPlaceOf f (head != Value.none);let b <-EntryCells.newEntry head fr Value.none (rawInt f) Value.none pl
        setField e 1 b):=DK.bind (KI env) λ _=>DK.bind (NA _ _) λ _=>DK.bind (JF _ _) λ _=>DT _ _ _
    refine DL (DK.bind (Fq _ _) λ _=>DL (AX _) (DK.bind (DT _ _ _) λ _=>hj)) hj
  · exact CC _
theorem GH (env:Env) (e:Value):DK (leaving env e):=by
  unfold leaving;exact DK.bind (L5 _ _) λ _=>C4 _ _
section
variable {M:Model} {A:Around} {E:Value->Shared->Prop} {s:Shared}
theorem Hr {base:Heap} {env:Env} {outer:List Env} {L e:Addr} {cls a0:Value} {Q:Unit->Shared->Prop} (hfr:A.frames=some (env::outer)) (hf:env.frame=some L) (hfl:Heap.FlyingW base (env::outer) e cls a0 s.heap)
    (hQ:∀ h',Heap.FlyingW base outer e cls a0 h'->s.heap.UpToSlots h'->KD s.heap h'->Q () { s with heap:=h' }):wpAny M A (leaving env (.ref e)) Q E s:=
  wpAny_mono (DQ (GH env (.ref e)) (wpAny_leaves_onW (Q:=λ _ s'=>∃ h',s'={ s with heap:=h' }/\Heap.FlyingW base outer e cls a0 h'/\s.heap.UpToSlots h') hfr hf hfl λ h' a b=>⟨h',rfl,a,b⟩))
    (λ _ _ ⟨⟨h',e,a,b⟩,k⟩=>by subst e;exact hQ h' a b k) λ _ _ z=>z.1
theorem Jg {base h:Heap} {env:Env} {outer:List Env} {L e:Addr} {cls:Value} {args:List Value} {Q:Unit->Shared->Prop}
    (hfr:A.frames=some (env::outer)) (hf:env.frame=some L) (hkb:base.StaysIn h) (hl:h.FunFrames base (env::outer)) (hx:Heap.MadeExcOf h s.heap e cls args)
    (hQ:∀ h' t,Heap.FlyingW base outer e cls (.ref t) h'->s.heap.UpToSlots h'->KD s.heap h'->Q () { s with heap:=h' }):wpAny M A (leaving env (.ref e)) Q E s:=
  wpAny_mono (DQ (GH env (.ref e)) (wpAny_leaves_madeW (Q:=λ _ s'=>∃ h' t,s'={ s with heap:=h' }/\Heap.FlyingW base outer e cls (.ref t) h'/\s.heap.UpToSlots h') hfr hf hkb hl hx λ h' t a _ _ b=>⟨h',t,rfl,a,b⟩))
    (λ _ _ ⟨⟨h',t,e,a,b⟩,k⟩=>by subst e;exact hQ h' t a b k) λ _ _ z=>z.1
theorem MK {base:Heap} {env:Env} {outer:List Env} {L e:Addr} {cls a0:Value} {Q:Unit->Shared->Prop} (hfr:A.frames=some (env::outer)) (hf:env.frame=some L) (hfl:Heap.FlyingW base (env::outer) e cls a0 s.heap)
    (hQ:∀ h',Heap.HeldW base (env::outer) e cls a0 L h'->s.heap.UpToSlots h'->KD s.heap h'->Q () { s with heap:=h' }):wpAny M A (noteFrame (.ref e) env) Q E s:=
  wpAny_mono (DQ (L5 (.ref e) env) (wpAny_looks_onW (Q:=λ _ s'=>∃ h',s'={ s with heap:=h' }/\Heap.HeldW base (env::outer) e cls a0 L h'/\s.heap.UpToSlots h') hfr hf hfl λ h' a b=>⟨h',rfl,a,b⟩))
    (λ _ _ ⟨⟨h',e,a,b⟩,k⟩=>by subst e;exact hQ h' a b k) λ _ _ z=>z.1
theorem RS {base:Heap} {l:List Env} {e L:Addr} {cls a0:Value} {Q:Unit->Shared->Prop} (hh:Heap.HeldW base l e cls a0 L s.heap)
    (hQ:∀ h',Heap.FlyingW base l e cls a0 h'->s.heap.UpToSlots h'->KD s.heap h'->Q () { s with heap:=h' }):wpAny M A (setFlight (.ref e) none) Q E s:=
  wpAny_mono (DQ (C4 (.ref e) none) (wpAny_landsW (Q:=λ _ s'=>∃ h',s'={ s with heap:=h' }/\Heap.FlyingW base l e cls a0 h'/\s.heap.UpToSlots h') hh λ h' a b=>⟨h',rfl,a,b⟩))
    (λ _ _ ⟨⟨h',e,a,b⟩,k⟩=>by subst e;exact hQ h' a b k) λ _ _ z=>z.1
theorem O9 {base:Heap} {l:List Env} {e:Addr} {cls a0 fl:Value} {Q:Unit->Shared->Prop} (hkb:base.StaysIn s.heap) (hl:s.heap.FunFrames base l) (ht:s.heap.TracedAtW base e cls a0 fl)
    (h:∀ h',base.StaysIn h'->h'.FunFrames base l->h'.TracedW base e cls a0->(∀ b o,s.heap.get? b=some o->(∀ vs,o.data≠ .fields vs)->h'.get? b=some o)->KD s.heap h'->Q () { s with heap:=h' }):
    wpAny M A (setFlight (.ref e) none) Q E s:=
  wpAny_mono (DQ (C4 (.ref e) none) (wpAny_setFlight_noneW (Q:=λ _ s'=>∃ h',s'={ s with heap:=h' }/\base.StaysIn h'/\h'.FunFrames base l/\h'.TracedW base e cls a0/\∀ b o,s.heap.get? b=some o->(∀ vs,o.data≠ .fields vs)->h'.get? b=some o) hkb hl ht λ h' a b c d=>⟨h',rfl,a,b,c,d⟩))
    (λ _ _ ⟨⟨h',e,a,b,c,d⟩,k⟩=>by subst e;exact h h' a b c d k) λ _ _ z=>z.1
def DictIs (h:Heap) (a:Addr) (od:Option Addr):Prop:=∃ o,h.get? a=some o/\o.dict=od
theorem DictIs.on {h h':Heap} {a:Addr} {od:Option Addr} (x:DictIs h a od) (k:KD h h') (t:∃ o,h'.get? a=some o):DictIs h' a od:=by
  obtain ⟨o,e,d⟩:=x;obtain ⟨o',e'⟩:=t;exact ⟨o',e',(k.at' e e').trans d⟩
end
theorem HOk.on {P:Program} {w:World} {H:Hp} {h h':Heap} (x:HOk P w H h) (k:∀ b u,H b≠none->h.get? b=some u->h'.get? b=some u):HOk P w H h':=λ a o e=>
  (x a o e).stay (λ b u hb q=>k b u (by
    rcases hb with rfl | hb
    · rw [e];exact λ z=>by cases z
    · rw [hb];exact λ z=>by cases z) q) (λ _ q=>q) λ _ _ q=>q
theorem Hj {P:Program} {w:World} {H:Hp} {h:Heap} {a:Addr} {o:HO} (x:ObjOk P w H h a o):∃ u,h.get? a=some u:=by
  cases o with
  | lst xs=>obtain ⟨_,_,_,_,e⟩:=x;exact ⟨_,e⟩
  | tup xs=>obtain ⟨_,_,_,o,e,_⟩:=x;exact ⟨_,e⟩
  | dK kvs=>obtain ⟨_,_,_,_,o,_,_,e,_⟩:=x;exact ⟨_,e⟩
  | dT kvs=>obtain ⟨_,_,_,_,o,_,_,e,_⟩:=x;exact ⟨_,e⟩
  | set S n=>obtain ⟨o,_,_,_,e,_⟩:=x;exact ⟨_,e⟩
  | ins C dx fs=>obtain ⟨_,_,_,e,_⟩:=x;exact ⟨_,e⟩
  | own y=>exact x
  | xd fs=>obtain ⟨_,⟨_,_,_,e,_⟩,_⟩:=x;exact ⟨_,e⟩
  | rng lo hi=>obtain ⟨_,_,_,e⟩:=x;exact ⟨_,e⟩
  | frz ob u=>obtain ⟨e,_⟩:=x;exact ⟨_,e⟩
  | tbl ps=>exact ⟨_,(show h.get? a=some _ from x)⟩
  | met f y=>exact ⟨_,(show h.get? a=some _ from x)⟩
  | ext φ=>obtain ⟨_,e,_⟩:=x;exact e
def TZ (outer:List Env) (s:Shared) (H':Hp) (a C t:Addr) (s':Shared):Prop:=
  ∃ B:Heap,B.FlyingW outer a (.ref C) (.ref t) s'.heap/\∀ b,(H' b≠none\/∃ o,s.heap.get? b=some o)->b∉frs outer->∀ o,s'.heap.get? b=some o->B.get? b=some o
def CXE (P:Program) (w:World):CXT:=λ outer H s E e s'=>
  ∃ a C t od H',e= .ref a/\s'.os=s.os/\AllBare s'.gens/\Un (frs outer) [] H H' s.heap s'.heap/\HOk P w H' s'.heap/\TZ outer s H' a C t s'/\DictIs s'.heap a od/\E (.ref C) od H'
theorem CK {env:Env} {L:Addr} {outer:List Env} (h:env.frame=some L):frs (env::outer)=L::frs outer:=by
  unfold frs;rw [List.filterMap_cons,h]
theorem AW {h base:Heap}:∀ {l:List Env} {b:Addr},h.FunFrames base l->b∈frs l->base.get? b=none/\∃ o,h.get? b=some o/\∀ vs,o.data≠ .fields vs
  | [],b,_,hb=>by cases hb
  | env::l,b,⟨_,⟨L,o,e1,e2,e3,e4⟩,r⟩,hb=>by
    rw [CK e1] at hb;rcases List.mem_cons.mp hb with rfl | hb
    · exact ⟨e2,o,e3,e4⟩
    · exact AW r hb
theorem Mr {P:Program} {w:World} {K:PySem.W.Frag} {mg:Str->Option Value} {base:Heap} {N:List Str} {qual:Str} {scope:Scope} {f:Addr} {cd:Value} {A:Around} {outer:List Env} {s₀:Shared} {H₀:Hp} {E E':XK}
    (hE:∀ c o H,E c o H->E' c o H):Ba (CXE P w) (Co (CXE P w) P w K mg base N qual scope f cd A outer s₀ H₀ E') E:=by
  intro pins σ H s e s' I h;obtain ⟨a,C,t,od,H',rfl,os,bare,un,hok,⟨B,fl,cov⟩,di,q⟩:=h;have hfr:(envOfC qual scope s₀.heap.objs.size f cd).frame=some s₀.heap.objs.size:=rfl;have hfs:frs (envOfC qual scope s₀.heap.objs.size f cd::outer)=s₀.heap.objs.size::frs outer:=CK hfr;refine Hr I.ok.frames hfr fl λ h' fl' ups kd=> ?_;have ib:Un (frs outer) [] H₀ H s₀.heap s.heap:=I.base;have nl:∀ b o,s₀.heap.get? b=some o->b≠s₀.heap.objs.size:=λ b o e=>Nat.ne_of_lt (Heap.lt_size e);have toB:∀ b,(H' b≠none\/∃ o,s.heap.get? b=some o)->b∉frs (envOfC qual scope s₀.heap.objs.size f cd::outer)->∀ o,s'.heap.get? b=some o->h'.get? b=some o:=λ b hb hn o e=>fl'.1 b o (cov b hb hn o e);have untr:∀ b,b∈frs (envOfC qual scope s₀.heap.objs.size f cd::outer)->H' b=none:=λ b hb=>by
    obtain ⟨_,o,e,_⟩:=AW I.stack hb;exact un.free b o e (I.stkFree b hb) (by simp)
  have hok':HOk P w H' h':=hok.on λ b u hb e=>by
    refine toB b (.inl hb) (λ z=>hb (untr b z)) u e
  refine ⟨a,C,t,od,H',rfl,os.trans I.os,bare,?_,hok',⟨B,fl',λ b hb hn o e=> ?_⟩,di.on kd (let ⟨o,e,_⟩:=fl'.there;⟨o,e⟩),hE _ _ _ q⟩
  · have notin:∀ b o,s₀.heap.get? b=some o->b∉frs outer->b∉frs (envOfC qual scope s₀.heap.objs.size f cd::outer):=λ b o e hn z=>by
      rw [hfs] at z;rcases List.mem_cons.mp z with z | z
      · exact nl b o e z
      · exact hn z
    have isin:∀ b,b∈frs outer->b∈frs (envOfC qual scope s₀.heap.objs.size f cd::outer):=λ b hb=>by rw [hfs];exact List.mem_cons_of_mem _ hb
    refine ⟨λ b o e hH hn _=> ?_,λ b o e hH hb _=> ?_,λ b o e hH _=> ?_,λ b o e _=> ?_,λ b xs e=>un.tups b xs (ib.tups b xs e),λ b o u e=>un.frzs b o u (ib.frzs b o u e),λ b ps e=> ?_⟩
    · have e1:=ib.keep b o e hH hn (by simp);exact toB b (.inr ⟨o,e1⟩) (notin b o e hn) o (un.keep b o e1 (ib.free b o e hH (by simp)) (notin b o e hn) (by simp))
    · obtain ⟨sl,e1⟩:=ib.slot b o e hH hb (by simp);obtain ⟨sl2,e2⟩:=un.slot b _ e1 (ib.free b o e hH (by simp)) (isin b hb) (by simp);obtain ⟨_,o',e',nf⟩:=AW fl.2.2.1 (isin b hb);rw [e2] at e';cases e';obtain ⟨sl3,e3⟩:=ups b _ e2 nf;exact ⟨sl3,e3⟩
    · obtain ⟨o1,e1⟩:=ib.there b o e (by simp);exact un.free b o1 e1 (ib.free b o e hH (by simp)) (by simp)
    · obtain ⟨o1,e1⟩:=ib.there b o e (by simp);obtain ⟨o2,e2⟩:=un.there b o1 e1 (by simp);by_cases hb:b∈frs outer
      · obtain ⟨_,o',e',nf⟩:=AW fl.2.2.1 (isin b hb);obtain ⟨sl3,e3⟩:=ups b _ e' nf;exact ⟨_,e3⟩
      · exact ⟨o2,toB b (.inr ⟨o1,e1⟩) (notin b o e hb) o2 e2⟩
    · obtain ⟨m1,e1⟩:=ib.tbls b ps e;obtain ⟨m2,e2⟩:=un.tbls b _ e1;exact ⟨m1++m2,by rw [e2,Array.append_assoc]⟩
  · have hn2:b∉frs (envOfC qual scope s₀.heap.objs.size f cd::outer):=λ z=>by
      have z0:=z;rw [hfs] at z;rcases List.mem_cons.mp z with z | z
      · rcases hb with hb | ⟨o1,e1⟩
        · exact hb (untr b z0)
        · exact nl b o1 e1 z
      · exact hn z
    obtain ⟨o2,e2,hb2⟩:∃ o2,s'.heap.get? b=some o2/\(H' b≠none\/∃ o,s.heap.get? b=some o):=by
      rcases hb with hb | ⟨o1,e1⟩
      · cases hx:H' b with
        | none=>exact absurd hx hb
        | some u=>
          obtain ⟨o2,e2⟩:=Hj (hok b u hx);exact ⟨o2,e2, .inl (λ z=>by cases z)⟩
      · obtain ⟨o3,e3⟩:=ib.there b o1 e1 (by simp);obtain ⟨o2,e2⟩:=un.there b o3 e3 (by simp);exact ⟨o2,e2, .inr ⟨o3,e3⟩⟩
    have e3:=cov b hb2 hn2 o2 e2;have e4:=fl'.1 b o2 e3;rw [show h'.get? b=some o from e] at e4;cases e4;exact e3
theorem IQ {h base B:Heap}:∀ {l:List Env},h.FunFrames base l->(∀ b∈frs l,B.get? b=none)->h.FunFrames B l
  | [],_,_=>trivial
  | env::l,⟨k,⟨L,o,e1,e2,e3,e4⟩,r⟩,hb=>by
    rw [CK e1] at hb;exact ⟨k,⟨L,o,e1,hb L (List.mem_cons_self ..),e3,e4⟩,IQ r λ b h'=>hb b (List.mem_cons_of_mem _ h')⟩
section
variable {P:Program} {w:World} {K:PySem.W.Frag} {mg:Str->Option Value} {base:Heap} {N:List Str} {qual:Str} {scope:Scope} {f:Addr} {cd:Value} {A:Around} {outer:List Env} {s₀:Shared} {H₀:Hp} {E:XK}
theorem Nq {pins:List (Addr × Obj)} {σ:St} {H:Hp} {s:Shared} {e C:Addr} {vs:List Value} {h':Heap} (I:Inv (Co (CXE P w) P w K mg base N qual scope f cd A outer s₀ H₀ E) pins σ H s) (mk:Heap.MadeExcOf s.heap h' e (.ref C) vs) (q:E (.ref C) none H):
    (Co (CXE P w) P w K mg base N qual scope f cd A outer s₀ H₀ E).xe (.ref e) { s with heap:=h' }:=by
  have hfr:(envOfC qual scope s₀.heap.objs.size f cd).frame=some s₀.heap.objs.size:=rfl;have hfs:frs (envOfC qual scope s₀.heap.objs.size f cd::outer)=s₀.heap.objs.size::frs outer:=CK hfr;refine Jg (base:=PySem.W.hideAll s.heap (frs (envOfC qual scope s₀.heap.objs.size f cd::outer))) (h:=s.heap) I.ok.frames hfr (λ b o e=>PySem.W.of_hideAll _ e) (IQ I.stack λ b hb=>PySem.W.hideAll_none _ hb) mk λ h2 t fl ups kd=> ?_;have ib:Un (frs outer) [] H₀ H s₀.heap s.heap:=I.base;have nl:∀ b o,s₀.heap.get? b=some o->b≠s₀.heap.objs.size:=λ b o e=>Nat.ne_of_lt (Heap.lt_size e);have inB:∀ b o,s.heap.get? b=some o->b∉frs (envOfC qual scope s₀.heap.objs.size f cd::outer)->h2.get? b=some o:=λ b o e hn=>fl.1 b o (PySem.W.hideAll_get _ e hn);have notin:∀ b o,s₀.heap.get? b=some o->b∉frs outer->b∉frs (envOfC qual scope s₀.heap.objs.size f cd::outer):=λ b o e hn z=>by
    rw [hfs] at z;rcases List.mem_cons.mp z with z | z
    · exact nl b o e z
    · exact hn z
  have isin:∀ b,b∈frs outer->b∈frs (envOfC qual scope s₀.heap.objs.size f cd::outer):=λ b hb=>by rw [hfs];exact List.mem_cons_of_mem _ hb
  refine ⟨e,C,t,none,H,rfl,I.os,I.bare,?_,I.hok.on λ b u hb e=>inB b u e (λ z=>hb (I.stkFree b z)),⟨_,fl,λ b hb hn o e=> ?_⟩,DictIs.on (let ⟨_,e,_⟩:=mk.there;⟨_,e,rfl⟩) kd (let ⟨o,e,_⟩:=fl.there;⟨o,e⟩),q⟩
  · refine ⟨λ b o e hH hn _=> ?_,λ b o e hH hb _=> ?_,λ b o e hH _=>ib.free b o e hH (by simp),λ b o e _=> ?_,λ b xs e=>ib.tups b xs e,λ b o u e=>ib.frzs b o u e,λ b ps e=>ib.tbls b ps e⟩
    · exact inB b o (ib.keep b o e hH hn (by simp)) (notin b o e hn)
    · obtain ⟨sl,e1⟩:=ib.slot b o e hH hb (by simp);obtain ⟨_,o',e',nf⟩:=AW I.stack (isin b hb);rw [e1] at e';cases e';obtain ⟨sl3,e3⟩:=ups b _ (mk.keeps b _ e1) nf;exact ⟨sl3,e3⟩
    · obtain ⟨o1,e1⟩:=ib.there b o e (by simp);by_cases hb:b∈frs outer
      · obtain ⟨_,o',e',nf⟩:=AW I.stack (isin b hb);obtain ⟨sl3,e3⟩:=ups b _ (mk.keeps b _ e') nf;exact ⟨_,e3⟩
      · exact ⟨o1,inB b o1 e1 (notin b o e hb)⟩
  · have hn2:b∉frs (envOfC qual scope s₀.heap.objs.size f cd::outer):=λ z=>by
      rcases hb with hb | ⟨o1,e1⟩
      · exact hb (I.stkFree b z)
      · exact notin b o1 e1 hn z
    obtain ⟨o2,e2⟩:∃ o2,s.heap.get? b=some o2:=by
      rcases hb with hb | ⟨o1,e1⟩
      · cases hx:H b with
        | none=>exact absurd hx hb
        | some u=>exact Hj (I.hok b u hx)
      · exact ib.there b o1 e1 (by simp)
    have e3:=inB b o2 e2 hn2;have e:h2.get? b=some o:=e;rw [e] at e3;cases e3;exact PySem.W.hideAll_get _ e2 hn2
def M4 (E:XK) (C:Addr) (ta:TA):TS:=λ _ σ H=>ta σ H λ vs H1=>vs.length<=1000/\E (.ref C) none H1
theorem Nf {x:Str} {C:Addr} {B newId initId:String} {bm:List Value} {e₀:Expr} {rest:List Expr} {np cpos pos:Pos} {ta:TA} (O:OwnCls x C bm newId mg base) (FB:ExcBaseFacts B newId initId bm)
    (ha:PA (Co (CXE P w) P w K mg base N qual scope f cd A outer s₀ H₀ E) (e₀::rest) ta)
    (he:starEach (e₀::rest) (envOfC qual scope s₀.heap.objs.size f cd)=(false,eval e₀ (envOfC qual scope s₀.heap.objs.size f cd))::starEach rest (envOfC qual scope s₀.heap.objs.size f cd):=by rfl)
    (hplain:(backTo cpos (starEach rest (envOfC qual scope s₀.heap.objs.size f cd))).any (·.1)=false:=by rfl)
    (hg:Gl (Co (CXE P w) P w K mg base N qual scope f cd A outer s₀ H₀ E) x:=by rfl) (hd:(x == ("__debug__":Str))=false:=by decide):
    PS (Co (CXE P w) P w K mg base N qual scope f cd A outer s₀ H₀ E) (.Raise (some (.Call (.Name x np) (e₀::rest) [] cpos)) none pos) (M4 E C ta):=by
  intro pins s σ H D I h;obtain ⟨tl,Nn,nm,q,bs,hdct,sn,sub,ab,col,dd,k0,k1,k2,k3,k5,mN,hC,hN,hni,T⟩:=O.obj;have hw:=ha cpos pins s σ H _ I h;refine wpAny_Raise_call_subT (C:=C) (nm:=nm) (q:=q) (N:=Nn) (bs:=bs) (bm:=tl) (hdct:=hdct) (sn:=sn) (sub:=sub) (ab:=ab) (col:=col) (dd:=dd) (k0:=k0) (k1:=k1) (k2:=k2) (k3:=k3) (k5:=k5)
    FB (mN:=mN) (T.hasType FB.hasBase) (I.ok.hd rfl) (by
      show (backTo cpos (starEach (e₀::rest) (envOfC qual scope s₀.heap.objs.size f cd))).any (·.1)=false;rw [he];show (false||(backTo cpos (starEach rest (envOfC qual scope s₀.heap.objs.size f cd))).any (·.1))=false;rw [hplain];rfl) hni (Fi I hg O.bound ⟨rfl,?_⟩ hd)
  have he':starEach (e₀::rest) (Co (CXE P w) P w K mg base N qual scope f cd A outer s₀ H₀ E).env=(false,eval e₀ (envOfC qual scope s₀.heap.objs.size f cd))::starEach rest (envOfC qual scope s₀.heap.objs.size f cd):=he;rw [he'] at hw ⊢;refine Calls.evalArgs_plain (thn hw λ us s2 ⟨vs,H1,I1,r,hl,hq⟩=> ?_);have bk:∀ b o,base.get? b=some o->s2.heap.get? b=some o:=I1.bk;refine ⟨rfl,?_,bk _ _ hC,hN.keeps bk,T.keeps bk,λ h' e mk=>Nq I1 mk hq⟩;rw [<-r.length];exact Nat.le_trans hl (by decide)
end
theorem Hl {h h1 h2:Heap} (a:h.UpToSlots h1) (b:h1.UpToSlots h2):h.UpToSlots h2:=λ c o e nf=>by
  obtain ⟨sl,e1⟩:=a c o e nf;obtain ⟨sl2,e2⟩:=b c _ e1 nf;exact ⟨sl2,e2⟩
theorem M7 {P:Program} {w:World} {l:List Env} {s s₁:Shared} {H H':Hp} {a C t:Addr} {B h3:Heap} (un:Un (frs l) [] H H' s.heap s₁.heap) (hok:HOk P w H' s₁.heap) (fl:B.FlyingW l a (.ref C) (.ref t) s₁.heap)
    (cov:∀ b,(H' b≠none\/∃ o,s.heap.get? b=some o)->b∉frs l->∀ o,s₁.heap.get? b=some o->B.get? b=some o) (untr:∀ b∈frs l,H' b=none) (fl3:B.FlyingW l a (.ref C) (.ref t) h3) (ups:s₁.heap.UpToSlots h3):
    Un (frs l) [] H H' s.heap h3/\HOk P w H' h3:=by
  have inB:∀ b,(H' b≠none\/∃ o,s.heap.get? b=some o)->b∉frs l->∀ o,s₁.heap.get? b=some o->h3.get? b=some o:=λ b hb hn o e=>fl3.1 b o (cov b hb hn o e);refine ⟨⟨λ b o e hH hn hx=>inB b (.inr ⟨o,e⟩) hn o (un.keep b o e hH hn hx),λ b o e hH hb hx=> ?_,un.free,λ b o e hx=> ?_,un.tups,un.frzs,un.tbls⟩,hok.on λ b u hb e=>inB b (.inl hb) (λ z=>hb (untr b z)) u e⟩
  · obtain ⟨sl,e1⟩:=un.slot b o e hH hb hx;obtain ⟨_,o',e',nf⟩:=AW fl.2.2.1 hb;rw [e1] at e';cases e';obtain ⟨sl3,e3⟩:=ups b _ e1 nf;exact ⟨sl3,e3⟩
  · obtain ⟨o1,e1⟩:=un.there b o e hx;by_cases hb:b∈frs l
    · obtain ⟨_,o',e',nf⟩:=AW fl.2.2.1 hb;obtain ⟨sl,e2⟩:=ups b _ e' nf;exact ⟨_,e2⟩
    · exact ⟨o1,inB b (.inr ⟨o,e⟩) hb o1 e1⟩
noncomputable def HM (a C:Addr) (od:Option Addr):HO:= .ext λ h=>∃ o,h.get? a=some o/\o.cls= .ref C/\o.dict=od/\∃ vs,o.data= .fields vs
theorem Re {P:Program} {w:World} {H:Hp} {h:Heap} {a C:Addr} {o:Obj} {vs:Array Value} (e:h.get? a=some o) (c:o.cls= .ref C) (d:o.data= .fields vs):ObjOk P w H h a (HM a C o.dict):=
  ⟨⟨o,e,c,rfl,vs,d⟩,⟨o,e⟩,λ _ _ ⟨o,e,c⟩ k=>⟨o,k o e,c⟩⟩
theorem NE {P:Program} {w:World} {H:Hp} {h:Heap} {a:Addr} {u:HO} (hok:HOk P w H h) (n:H a=none) (new:ObjOk P w (upd H a u) h a u):HOk P w (upd H a u) h:=λ b o e=>by
  by_cases z:b=a
  · subst z;rw [Ac] at e;cases e;exact new
  · rw [Aj z] at e;have ne:∀ c v,H c=some v->c≠a:=λ c v q z=>by rw [z,n] at q;cases q
    exact (hok b o e).stay (λ c v _ q=>q) (λ c q=>(Aj (ne c _ q)).trans q) λ c xs q=>(Aj (ne c _ q)).trans q
theorem MX {fs ex:List Addr} {H H':Hp} {h h':Heap} {a:Addr} {u:HO} (un:Un fs ex H H' h h') (n:H' a=none) (na:h.get? a=none):Un fs ex H (upd H' a u) h h':=by
  have ne:∀ c v,H' c=some v->c≠a:=λ c v q z=>by rw [z,n] at q;cases q
  refine ⟨un.keep,un.slot,λ b o e hH hx=> ?_,un.there,λ b xs e=> ?_,λ b o v e=> ?_,λ b ps e=> ?_⟩
  · have z:b≠a:=λ z=>by rw [z,na] at e;cases e
    rw [Aj z];exact un.free b o e hH hx
  · have:=un.tups b xs e;exact (Aj (ne _ _ this)).trans this
  · have:=un.frzs b o v e;exact (Aj (ne _ _ this)).trans this
  · obtain ⟨m,this⟩:=un.tbls b ps e;exact ⟨m,(Aj (ne _ _ this)).trans this⟩
section
variable {X:Cx} {pins:List (Addr × Obj)} {σ:St} {H:Hp} {s s₁:Shared} {E:XK} {e:Value}
theorem Y1 {E1 E2:Value->Shared->Prop} {R:Shared->Prop} (I:Inv X pins σ H s) (hst:X.stack=X.env::X.outer) (hf:X.env.frame=some X.env.locals) (h:CXE X.prog X.w X.stack H s E e s₁)
    (k:∀ (a C t:Addr) (od:Option Addr) (H':Hp) (B h3:Heap),e= .ref a->B.FlyingW X.stack a (.ref C) (.ref t) h3->s₁.heap.UpToSlots h3->DictIs h3 a od->(∀ h4:Heap,B.FlyingW X.stack a (.ref C) (.ref t) h4->s₁.heap.UpToSlots h4->DictIs h4 a od->Inv X pins σ H' { s₁ with heap:=h4 }/\Inv X pins σ (upd H' a (HM a C od)) { s₁ with heap:=h4 })->H' a=none->E (.ref C) od H'->R { s₁ with heap:=h3 }):
    wpAny (model X.prog X.w) X.A (noteFrame e X.env) (λ _ s₂=>wpAny (model X.prog X.w) X.A (setFlight e none) (λ _ s₃=>R s₃) E2 s₂) E1 s₁:=by
  obtain ⟨a,C,t,od,H',rfl,os,bare,un,hok,⟨B,fl,cov⟩,di,q⟩:=h;have untr:∀ b∈frs X.stack,H' b=none:=λ b hb=>by
    obtain ⟨_,o,e,_⟩:=AW I.stack hb;exact un.free b o e (I.stkFree b hb) (by simp)
  obtain ⟨oa,hoa,hca⟩:=fl.there;have af:a∉frs X.stack:=λ z=>by
    obtain ⟨_,_,_,oe,vs,T,oT,ts,he,hcls,hd,_⟩:=id fl;obtain ⟨_,o',e',nf⟩:=AW fl.2.2.1 z;rw [he] at e';cases e';exact nf _ hd
  have an:H' a=none:=by
    cases hx:H' a with
    | none=>rfl
    | some u=>
      have:=cov a (.inl (by rw [hx];exact λ z=>by cases z)) af oa hoa;rw [fl.2.1] at this;cases this
  have as:s.heap.get? a=none:=by
    cases hx:s.heap.get? a with
    | none=>rfl
    | some o=>
      have:=cov a (.inr ⟨o,hx⟩) af oa hoa;rw [fl.2.1] at this;cases this
  have fl':=fl;rw [hst] at fl';refine MK (by rw [I.ok.frames,hst]) hf fl' λ h2 hh u2 kd2=>RS (s:={ s₁ with heap:=h2 }) hh λ h3 fl3 u3 kd3=> ?_;rw [<-hst] at fl3;refine k a C t od H' B h3 rfl fl3 (Hl u2 u3) (di.on (kd2.trans kd3) (let ⟨o,e,_⟩:=fl3.there;⟨o,e⟩)) (λ h4 fl4 u4 di4=> ?_) an q;obtain ⟨un4,hok4⟩:=M7 un hok fl cov untr fl4 u4;obtain ⟨_,_,_,o4,vs4,_,_,_,e4,⟨c4,_⟩,dd4,_⟩:=id fl4;have d4:o4.dict=od:=by
    obtain ⟨o5,e5,d5⟩:=di4;rw [e4] at e5;cases e5;exact d5
  subst d4;exact ⟨I.call' (s':={ s₁ with heap:=h4 }) (ch:=[]) os un4 hok4 bare (λ _ z=>by cases z),I.call' (s':={ s₁ with heap:=h4 }) (ch:=[]) os (MX un4 an as) (NE hok4 an (Re e4 c4 dd4)) bare (λ _ z=>by cases z)⟩
end
noncomputable def Cx.tryC (X:Cx) (pn:List (Addr × Obj)) (xe:Value->Shared->Prop):Cx:={ X with pn:=pn,xe:=xe }
noncomputable def Cx.markC (X:Cx) (a:Addr) (xe:Value->Shared->Prop):Cx:={ X with A:=X.A.mark (some (.ref a)),calm:=false,xe:=xe }
section
variable {X:Cx} {pins pins0:List (Addr × Obj)} {σ:St} {H:Hp} {s:Shared} {xe:Value->Shared->Prop}
theorem Inv.tryC (I:Inv X pins σ H s):Inv (X.tryC (X.pn++pins) xe) [] σ H s:=
  ⟨⟨I.ok.mod,I.ok.kind,I.ok.glob,I.ok.blt,I.ok.above,I.ok.inj,I.ok.has,I.ok.cab,I.ok.hd,I.ok.frames,I.ok.stk,I.ok.exf,I.ok.bs,I.ok.bsz,I.ok.noex,I.ok.exfs,I.ok.funs,I.ok.frf⟩,
    I.os,I.bare,I.base,I.loc,I.cell,I.free,I.freeC,λ p hp=>I.pin p (by simpa [Cx.tryC] using hp),I.hok,I.len⟩
theorem Inv.untry (ok:X.Ok) (I:Inv (X.tryC (X.pn++pins0) xe) pins σ H s):Inv X pins0 σ H s:=
  ⟨ok,I.os,I.bare,I.base,I.loc,I.cell,I.free,I.freeC,λ p hp=>I.pin p (List.mem_append_left _ hp),I.hok,I.len⟩
theorem Inv.markC {a:Addr} (I:Inv X pins σ H s):Inv (X.markC a xe) pins σ H s:=
  ⟨⟨I.ok.mod,I.ok.kind,I.ok.glob,I.ok.blt,I.ok.above,I.ok.inj,I.ok.has,I.ok.cab,λ z=>(by cases z),I.ok.frames,I.ok.stk,I.ok.exf,I.ok.bs,I.ok.bsz,I.ok.noex,I.ok.exfs,I.ok.funs,I.ok.frf⟩,
    I.os,I.bare,I.base,I.loc,I.cell,I.free,I.freeC,I.pin,I.hok,I.len⟩
theorem Inv.unmark {a:Addr} (ok:X.Ok) (I:Inv (X.markC a xe) pins σ H s):Inv X pins σ H s:=
  ⟨ok,I.os,I.bare,I.base,I.loc,I.cell,I.free,I.freeC,I.pin,I.hok,I.len⟩
theorem Mw {M:Model} {A:Around} {E:Value->Shared->Prop} {i:Nat} {x:Str} {v:V} {Q:Unit->Shared->Prop} (I:Inv X pins σ H s) (hN:X.N.Nodup) (hi:X.N[i]?=some x) (hx:X.env.scope.names.lookup x=some .local) (hv:σ[i]?=some (some v))
    (h:∀ s',Inv X pins (σ.set i none) H s'->Q () s'):wpAny M A (unbindName X.env x) Q E s:=by
  obtain ⟨m,hn,hl⟩:=id I.loc;have hcls:(X.env.scope.kind == .class||(X.env.scope.kind == .module&&X.env.locals != X.env.globals))=false:=by rw [I.ok.kind];rfl
  obtain ⟨u0,_,q0⟩:=hl i x v hi hv (.inl hx);have hm:m x=some u0:=by
    rcases q0 with ⟨_,e⟩ | ⟨k,_⟩
    · exact e
    · rcases k with k | k
      · rw [show X.env.kindOf x=some .local from hx] at k;cases k
      · rw [show X.env.kindOf x=some .local from hx] at k;cases k
  have hiσ:i<σ.length:=by rw [I.len];exact (List.getElem?_eq_some_iff.mp hi).1
  have cne:=I.cne;refine wpAny_unbindName_local hx hn hm hcls λ h' u hn' hs=> ?_;obtain ⟨oL,_,_,hoL,_⟩:=id hn;have neL:∀ b o,X.s₀.heap.get? b=some o->b≠X.env.locals:=λ b o e=>Nat.ne_of_lt (Nat.lt_of_lt_of_le (Heap.lt_size e) I.ok.above);refine h _ ⟨I.ok,I.os,I.bare,⟨λ b o e n hb hx=> ?_,λ b o e n hb hx=> ?_,I.base.free,λ b o e hx=> ?_,I.base.tups,I.base.frzs,I.base.tbls⟩,⟨_,hn',λ j y v' e1 e2 e3=> ?_⟩,λ y c e=> ?_,I.free,I.freeC,λ p hp=> ?_,λ b ob e=> ?_,by simpa using I.len⟩
  · exact (hs.2 b (neL b o e)).trans (I.base.keep b o e n hb hx)
  · obtain ⟨sl,e1⟩:=I.base.slot b o e n hb hx;exact ⟨sl,(hs.2 b (neL b o e)).trans e1⟩
  · obtain ⟨o',e1⟩:=I.base.there b o e hx;exact ⟨o',(hs.2 b (neL b o e)).trans e1⟩
  · by_cases hj:j=i
    · subst hj;rw [List.getElem?_set_self hiσ] at e2;cases e2
    · rw [List.getElem?_set_ne (Ne.symm hj)] at e2;obtain ⟨u',r',q⟩:=hl j y v' e1 e2 e3;refine ⟨u',r',?_⟩;rcases q with ⟨k,e⟩ | ⟨k,c,e,z⟩
      · refine .inl ⟨k,?_⟩;have:y≠x:=λ e=>hj (Hs hN e1 (e▸hi));simp [this,e]
      · exact .inr ⟨k,c,e,z.sameBut hs (cne y c e)⟩
  · obtain ⟨w',z⟩:=I.cell y c e;exact ⟨w',z.sameBut hs (cne y c e)⟩
  · obtain ⟨e,n,ne,nf,d⟩:=I.pin p hp;exact ⟨(hs.2 p.1 ne).trans e,n,ne,nf,d⟩
  · refine (I.hok b ob e).stay (λ c w' hc q=>(hs.2 c ?_).trans q) (λ _ q=>q) λ _ _ q=>q;rintro rfl;rcases hc with rfl | hc
    · rw [I.free] at e;cases e
    · rw [I.free] at hc;cases hc
end
noncomputable def Q7 (j:Nat) (D:Ends):Ends:={ nx:=λ σ H=>D.nx (σ.set j none) H,rt:=D.rt,bk:=λ σ H=>D.bk (σ.set j none) H,ct:=λ σ H=>D.ct (σ.set j none) H }
def R5 (K:PySem.W.Frag) (CL:Addr) (len j:Nat) (ts:TS) (D:Ends):XK:=λ cls od H'=>∃ C,cls= .ref C/\PySem.W.exmOne K cls (.ref CL)=some true/\
  ∀ (a:Addr) (σ:St),H' a=none->σ.length=len->ts (Q7 j D) (σ.set j (some (.ref a))) (upd H' a (HM a C od))
def W6 (K:PySem.W.Frag) (CL:Addr) (len j:Nat) (tb:XK->TS) (ts:TS):TS:=λ D σ H=>tb (R5 K CL len j ts D) D σ H
end L2
namespace L2
open PySem PySem.Spec PyProof.Rows PySem.W
theorem RO {X:Cx} {x n:Str} {CL:Addr} {j:Nat} {body:List Stmt} {b₀:Stmt} {suite:List Stmt} {tb:XK->TS} {ts:TS} {xp hp pos:Pos} (hst:X.stack=X.env::X.outer) (hf:X.env.frame=some X.env.locals) (hm:X.mg x=some (.ref CL))
    (hN:X.N.Nodup) (hj:X.N[j]?=some n) (hx:X.env.scope.names.lookup n=some .local)
    (hb:∀ (pn:List (Addr × Obj)) (xe:Value->Shared->Prop) (E:XK),Ba (CXE X.prog X.w) (X.tryC pn xe) E->PSs (X.tryC pn xe) body (tb E)) (hs:∀ (a:Addr) (xe:Value->Shared->Prop),PSs (X.markC a xe) (b₀::suite) ts)
    (hg:Gl X x:=by rfl) (hd:(x == ("__debug__":Str))=false:=by decide):
    PS X (.Try body [.ExceptHandler (some (.Name x xp)) (some n) (b₀::suite) hp] [] [] pos) (W6 X.K CL X.N.length j tb ts):=by
  intro pins s σ H D I h;refine wpAny_Try_except ?_;have pass:Ba (CXE X.prog X.w) (X.tryC (X.pn++pins) (λ e s₁=>wpAny (model X.prog X.w) X.A (noteFrame e X.env) (λ _ s₂=>wpAny (model X.prog X.w) X.A (setFlight e none) (λ _ s₃=>wpAny (model X.prog X.w) X.A (handleBy e X.env [.ExceptHandler (some (.Name x xp)) (some n) (b₀::suite) hp]) (SP X pins D) X.xe s₃) X.xe s₂) X.xe s₁)) (R5 X.K CL X.N.length j ts D):=by
    intro pins' σ' H1 s1 e s' I1 hc;have I1':Inv X pins σ' H1 s1:=I1.untry I.ok;refine Y1 I1' hst hf hc λ a C t od H' B h3 e0 fl3 u3 di3 inv an q=> ?_;subst e0;obtain ⟨C',eC,hx',hr⟩:=q;cases eC;have I3:=(inv h3 fl3 u3 di3).1;obtain ⟨oa,hoa,hca⟩:=fl3.there;refine wpAny_handleBy_cons (codeAny_handlers_test ?_) (by intro q;cases q);refine Calls.Name_function_global I.ok.kind hg (Calls.loadGlobal_global (by rw [I.ok.glob];exact I.mod.glob.keeps I3.bk) hm ?_) hd;have lt:Looks (model X.prog X.w) h3 (typeOf (.ref a)) (.ref C):=hca▸(Looks.ld hoa).andThen .now;refine Looks.here (s:={ s' with heap:=h3 }) (PySem.W.exm_one (K:=X.K) I3.kIn lt hx') ?_;show codeAny _ _ (.handlers (.ref a) [.ExceptHandler none (some n) (b₀::suite) hp] X.env) _ _;refine codeAny_handlers_suite_as ?_;refine O9 (base:=B) (l:=X.stack) (s:={ s' with heap:=h3 }) fl3.1 fl3.2.2.1 fl3.2.2.2 λ h4 k1 k2 k3 k4 kd4=> ?_;have fl4:B.FlyingW X.stack a (.ref C) (.ref t) h4:=⟨k1,fl3.2.1,k2,k3⟩;have u4:s'.heap.UpToSlots h4:=Hl u3 λ b o e nf=>⟨o.slots,k4 b o e nf⟩;have I4:=(inv h4 fl4 u4 (di3.on kd4 (let ⟨o,e,_⟩:=fl4.there;⟨o,e⟩))).2;refine CJ (v:= .ref a) I4 hN hj (.inl hx) rfl (λ s5 I5=> ?_) (.inr hx);refine wpAny_mono (hs a _ pins s5 _ _ (Q7 j D) I5.markC (hr a σ' an I1'.len)) (λ f s6 hq=> ?_) λ _ _ y=>y;have fin:∀ σ6 H6,Inv X pins σ6 H6 s6->∀ Qf:Shared->Prop,(∀ s7,Inv X pins (σ6.set j none) H6 s7->Qf s7)->wpAny (model X.prog X.w) X.A (do bindName X.env n .none;unbindBehindTheSuite X.env n hp) (λ _ s₃=>Qf s₃) X.xe s6:=λ σ6 H6 I6 Qf hQ=>by
      refine wpAny_bind (bindName_ (CJ (v:= .non) I6 hN hj (.inl hx) rfl (λ s7 I7=> ?_) (.inr hx)));unfold unbindBehindTheSuite;have hl6:j<σ6.length:=by rw [I6.len];exact (List.getElem?_eq_some_iff.mp hj).1
      refine wpAny_onRaise (Mw (v:= .non) I7 hN hj hx (by rw [List.getElem?_set_self hl6]) λ s8 I8=> ?_);rw [List.set_set] at I8;exact hQ s8 I8
    show wpAny (model X.prog X.w) X.A (do bindName X.env n .none;unbindBehindTheSuite X.env n hp) (λ _ s₃=>SP X pins D f s₃) X.xe s6;cases f with
    | next=>
      obtain ⟨σ6,H6,I6,q6⟩:=hq;exact fin σ6 H6 (I6.unmark I.ok) _ λ s7 I7=>⟨_,_,I7,q6⟩
    | brk=>
      obtain ⟨σ6,H6,I6,q6⟩:=hq;exact fin σ6 H6 (I6.unmark I.ok) _ λ s7 I7=>⟨_,_,I7,q6⟩
    | cont=>
      obtain ⟨σ6,H6,I6,q6⟩:=hq;exact fin σ6 H6 (I6.unmark I.ok) _ λ s7 I7=>⟨_,_,I7,q6⟩
    | ret u=>
      obtain ⟨v6,σ6,H6,I6,r6,q6⟩:=hq;exact fin σ6 H6 (I6.unmark I.ok) _ λ s7 I7=>⟨v6,_,_,I7,r6,q6⟩
  refine wpAny_mono (hb _ _ _ pass [] s σ H D I.tryC h) (λ f s₁ hq=> ?_) λ _ _ y=>y;cases f with
  | next=>
    obtain ⟨σ',H',I',q'⟩:=hq;exact wpAny_execs_nil ⟨σ',H',I'.untry I.ok,q'⟩
  | brk=>
    obtain ⟨σ',H',I',q'⟩:=hq;exact ⟨σ',H',I'.untry I.ok,q'⟩
  | cont=>
    obtain ⟨σ',H',I',q'⟩:=hq;exact ⟨σ',H',I'.untry I.ok,q'⟩
  | ret u=>
    obtain ⟨v',σ',H',I',r',q'⟩:=hq;exact ⟨v',σ',H',I'.untry I.ok,r',q'⟩
end L2
namespace HT
open PySem PySem.Spec PyProof.Rows PySem.W PySem.Calls PySem.Builtin PySem.Builtin.ObjectAttr PySem.Builtin.Getset_descriptor
def ExcAt (a C:Addr) (h:Heap):Prop:=∃ o,h.get? a=some o/\o.cls= .ref C
structure ExcKind (K:Frag) (C:Addr):Prop where
  cl:(clsIn K C).isSome=true
  ga:findIn K (.ref C) "__getattribute__"=some (some (.builtin "BaseException.__getattribute__"))
  ng:findIn K (.ref C) "__getattr__"=some none
  hb:mroIn K C (.type "BaseException")=some true
  ha:findIn K (.ref C) "__class__"=some (some (.builtin "object.__class__"))
  hn:specialIn K (.builtin "object.__class__") "__get__"=some (some (.builtin "getset_descriptor.__get__"))
  htk:takesIn K (.builtin "object.__class__")=some true
  hm:mroIn K C (.type "object")=some true
theorem ExcAt.type {M:Model} {h:Heap} {a C:Addr} (x:ExcAt a C h):Looks M h (typeOf (.ref a)) (.ref C):=by
  obtain ⟨o,e,c⟩:=x;exact c▸(Looks.ld e).andThen .now
theorem Nb {K:Frag} {M:Model} {h:Heap} {a C:Addr} (k:ExcKind K C) (X:K.In h):Looks M h (find (.ref a) (.ref C) "__class__") (.bind (.builtin "getset_descriptor.__get__") (.builtin "object.__class__")):=by
  have L1:=looks_findIn (M:=M) X k.ha;have L2:Looks M h (getOf (some (.builtin "object.__class__"))) (some (.builtin "getset_descriptor.__get__")):=looks_specialIn X k.hn;have L3:=looks_takesIn (M:=M) X k.htk;exact L1.andThen (L2.andThen ((show Looks M h (dataDescriptor? (some (.builtin "object.__class__")) (some (.builtin "getset_descriptor.__get__"))) (some (.builtin "getset_descriptor.__get__", .builtin "object.__class__")) from L3.andThen .now).andThen (Looks.tag .now)))
section
variable {prog:Program} {w:World} {A:Around} {E:Value->Shared->Prop} {s:Shared} {K:Frag} {a C:Addr}
theorem O6 {R:Result->Shared->Prop} {tp:Value} (X:K.In s.heap) (x:ExcAt a C s.heap) (hm:mroIn K C (.type "object")=some true) (h:R (.ok (.ret (.ref C))) s):
    codeAny (model prog w) A (.call (.builtin "getset_descriptor.__get__") ⟨[.builtin "object.__class__", .ref a,tp],[]⟩) R s:=by
  obtain ⟨hh,g,dr,t,os⟩:=s;have L0:=x.type (M:=model prog w);have L1:=looks_mroIn (M:=model prog w) X hm;refine codeAny_call_builtin KF.slot_gs.plain KF.entry_gs (KF.slot_gs.check _ _ _ _ _ _ _ _ KF.type_class (KF.args_gs _ _ _) ?_);unfold Builtin.«getset_descriptor.__get__» descrGet;rw [dga_obj];refine wpAny_bind (wpAny_pure ?_);unfold descrGetter descrCheckInstance descrNameAndClass isInstance;simp only [KF.owner_class]
  repeat lk
  refine ⟨Code.quiet_builtin _ (by decide +kernel),codeAny_builtin KF.entry_class ?_⟩;unfold Builtin.«object.__class__» shownTypeOf
  repeat lk
  exact h
theorem L8 {Q:Unit->Shared->Prop} {nameV:Value} (k:ExcKind K C) (X:K.In s.heap) (x:ExcAt a C s.heap) (h:Q () s):wpAny (model prog w) A (checkBuiltinCall "BaseException.__getattribute__" ⟨[.ref a,nameV],[]⟩) Q E s:=by
  have hk:builtinKind "BaseException.__getattribute__"=some .slot:=by decide +kernel
  have hsplit:splitId "BaseException.__getattribute__"=some ("BaseException","__getattribute__"):=by decide +kernel
  have ha:=PySem.F.args_bexc_ga (.ref a) nameV;have L0:=x.type (M:=model prog w);have L1:=looks_mroIn (M:=model prog w) X k.hb;simp only [checkBuiltinCall,hk,hsplit];refine wpAny_bind ?_;unfold isInstance
  repeat lk
  exact h
theorem Mb {Q:Option Value->Shared->Prop} (k:ExcKind K C) (X:K.In s.heap) (x:ExcAt a C s.heap) (h:Q (some (.ref C)) { s with toks:=s.toks+1 }):wpAny (model prog w) A (getAttr? (.ref a) "__class__") Q E s:=by
  obtain ⟨hh,g,d,t,os⟩:=s;have L0:=x.type (M:=model prog w);have L1:=looks_findIn (M:=model prog w) X k.ga;have L2:=looks_findIn (M:=model prog w) X k.ng;have L3:=Nb (M:=model prog w) (a:=a) k X;unfold getAttr? getAttrBy? getAttrBy;refine wpAny_bind (wpAny_mkText (wpAny_bind (wpAny_attempt (wpAny_holding (wpAny_bind (L0.at (wpAny_bind (L1.at ?_))))))));show wpAny _ _ (getAttrByItsOwn (.ref a) _ (.ref C) (.builtin "BaseException.__getattribute__") false false) _ _ _;unfold getAttrByItsOwn;refine wpAny_bind (L2.at ?_);refine wpAny_bind (wpAny_attempt (wpAny_holding ?_));show wpAny _ _ (boundAndCalled (.builtin "BaseException.__getattribute__") (.ref a) _) _ _ _;unfold boundAndCalled;rw [PySem.F.excAttr_ValueError.ga.bind (.ref a)];refine wpAny_bind (wpAny_pure ?_);refine wpAny_call (codeAny_call_builtin PySem.F.excAttr_ValueError.ga.plain PySem.F.entry_bexc_ga (L8 (s:=⟨hh,g,d,t+1,os⟩) k X x ?_));unfold Builtin.«object.__getattribute__»
  iterate 22 lk
  refine wpAny_call (O6 (s:=⟨hh,g,d,t+1,os⟩) X x k.hm ?_)
  repeat lk
  exact h
theorem kitx_exc (k:ExcKind K C):KitX K (.ref a) (.ref C) (ExcAt a C) where
  ty:=λ _ _ _ x=>x.type
  it:=λ _ _ X _=>by
    obtain ⟨cd,hc⟩:=Option.isSome_iff_exists.mp k.cl;unfold clsIn at hc;split at hc
    · rename_i c' d' cd' sl' ho
      intro A' Q' E' s' kk q;unfold isType loadHead;exact wpAny_bind (wpAny_loadPart (kk _ _ (X _ _ ho)) (wpAny_pure q))
    · cases hc
  ne:=λ h tp dd its n sl X htp=>by
    obtain ⟨cd,hc⟩:=Option.isSome_iff_exists.mp k.cl;refine Bool.eq_false_iff.mpr λ q=> ?_;have e:C=tp:=Value.ref.inj (beq_iff_eq.mp q);subst e;unfold clsIn at hc;split at hc
    · rename_i c' d' cd' sl' ho
      have z:=(X _ _ ho).symm.trans htp;cases z
    · cases hc
  ca:=λ X x h=>Mb k X x h
end
end HT
namespace L2
open PySem PySem.Spec PyProof.Rows
theorem N0 {X:Cx} {pins:List (Addr × Obj)} {σ:St} {H:Hp} {s:Shared} {A:Around} {E:Value->Shared->Prop} {Q:Value->Shared->Prop} {a C:Addr} {od:Option Addr} {c:Value} {b:Bool} (I:Inv X pins σ H s) (e:H a=some (HM a C od)) (k:HT.ExcKind X.K C)
    (h:PySem.W.kitOne X.K (.ref C) c=some b) (hq:∀ tk,Q (.bool b) { s with toks:=tk }):wpAny (model X.prog X.w) A (call (.builtin "isinstance") [.ref a,c]) Q E s:=
  PySem.W.kia_one (HT.kitx_exc k) I.kIn (show HT.ExcAt a C s.heap from let ⟨o,h1,h2,_⟩:=(show ObjOk X.prog X.w H s.heap a (HM a C od) from I.hok a _ e).1;⟨o,h1,h2⟩) h (λ z=>nomatch z) hq
def K2 (K:PySem.W.Frag):List V->Hp->VK->Prop:=λ xs H Q=>∃ (y c:V) (cv t:Value) (b:Bool),xs=[y,c]/\((∃ D,c= .ref D/\cv= .ref D)\/∃ T,c= .ty T/\cv= .type T)/\PySem.W.kitOne K t cv=some b/\
  (TyOf K H y t\/∃ a C od,y= .ref a/\H a=some (HM a C od)/\t= .ref C/\HT.ExcKind K C)/\Q (.bl b) H
theorem B6 {X:Cx} {K:PySem.W.Frag} (hK:X.K=K:=by rfl):BA X (.builtin "isinstance") (K2 K):=by
  subst hK;intro pins s σ H xs us Q I r h;obtain ⟨y,c,cv,t,b,rfl,hc,e,hy,q⟩:=h;obtain ⟨u,c',rfl,rx,rc⟩:=Nw r;have ec:c'=cv:=by
    rcases hc with ⟨D,rfl,rfl⟩ | ⟨T,rfl,rfl⟩
    · exact rc
    · exact rc
  subst ec;rcases hy with ty | ⟨a,C,od,rfl,ha,rfl,k⟩
  · exact Fz I rx ty e λ tk=>⟨.bl b,H,I.tok tk,rfl,q⟩
  · cases rx;exact N0 I ha k e λ tk=>⟨.bl b,H,I.tok tk,rfl,q⟩
theorem BO {K:PySem.W.Frag} {H:Hp} {Q:VK} {a C D:Addr} {od:Option Addr} {b:Bool} (ha:H a=some (HM a C od)) (k:HT.ExcKind K C) (e:PySem.W.kitOne K (.ref C) (.ref D)=some b) (h:Q (.bl b) H):K2 K [.ref a, .ref D] H Q:=
  ⟨_,_,_,_,b,rfl, .inl ⟨D,rfl,rfl⟩,e, .inr ⟨a,C,od,rfl,ha,rfl,k⟩,h⟩
theorem Ml {K:PySem.W.Frag} {H:Hp} {Q:VK} {a C:Addr} {od:Option Addr} {T:String} {b:Bool} (ha:H a=some (HM a C od)) (k:HT.ExcKind K C) (e:PySem.W.kitOne K (.ref C) (.type T)=some b) (h:Q (.bl b) H):K2 K [.ref a, .ty T] H Q:=
  ⟨_,_,_,_,b,rfl, .inr ⟨T,rfl,rfl⟩,e, .inr ⟨a,C,od,rfl,ha,rfl,k⟩,h⟩
end L2
namespace HT
open PySem PySem.Spec PyProof.Rows PySem.W
theorem own_mk {K:Frag} {base:Heap} {mg:Str->Option Value} {x:Str} {C:Addr} {bmB:List Value} {newId:String} (X:K.In base) (hm:mg x=some (.ref C)) (q:excIn K C bmB newId=true):OwnCls x C bmB newId mg base:=by
  refine ⟨hm,?_⟩;unfold excIn at q;split at q
  · rename_i dd cd sl ho
    split at q
    · rename_i C' bm k0 k1 k2 k3 n k5 hm' hs
      simp only [Bool.and_eq_true,beq_iff_eq,Bool.not_eq_true'] at q;obtain ⟨⟨⟨⟨⟨rfl,rfl⟩,hdel⟩,ht⟩,hok⟩,hni⟩:=q;obtain ⟨nm,bs,mro,ns,qn,hd,sn,sub,ab,col,del⟩:=cd;dsimp only at hm' hdel hok hni;subst hm' hdel;obtain ⟨l⟩:=sl;have hsl:l=[k0,k1,k2,k3,some (.builtin n),k5]:=hs;subst hsl;exact ⟨bm,ns,nm,qn,bs,hd,sn,sub,ab,col,dd,k0,k1,k2,k3,k5,_,X _ _ ho, .of_isNs (isNs_of_in X hok),nsMap_none_of_in X hok hni,tail_of_in X ht⟩
    · cases q
  · cases q
end HT
namespace L2
open PySem PySem.Spec PyProof.Rows
def LL (P:Program) (w:World) (K:PySem.W.Frag) (mg:Str->Option Value) (base:Heap) (x:Str) (k:Nat) (ps:List Str) (sp:Sp):Prop:=
  ∃ f fd,mg x=some (.ref f)/\PySem.W.keepIn K (.ref f)=true/\FnOk P w K mg base (CXE P w) k f fd ps sp/\Binds K fd ps []
def LX (P:Program) (w:World) (K:PySem.W.Frag) (mg:Str->Option Value) (base:Heap) (x:Str) (C:Addr) (k:Nat) (ps:List Str) (sp:Sp):Prop:=
  ∃ f fd,mg x=some (.ref C)/\Mk K C f/\FnOk P w K mg base (CXE P w) k f fd ps sp/\Binds K fd ps []
theorem DefAt.callE {P:Program} {w:World} {K:PySem.W.Frag} {mg:Str->Option Value} {base:Heap} {x:Str} {st:Stmt} {ps:List Str} {f:Addr} {fd:FuncData} {k:Nat} {sp:Sp} (d:DefAt K mg x st ps f fd)
    (F:FnOk P w K mg base (CXE P w) k f fd ps sp):LL P w K mg base x k ps sp:=⟨f,fd,d.at',d.fn.kp,F,d.bi⟩
section
variable {X:Cx} {x:Str} {C:Addr} {k:Nat} {ps:List Str} {sp:Sp} {E:XK} {e:Expr} {es:List Expr} {t:TA} {p pos:Pos}
theorem G1 (h:LL X.prog X.w X.K X.mg X.base x k ps sp) (hr:Room k X.A) (hx:Ba (CXE X.prog X.w) X E) (ha:PA X (e::es) t) (hg:Gl X x:=by rfl) (hdb:(x == ("__debug__":Str))=false:=by decide)
    (he:starEach (e::es) X.env=(false,eval e X.env)::starEach es X.env:=by rfl) (hpl:(backTo pos (starEach es X.env)).any (·.1)=false:=by rfl):
    PE X (.Call (.Name x p) (e::es) [] pos) (Kk sp [] E t):=by
  obtain ⟨f,fd,hm,hk,F,hb⟩:=h;exact LA F hr hg hm hk hb .nil hx ha hdb he hpl
theorem DO (h:LX X.prog X.w X.K X.mg X.base x C k ps sp) (hr:Room (k+1) X.A) (hx:Ba (CXE X.prog X.w) X E) (ha:PA X (e::es) t) (hg:Gl X x:=by rfl) (hdb:(x == ("__debug__":Str))=false:=by decide)
    (he:starEach (e::es) X.env=(false,eval e X.env)::starEach es X.env:=by rfl) (hpl:(backTo pos (starEach es X.env)).any (·.1)=false:=by rfl):
    PE X (.Call (.Name x p) (e::es) [] pos) (Fy C sp [] E t):=by
  obtain ⟨f,fd,hm,M,F,hb⟩:=h;exact Jx M F hr hg hm hb .nil hx ha hdb he hpl
end
theorem LG {P:Program} {w:World} {K:PySem.W.Frag} {mg:Str->Option Value} {base:Heap} {N:List Str} {qual:Str} {scope:Scope} {f:Addr} {cd:Value} {A:Around} {outer:List Env} {s₀:Shared} {H₀:Hp} {E:XK}:
    Ba (CXE P w) (Co (CXE P w) P w K mg base N qual scope f cd A outer s₀ H₀ E) E:=Mr λ _ _ _ h=>h
section
variable {P:Program} {w:World} {K:PySem.W.Frag} {mg:Str->Option Value} {base:Heap}
theorem Fun.okE {x qual:Str} {st:Stmt} {f:Addr} {fd:FuncData} {N ps:List Str} {k:Nat} {sp:Sp} (F:Fun K x qual st f fd) (S:FnScope N ps (Af st)) (len:∀ vs H Q E,sp vs H Q E->vs.length=ps.length)
    (hbody:∀ (cdv:Value) (A:Around) (outer:List Env) (s:Shared) (H:Hp) (vs:List V) (Q:VK) (E:XK),Room k (A.deeper (envOfC qual (Af st) s.heap.objs.size f cdv))->sp vs H Q E->
      ∃ t,PSs (Co (CXE P w) P w K mg base N qual (Af st) f cdv A outer s H E) (AY st) t/\t { nx:=λ _ H'=>Q .non H',rt:=Q } (start N vs) H):FnOk P w K mg base (CXE P w) (k+1) f fd ps sp:=by
  obtain ⟨oc,od,kV,doc,pm,an,cdv,ct,osl,rfl,lk,hcd⟩:=F.ex;refine LE lk hcd S len λ A outer s H vs Q E hr hsp=> ?_;exact hbody cdv A outer s H vs Q E hr hsp
theorem CI {N:List Str} {qual:Str} {scope:Scope} {f:Addr} {cd:Value} {A:Around} {outer:List Env} {s₀:Shared} {H₀:Hp} {E:XK} {x:Str} {C:Addr} {e₀:Expr} {rest:List Expr} {np cpos pos:Pos} {ta:TA} (hm:mg x=some (.ref C))
    (q:PySem.W.excIn K C [.type "ValueError", .type "Exception", .type "BaseException", .type "object"] "ValueError.__new__"=true) (ha:PA (Co (CXE P w) P w K mg base N qual scope f cd A outer s₀ H₀ E) (e₀::rest) ta)
    (he:starEach (e₀::rest) (envOfC qual scope s₀.heap.objs.size f cd)=(false,eval e₀ (envOfC qual scope s₀.heap.objs.size f cd))::starEach rest (envOfC qual scope s₀.heap.objs.size f cd):=by rfl)
    (hplain:(backTo cpos (starEach rest (envOfC qual scope s₀.heap.objs.size f cd))).any (·.1)=false:=by rfl)
    (hg:Gl (Co (CXE P w) P w K mg base N qual scope f cd A outer s₀ H₀ E) x:=by rfl) (hd:(x == ("__debug__":Str))=false:=by decide):
    PS (Co (CXE P w) P w K mg base N qual scope f cd A outer s₀ H₀ E) (.Raise (some (.Call (.Name x np) (e₀::rest) [] cpos)) none pos) (M4 E C ta):=λ pins s σ H D I h=>
  Nf (HT.own_mk I.mod.kin hm q) PySem.F.excBase_ValueError ha he hplain hg hd pins s σ H D I h
end
theorem Gd:bootBuiltins "ValueError"=some (.type "ValueError"):=by decide +kernel
theorem Kb {X:Cx}:Ba (CXE X.prog X.w) X E0:=by
  intro pins σ H s e s' I h;obtain ⟨_,_,_,_,_,_,_,_,_,_,_,_,q⟩:=h;exact False.elim q
theorem TyOf.same {K:PySem.W.Frag} {H H':Hp} {x:V} {t:Value} (h:TyOf K H x t) (s:Same H H'):TyOf K H' x t:=by
  cases h with
  | non=>exact .non
  | bl x=>exact .bl x
  | int i=>exact .int i
  | str x=>exact .str x
  | flt x=>exact .flt x
  | lst e=>exact .lst (s _ _ e)
  | frz e=>exact .frz (s _ _ e)
  | tup e=>exact .tup (s _ _ e)
  | dK e=>exact .dK (s _ _ e)
  | dT e=>exact .dT (s _ _ e)
  | ins e cl ha hn htk hm=>exact .ins (s _ _ e) cl ha hn htk hm
theorem Ty.same {K:PySem.W.Frag} {H H':Hp} {x:V} (h:Ty K H x) (s:Same H H'):Ty K H' x:=let ⟨n,t⟩:=h;⟨n,t.same s⟩
theorem Hf {C:Addr} {sp:Sp} {t:TA} {σ:St} {H:Hp} {Q:VK} {E:XK} (h:t σ H λ vs H1=>∀ x dx,H1 x=none->H1 dx=none->dx≠x->sp (.ref x::vs) (upd (upd H1 dx (.own x)) x (.ins C dx [])) (λ v H2=>v= .non/\Q (.ref x) H2) E):Fy C sp [] E t σ H Q:=by
  unfold Fy;simpa using h
theorem RA {j:Nat} {D:Ends} {σ:St} {H:Hp} (h:D.nx (σ.set j none) H):(Q7 j D).nx σ H:=h
theorem Rs {K:PySem.W.Frag} {CL:Addr} {len j:Nat} {tb:XK->TS} {ts:TS} {D:Ends} {σ:St} {H:Hp} (h:tb (R5 K CL len j ts D) D σ H):W6 K CL len j tb ts D σ H:=h
end L2
namespace HT
open PySem PySem.Spec PyProof.Rows PySem.SeqAt
open PySem.AutoSeq1 (wpAny_loadPart')
open PySem.MeetsSeq PySem.MeetsSeq2 PySem.MeetsSeq3
theorem DI (b:Str) (u:Tok) (l:Addr) (c:Value) (es:Array DictEntry) (n:Nat) (dd:Option Addr) (sl:Array (Option Value)):
    Meets (Builtin.«str.__eq__» ⟨[.str b u, .ref l],[]⟩) (λ _ R s=>s.heap.get? l=some { cls:=c,dict:=dd,data:= .dict es n,slots:=sl }/\R (.ok (.ret .notImplemented)) s):=
  .of_wp λ prog w A R s h=>by obtain ⟨hp,g,d,tk,os⟩:=s;obtain ⟨hl,h⟩:=h;wp_walk using wpAny_loadPart' hl,wpAny_load hl;exact ⟨_,rfl,h⟩
theorem DZ (l:Addr) (es:Array DictEntry) (n:Nat) (dd:Option Addr) (sl:Array (Option Value)) (b:Str) (u:Tok):
    Meets (Builtin.«dict.__eq__» ⟨[.ref l, .str b u],[]⟩) (λ _ R s=>s.heap.get? l=some { cls:= .type "dict",dict:=dd,data:= .dict es n,slots:=sl }/\R (.ok (.ret .notImplemented)) s):=
  .of_wp λ prog w A R s h=>by obtain ⟨hp,g,d,tk,os⟩:=s;obtain ⟨hl,h⟩:=h;have f1:=PySem.F.sub_str_dict;wp_walk using wpAny_loadPart' hl;exact ⟨_,rfl,h⟩
section
variable {A:Around} {s:Shared}
theorem Ie {l:Addr} {es:Array DictEntry} {n:Nat} {dd:Option Addr} {sl:Array (Option Value)} (b:Str) (u:Tok) (ho:s.heap.get? l=some { cls:= .type "dict",dict:=dd,data:= .dict es n,slots:=sl }) (hu:A.units<cLine):RcAt A s (.str b u) (.ref l) false:=λ prog w E Q h=>
  rc_eq_decline_or (k:=false) (typeIs_str s b u) ⟨_,ho,rfl⟩ (by decide) PySem.F.sub_dict_str PySem.F.slot_str_eq PySem.F.slot_dict_eq_refl
    (λ _ hq=>call_meets PySem.F.slot_str_eq (typeIs_str s b u) PySem.F.entry_str_eq (PySem.F.args_str_eq_2 _ _) (DI b u l (.type "dict") es n dd sl) ⟨ho,hq⟩)
    (λ _ hq=>call_meets PySem.F.slot_dict_eq_refl ⟨_,ho,rfl⟩ PySem.F.entry_dict_eq (PySem.F.args_dict_eq_2 _ _) (DZ l es n dd sl b u) ⟨ho,hq⟩)
    (λ _ hq=>wpAny_of_eq (rfl:isSame (.str b u) (.ref l)=pure false) hq) (.inr hu) h
theorem eqAt_str_dict {l:Addr} {es:Array DictEntry} {n:Nat} {dd:Option Addr} {sl:Array (Option Value)} (b:Str) (u:Tok) (ho:s.heap.get? l=some { cls:= .type "dict",dict:=dd,data:= .dict es n,slots:=sl }) (hu:A.units<cLine):EqAt A s (.str b u) (.ref l) false:=λ prog w E Q h=>by
  unfold eqBool;refine wpAny_holding ?_;refine wpAny_ite_split (λ hab=>absurd (eq_of_beq hab) nofun) (λ _=> ?_);exact wpAny_bind (Ie b u ho hu prog w E _ (wpAny_truthy_bool h))
end
end HT
namespace L2
open PySem PySem.Spec PyProof.Rows
inductive DX where
  | d (d:Dt) | dic | tdic (rest:List Dt)
inductive Rx (H:Hp) (n:Nat):V->DX->Prop
  | d {v:V} {d:Dt} (r:Rp H FT n v d):Rx H n v (.d d)
  | dic {a:Addr} (h:H a=some (.dK [])):Rx H n (.ref a) .dic
  | tdic {t a:Addr} {ws:List V} {ds:List Dt} (ht:H t=some (.tup (.ref a::ws))) (h:H a=some (.dK [])) (l:ws.length=ds.length) (e:∀ (i:Nat) (v:V) (d:Dt),ws[i]?=some v->ds[i]?=some d->Rp H FT n v d):Rx H n (.ref t) (.tdic ds)
def okX:DX->List Dt->Prop
  | .d _,_=>True
  | .dic,ds=>∀ e∈ds,∃ z,e= .str z
  | .tdic _,ds=>∀ e∈ds,∃ z r,e= .tup (.str z::r)
noncomputable def inX:DX->List Dt->Bool
  | .d d,ds=>ds.any λ e=>eqD e d
  | _,_=>false
theorem LY {P:Program} {w:World} {H:Hp} {h:Heap} {a:Addr} (x:ObjOk P w H h a (.dK [])):∃ es n dd sl,h.get? a=some { cls:= .type "dict",dict:=dd,data:= .dict es n,slots:=sl }:=by
  obtain ⟨_,_,vs,_,o,es,ep,e,hx,hd,_⟩:=x;obtain ⟨c,dd,da,sl⟩:=o;obtain ⟨hc,_⟩:=hx;simp only at hc hd;subst hc hd;exact ⟨es,ep,dd,sl,e⟩
section
variable {X:Cx} {pins:List (Addr × Obj)} {σ:St} {H:Hp} {s:Shared}
theorem RQ (I:Inv X pins σ H s) {n:Nat} {A:Around} {v u:V} {e:Dt} {Y:DX} {rv ru:Value} (r:Rp H FT n v e) (rx:Rx H n u Y) (ok:okX Y [e]) (rr:RelV v rv) (rr2:RelV u ru) (hu:A.units+n+1<cLine):SeqAt.EqAt A s rv ru (inX Y [e]):=by
  cases rx with
  | d r2=>
    show SeqAt.EqAt A s rv ru (eqD e _||false);rw [Bool.or_false];exact FO I r r2 rr rr2 (by omega)
  | @dic a h=>
    obtain ⟨z,rfl⟩:=ok e (List.mem_singleton.mpr rfl);cases r;obtain ⟨t,rfl⟩:=rr;obtain rfl:ru=Value.ref a:=rr2;obtain ⟨es,m,dd,sl,ho⟩:=LY (I.hok a _ h);exact HT.eqAt_str_dict z t ho (by omega)
  | @tdic t a ws ds ht h l el=>
    obtain ⟨z,rr0,rfl⟩:=ok e (List.mem_singleton.mpr rfl);obtain rfl:ru=Value.ref t:=rr2;cases r with
    | @tup m b xs _ q1 b1 l1 el1=>
      obtain rfl:rv=Value.ref b:=rr;obtain ⟨its,rv1,pl,_⟩:=I.tuple (SqT.of q1);have pl:s.heap.IsTuple b its.toArray:=pl;obtain ⟨its2,rv2,pl2,_⟩:=I.tuple (SqT.of ht);have pl2:s.heap.IsTuple t its2.toArray:=pl2;have x0:∃ y,xs[0]?=some y:=by
        cases xs with
        | nil=>cases l1
        | cons y _=>exact ⟨y,rfl⟩
      obtain ⟨y,hy⟩:=x0;have ry:=el1 0 y _ hy rfl;have hab:b≠t:=λ q=>by
        subst q;rw [q1] at ht;cases ht;cases hy;cases ry
      refine SeqAt.EqAt.of_refs hab ?_;have at':∀ j (h1:j<its.toArray.size) (h2:j<its2.toArray.size),SeqAt.EqAt A.in1 s its.toArray[j] its2.toArray[j] (if j=0 then false else eqD ((Dt.str z::rr0).getD j .non) ((Dt.non::ds).getD j .non)):=λ j h1 h2=>by
        have k1:=rv1.length;have k2:=rv2.length;have h1':j<its.length:=by simpa using h1
        have h2':j<its2.length:=by simpa using h2
        have g1:xs[j]?=some (xs.getD j .non):=by rw [List.getD_eq_getElem?_getD,List.getElem?_eq_getElem (by omega)];rfl
        have g2:(V.ref a::ws)[j]?=some ((V.ref a::ws).getD j .non):=by rw [List.getD_eq_getElem?_getD,List.getElem?_eq_getElem (by omega)];rfl
        obtain ⟨u1,e1,ru1⟩:=rv1.get g1;obtain ⟨u2,e2,ru2⟩:=rv2.get g2;have p1:its.toArray[j]=u1:=by rw [List.getElem?_eq_getElem h1'] at e1;simpa using Option.some.inj e1
        have p2:its2.toArray[j]=u2:=by rw [List.getElem?_eq_getElem h2'] at e2;simpa using Option.some.inj e2
        rw [p1,p2];cases j with
        | zero=>
          rw [if_pos rfl];have r0:=el1 0 _ _ g1 rfl;obtain ⟨es,m',dd,sl,ho⟩:=LY (I.hok a _ h);generalize xs.getD 0 .non=y0 at r0 ru1;cases r0;obtain ⟨t0,rfl⟩:=ru1;obtain rfl:u2=Value.ref a:=ru2;exact HT.eqAt_str_dict z t0 ho (by rw [Bh];omega)
        | succ j=>
          rw [if_neg (by omega)];have d1:(Dt.str z::rr0)[j+1]?=some ((Dt.str z::rr0).getD (j+1) .non):=by rw [List.getD_eq_getElem?_getD,List.getElem?_eq_getElem (by simp at l1;simp;omega)];rfl
          have hlw:j<ds.length:=by simp at k2;omega
          have d2:ds[j]?=some (ds.getD j .non):=by rw [List.getD_eq_getElem?_getD,List.getElem?_eq_getElem hlw];rfl
          have gw:ws[j]?=some ((V.ref a::ws).getD (j+1) .non):=by simpa using g2
          have r1:=(el1 (j+1) _ _ g1 d1).up (Nat.le_succ m);have r2:=el j _ _ gw d2;show SeqAt.EqAt _ s u1 u2 (eqD _ (ds.getD j .non));exact FO I r1 r2 ru1 ru2 (by rw [Bh];omega)
      have q:=SeqAt.RcAt.tuples (A:=A) (e:=λ j=>if j=0 then false else eqD ((Dt.str z::rr0).getD j .non) ((Dt.non::ds).getD j .non)) pl pl2 (by omega) at';have z1:0<its.toArray.size:=by
        have:=rv1.length;rw [l1] at this;simp at this ⊢;omega
      have z2:0<its2.toArray.size:=by
        have:=rv2.length;simp at this ⊢;omega
      have ef:((List.range (min its.toArray.size its2.toArray.size)).all λ j=>if j=0 then false else eqD ((Dt.str z::rr0).getD j .non) ((Dt.non::ds).getD j .non))=false:=by
        rw [List.all_eq_false];exact ⟨0,List.mem_range.mpr (by omega),by simp⟩
      rw [ef,Bool.false_and] at q;exact q
end
def Zm (neg:Bool):R2:=λ x y H Q=>∃ (p:Addr) (vs:List V) (ds:List Dt) (n:Nat) (Y:DX),y= .ref p/\(H p=some (.lst vs)\/H p=some (.tup vs))/\n<=30/\vs.length=ds.length/\(∀ (i:Nat) (v:V) (d:Dt),vs[i]?=some v->ds[i]?=some d->Rp H FT n v d)/\Rx H n x Y/\okX Y ds/\
  Q (.bl (if neg then !inX Y ds else inX Y ds)) H
theorem OV {Y:DX} {ds:List Dt} (h:okX Y ds) {e:Dt} (he:e∈ds):okX Y [e]:=by
  cases Y with
  | d _=>trivial
  | dic=>intro e' h';rw [List.mem_singleton.mp h'];exact h e he
  | tdic _=>intro e' h';rw [List.mem_singleton.mp h'];exact h e he
theorem Pb (Y:DX) (ds:List Dt):inX Y ds=ds.any λ e=>inX Y [e]:=by
  cases Y with
  | d d=>show (ds.any λ e=>eqD e d)=ds.any λ e=>(eqD e d||false);simp
  | dic=>show false=_;symm;rw [List.any_eq_false];intro e _;show ¬ (false=true);decide
  | tdic _=>show false=_;symm;rw [List.any_eq_false];intro e _;show ¬ (false=true);decide
open Classical in
theorem Lz {X:Cx} {pins:List (Addr × Obj)} {σ:St} {H:Hp} {s:Shared} (I:Inv X pins σ H s) (hu:X.A.units+64<cLine) {vs:List V} {ds:List Dt} {n:Nat} {Y:DX} {x:V} {v:Value} {its:List Value} (hn:n<=30) (l:vs.length=ds.length)
    (el:∀ (i:Nat) (v:V) (d:Dt),vs[i]?=some v->ds[i]?=some d->Rp H FT n v d) (rx:Rx H n x Y) (ok:okX Y ds) (rr:RelV x v) (rv:Vals vs its):
    ∃ e:Value->Bool,(∀ y,y∈its->SeqAt.EqAt X.A.in1 s y v (e y))/\its.any e=inX Y ds:=by
  have k:=rv.length;have eq1:∀ (i:Nat) (u:Value) (d:Dt),its[i]?=some u->ds[i]?=some d->SeqAt.EqAt X.A.in1 s u v (inX Y [d]):=λ i u d hu1 hd=>by
    have hi:i<its.length:=(List.getElem?_eq_some_iff.mp hu1).1;have g1:vs[i]?=some (vs.getD i .non):=by rw [List.getD_eq_getElem?_getD,List.getElem?_eq_getElem (by omega)];rfl
    obtain ⟨u1,e1,ru1⟩:=rv.get g1;rw [e1] at hu1;cases hu1;exact RQ I (el i _ _ g1 hd) rx (OV ok (List.mem_of_getElem? hd)) ru1 rr (by rw [Bh];omega)
  refine ⟨λ u=>decide (∃ (i:Nat) (d:Dt),its[i]?=some u/\ds[i]?=some d/\inX Y [d]=true),λ u hu1=> ?_,?_⟩
  · by_cases h:∃ (i:Nat) (d:Dt),its[i]?=some u/\ds[i]?=some d/\inX Y [d]=true
    · show SeqAt.EqAt X.A.in1 s u v (decide _);rw [decide_eq_true h];obtain ⟨i,d,h1,h2,h3⟩:=h;have:=eq1 i u d h1 h2
      rwa [h3] at this
    · show SeqAt.EqAt X.A.in1 s u v (decide _);rw [decide_eq_false h];obtain ⟨i,hi,rfl⟩:=List.getElem_of_mem hu1;have hd:ds[i]?=some (ds.getD i .non):=by rw [List.getD_eq_getElem?_getD,List.getElem?_eq_getElem (by omega)];rfl
      have h1:its[i]?=some its[i]:=List.getElem?_eq_getElem hi;have:=eq1 i _ _ h1 hd;have hf:inX Y [ds.getD i .non]=false:=by
        cases hq:inX Y [ds.getD i .non] with
        | false=>rfl
        | true=>exact absurd ⟨i,_,h1,hd,hq⟩ h
      rwa [hf] at this
  · rw [Pb,Bool.eq_iff_iff,List.any_eq_true,List.any_eq_true];constructor
    · rintro ⟨u,hu1,h⟩;obtain ⟨i,d,h1,h2,h3⟩:=of_decide_eq_true h;exact ⟨d,List.mem_of_getElem? h2,h3⟩
    · rintro ⟨d,hd,h⟩;obtain ⟨i,hi,rfl⟩:=List.getElem_of_mem hd;have hi':i<its.length:=by omega
      exact ⟨its[i],List.getElem_mem hi',decide_eq_true ⟨i,_,List.getElem?_eq_getElem hi',List.getElem?_eq_getElem hi,h⟩⟩
theorem R8 {X:Cx} (hu:X.A.units+64<cLine):OpR X (compareOp .In) (Zm false):=by
  intro pins s σ H x y v u Q I rx ry h;obtain ⟨p,vs,ds,n,Y,rfl,hp,hn,l,el,rX,ok,q⟩:=h;obtain rfl:u=Value.ref p:=ry;rcases hp with hp | hp
  · obtain ⟨its,r,pl,hz⟩:=I.list (SqL.of hp);obtain ⟨e,he,ha⟩:=Lz I hu hn l el rX ok rx r;refine SeqAt.in_listAt e pl.isList (λ w hw=>he w (by simpa using hw)) ⟨.bl _,H,I,rfl,?_⟩;rw [show its.toArray.any e=its.any e by simp,ha];exact q
  · obtain ⟨its,r,pl,hz⟩:=I.tuple (SqT.of hp);obtain ⟨e,he,ha⟩:=Lz I hu hn l el rX ok rx r;refine SeqAt.in_tupleAt e pl (λ w hw=>he w (by simpa using hw)) ⟨.bl _,H,I,rfl,?_⟩;rw [show its.toArray.any e=its.any e by simp,ha];exact q
theorem NI {X:Cx} {K:PySem.W.Frag} (hK:X.K=K:=by rfl):OpR X (binaryOp .Add) (NH K):=by subst hK;exact OH
theorem LQ {K:PySem.W.Frag} {H:Hp} {Q:VK} {a b:Addr} {xs ys:List V} (c:SqT K H a xs) (d:SqT K H b ys) (n:xs≠[]) (n2:ys≠[]) (l:xs.length+ys.length<=100000) (h:∀ p,H p=none->Q (.ref p) (upd H p (.tup (xs++ys)))):NH K (.ref a) (.ref b) H Q:=
  ⟨a,b,xs,ys,rfl,rfl,c,d,n,Nat.le_trans l (by decide),λ e=>absurd e n2,λ _=>h⟩
theorem TyOf.same' {K:PySem.W.Frag} {H H':Hp} {x:V} {t:Value} (h:TyOf K H x t) (s:Same H H'):TyOf K H' x t:=by
  cases h with
  | non=>exact .non
  | bl x=>exact .bl x
  | int i=>exact .int i
  | str x=>exact .str x
  | flt x=>exact .flt x
  | lst e=>exact .lst (s _ _ e)
  | frz e=>exact .frz (s _ _ e)
  | tup e=>exact .tup (s _ _ e)
  | dK e=>exact .dK (s _ _ e)
  | dT e=>exact .dT (s _ _ e)
  | ins e cl ha hn htk hm=>exact .ins (s _ _ e) cl ha hn htk hm
theorem Ty.same' {K:PySem.W.Frag} {H H':Hp} {x:V} (h:Ty K H x) (s:Same H H'):Ty K H' x:=let ⟨n,t⟩:=h;⟨n,t.same' s⟩
theorem ifE {c:Bool} {ta tb:TE} {σ:St} {H:Hp} {R:VK} (P:V->Hp->Prop) (h1:∀ v H',P v H'->R v H') (h2:∀ R':VK,(∀ v H',P v H'->R' v H')->if c=true then ta σ H R' else tb σ H R'):if c=true then ta σ H R else tb σ H R:=h2 R h1
end L2
namespace L2
open PySem PySem.Spec PyProof.Rows PySem.W
noncomputable def exO (a:Addr) (o:Obj):HO:= .ext λ h=>h.get? a=some o
theorem Rb {P:Program} {w:World} {H:Hp} {h:Heap} {a:Addr} {o:Obj} (e:h.get? a=some o):ObjOk P w H h a (exO a o):=⟨e,⟨o,e⟩,λ _ _ x k=>k o x⟩
theorem Ou {P:Program} {w:World} {H:Hp} {h:Heap} {a:Addr} {o:Obj} (x:ObjOk P w H h a (exO a o)):h.get? a=some o:=x.1
noncomputable def cxL (P:Program) (w:World) (K:PySem.W.Frag) (mg:Str->Option Value) (base:Heap) (N:List Str) (qual:Str) (scope:Scope) (f:Addr) (cd:Value) (cl:List (Str × Addr)) (A:Around) (outer:List Env) (s:Shared) (H:Hp) (E:XK):Cx where
  prog:=P
  w:=w
  K:=K
  mg:=mg
  base:=base
  A:=A.deeper (envX qual scope s.heap.objs.size f cd cl)
  N:=N
  s₀:=s
  H₀:=H
  env:=envX qual scope s.heap.objs.size f cd cl
  outer:=outer
  stack:=envX qual scope s.heap.objs.size f cd cl::outer
  ex:=[]
  calm:=true
  fn:=λ _=>false
  pn:=[]
  xe:=λ e s'=>wpAny (model P w) (A.deeper (envX qual scope s.heap.objs.size f cd cl)) (leaving (envX qual scope s.heap.objs.size f cd cl) e) (λ _ s''=>CXE P w outer H s E e s'') (λ e' s''=>CXE P w outer H s E e' s'') s'
section
variable {P:Program} {w:World} {K:PySem.W.Frag} {mg:Str->Option Value} {base:Heap} {N:List Str} {qual:Str} {scope:Scope} {f:Addr} {cd:Value} {cl:List (Str × Addr)} {A:Around} {outer:List Env} {s:Shared} {H:Hp} {E:XK}
structure ClOkL (N:List Str) (scope:Scope) (cl:List (Str × Addr)) (h:Heap) (H:Hp) (vs:List V):Prop where
  len:vs.length=N.length
  inj:∀ x y c,cl.lookup x=some c->cl.lookup y=some c->x=y
  has:∀ x,(scope.names.lookup x=some .cell\/scope.names.lookup x=some .free)->∃ c,cl.lookup x=some c
  val:∀ (i:Nat) (x:Str) (v:V),N[i]?=some x->vs[i]?=some v->∃ c u,scope.names.lookup x=some .free/\cl.lookup x=some c/\RelV v u/\h.IsCell c (some u)
  cell:∀ x c,cl.lookup x=some c->(∃ v,h.IsCell c v)/\H c=none
theorem Le {vs:List V} {h':Heap} {tk:Nat} (hk:scope.kind= .function) (hd:A.handled=none) (e0:Env0 P w K mg base A outer s H) (C:ClOkL N scope cl s.heap H vs) (hns:h'.Ns s.heap.objs.size λ _=>none) (kp:∀ b o,s.heap.get? b=some o->h'.get? b=some o):
    Inv (cxL P w K mg base N qual scope f cd cl A outer s H E) [] (vs.map some) H { s with heap:=h',toks:=tk }:=by
  have noA:∀ b:Addr,b∉(cxL P w K mg base N qual scope f cd cl A outer s H E).ex:=λ b z=>absurd (show b∈([]:List Addr) from z) (by simp);have ic:∀ c v,s.heap.IsCell c v->h'.IsCell c v:=λ c v ⟨o,e,d⟩=>⟨o,kp _ _ e,d⟩;refine ⟨⟨e0.mod,hk,rfl,rfl,Nat.le_refl _,C.inj,C.has,λ y c z _=>(by cases z),λ _=>hd,Around.frames_deeper e0.frames, .inr ⟨rfl,rfl⟩,λ b z=>absurd z (noA b),e0.bs,e0.bsz,λ b _ _=>noA b,λ b z=>absurd z (noA b),e0.funs,e0.frf⟩,
    rfl,e0.bare,Un.kept kp,⟨_,hns,λ i y v h1 h2 h3=> ?_⟩,λ y c h=> ?_,e0.hok.fresh (Nat.le_refl _),λ y c h=>(C.cell y c h).2,λ p hp=>absurd (show p∈([]:List (Addr × Obj)) from hp) (by simp),e0.hok.kept kp,by rw [List.length_map];exact C.len⟩
  · have h2':vs[i]?=some v:=by
      rw [List.getElem?_map] at h2;cases e:vs[i]? with
      | none=>rw [e] at h2;cases h2
      | some a=>rw [e] at h2;cases h2;rfl
    obtain ⟨c,u,k,l,r,ce⟩:=C.val i y v h1 h2';exact ⟨u,r, .inr ⟨.inr k,c,l,ic _ _ ce⟩⟩
  · obtain ⟨v,z⟩:=(C.cell y c h).1;exact ⟨v,ic _ _ z⟩
theorem NL {s₀:Shared} {H₀:Hp} {E':XK}
    (hE:∀ c o H,E c o H->E' c o H):Ba (CXE P w) (cxL P w K mg base N qual scope f cd cl A outer s₀ H₀ E') E:=by
  intro pins σ H s e s' I h;obtain ⟨a,C,t,od,H',rfl,os,bare,un,hok,⟨B,fl,cov⟩,di,q⟩:=h;have hfr:(envX qual scope s₀.heap.objs.size f cd cl).frame=some s₀.heap.objs.size:=rfl;have hfs:frs (envX qual scope s₀.heap.objs.size f cd cl::outer)=s₀.heap.objs.size::frs outer:=CK hfr;refine Hr I.ok.frames hfr fl λ h' fl' ups kd=> ?_;have ib:Un (frs outer) [] H₀ H s₀.heap s.heap:=I.base;have nl:∀ b o,s₀.heap.get? b=some o->b≠s₀.heap.objs.size:=λ b o e=>Nat.ne_of_lt (Heap.lt_size e);have toB:∀ b,(H' b≠none\/∃ o,s.heap.get? b=some o)->b∉frs (envX qual scope s₀.heap.objs.size f cd cl::outer)->∀ o,s'.heap.get? b=some o->h'.get? b=some o:=λ b hb hn o e=>fl'.1 b o (cov b hb hn o e);have untr:∀ b,b∈frs (envX qual scope s₀.heap.objs.size f cd cl::outer)->H' b=none:=λ b hb=>by
    obtain ⟨_,o,e,_⟩:=AW I.stack hb;exact un.free b o e (I.stkFree b hb) (by simp)
  have hok':HOk P w H' h':=hok.on λ b u hb e=>by
    refine toB b (.inl hb) (λ z=>hb (untr b z)) u e
  refine ⟨a,C,t,od,H',rfl,os.trans I.os,bare,?_,hok',⟨B,fl',λ b hb hn o e=> ?_⟩,di.on kd (let ⟨o,e,_⟩:=fl'.there;⟨o,e⟩),hE _ _ _ q⟩
  · have notin:∀ b o,s₀.heap.get? b=some o->b∉frs outer->b∉frs (envX qual scope s₀.heap.objs.size f cd cl::outer):=λ b o e hn z=>by
      rw [hfs] at z;rcases List.mem_cons.mp z with z | z
      · exact nl b o e z
      · exact hn z
    have isin:∀ b,b∈frs outer->b∈frs (envX qual scope s₀.heap.objs.size f cd cl::outer):=λ b hb=>by rw [hfs];exact List.mem_cons_of_mem _ hb
    refine ⟨λ b o e hH hn _=> ?_,λ b o e hH hb _=> ?_,λ b o e hH _=> ?_,λ b o e _=> ?_,λ b xs e=>un.tups b xs (ib.tups b xs e),λ b o u e=>un.frzs b o u (ib.frzs b o u e),λ b ps e=> ?_⟩
    · have e1:=ib.keep b o e hH hn (by simp);exact toB b (.inr ⟨o,e1⟩) (notin b o e hn) o (un.keep b o e1 (ib.free b o e hH (by simp)) (notin b o e hn) (by simp))
    · obtain ⟨sl,e1⟩:=ib.slot b o e hH hb (by simp);obtain ⟨sl2,e2⟩:=un.slot b _ e1 (ib.free b o e hH (by simp)) (isin b hb) (by simp);obtain ⟨_,o',e',nf⟩:=AW fl.2.2.1 (isin b hb);rw [e2] at e';cases e';obtain ⟨sl3,e3⟩:=ups b _ e2 nf;exact ⟨sl3,e3⟩
    · obtain ⟨o1,e1⟩:=ib.there b o e (by simp);exact un.free b o1 e1 (ib.free b o e hH (by simp)) (by simp)
    · obtain ⟨o1,e1⟩:=ib.there b o e (by simp);obtain ⟨o2,e2⟩:=un.there b o1 e1 (by simp);by_cases hb:b∈frs outer
      · obtain ⟨_,o',e',nf⟩:=AW fl.2.2.1 (isin b hb);obtain ⟨sl3,e3⟩:=ups b _ e' nf;exact ⟨_,e3⟩
      · exact ⟨o2,toB b (.inr ⟨o1,e1⟩) (notin b o e hb) o2 e2⟩
    · obtain ⟨m1,e1⟩:=ib.tbls b ps e;obtain ⟨m2,e2⟩:=un.tbls b _ e1;exact ⟨m1++m2,by rw [e2,Array.append_assoc]⟩
  · have hn2:b∉frs (envX qual scope s₀.heap.objs.size f cd cl::outer):=λ z=>by
      have z0:=z;rw [hfs] at z;rcases List.mem_cons.mp z with z | z
      · rcases hb with hb | ⟨o1,e1⟩
        · exact hb (untr b z0)
        · exact nl b o1 e1 z
      · exact hn z
    obtain ⟨o2,e2,hb2⟩:∃ o2,s'.heap.get? b=some o2/\(H' b≠none\/∃ o,s.heap.get? b=some o):=by
      rcases hb with hb | ⟨o1,e1⟩
      · cases hx:H' b with
        | none=>exact absurd hx hb
        | some u=>
          obtain ⟨o2,e2⟩:=Hj (hok b u hx);exact ⟨o2,e2, .inl (λ z=>by cases z)⟩
      · obtain ⟨o3,e3⟩:=ib.there b o1 e1 (by simp);obtain ⟨o2,e2⟩:=un.there b o3 e3 (by simp);exact ⟨o2,e2, .inr ⟨o3,e3⟩⟩
    have e3:=cov b hb2 hn2 o2 e2;have e4:=fl'.1 b o2 e3;rw [show h'.get? b=some o from e] at e4;cases e4;exact e3
theorem YL {k:Nat} {params:Arguments} {body:Expr} {pm ctv:Value} {c':Addr} {vs:List V} {Q:VK} {tb:TE} (ho:s.heap.get? f=some (kla_obj "<lambda>" qual params body scope cl pm c' ctv)) (hcd:s.heap.CodeRec (.ref c') qual) (hr:Room (k+1) A) (e0:Env0 P w K mg base A outer s H)
    (hk:scope.kind= .function) (hco:scope.isCoroutine=false) (hgen:scope.isGenerator=false) (hcell:∀ x∈scope.names,x.2≠ .cell) (hbind:bindArgs (kla_fn "<lambda>" qual params body scope cl pm (.ref c') ctv) ⟨[],[]⟩=pure []) (C:ClOkL N scope cl s.heap H vs)
    (hb:PE (cxL P w K mg base N qual scope f (.ref c') cl A outer s H E) body tb) (h:tb (vs.map some) H Q):codeAny (model P w) A (.call (.ref f) ⟨[],[]⟩) (CR (CXE P w) outer P w H s Q E) s:=by
  have lim:s.heap.NoLimit:=e0.mod.nolimit.keeps λ b o e=>(e0.bs b o e).1;refine kla_callFunE hr.depth ho rfl hco hgen rfl hcd ?_;rw [hbind];refine wpAny_pure (wpAny_newFunctionEnv hcell (λ x hx=>by cases hx) (λ h₁ hns hsb=>⟨lim.fresh _ hsb,?_⟩) hk);have kp:∀ b o,s.heap.get? b=some o->h₁.get? b=some o:=λ b o e=>hsb.extBut b o (Nat.ne_of_lt (Heap.lt_size e)) (Heap.get?_push_of_some _ e);show codeAny _ _ (.expr body (envX qual scope s.heap.objs.size f (.ref c') cl)) _ _;refine kla_codeExpr ?_;have I:Inv (cxL P w K mg base N qual scope f (.ref c') cl A outer s H E) [] (vs.map some) H { s with heap:=h₁,toks:=s.toks+0 }:=Le hk hr.hd e0 C hns kp;refine wpAny_mono (hb [] _ _ H Q I h) (λ u s' hs=> ?_) λ e s' hs=>hs;obtain ⟨v,H',J,rv,q⟩:=hs;exact ⟨v,H',J.os,J.bare,J.base,J.hok,rv,q⟩
end
theorem ClOkL.on {N:List Str} {scope:Scope} {cl:List (Str × Addr)} {h h':Heap} {H H':Hp} {vs:List V} (C:ClOkL N scope cl h H vs) (k:∀ x c o,cl.lookup x=some c->h.get? c=some o->h'.get? c=some o/\H' c=none):ClOkL N scope cl h' H' vs:=by
  refine ⟨C.len,C.inj,C.has,λ i x v h1 h2=> ?_,λ x c e=> ?_⟩
  · obtain ⟨c,u,k1,l,r,o,e,d⟩:=C.val i x v h1 h2;exact ⟨c,u,k1,l,r,o,(k x c o l e).1,d⟩
  · obtain ⟨⟨v,o,e1,d⟩,_⟩:=C.cell x c e;exact ⟨⟨v,o,(k x c o e e1).1,d⟩,(k x c o e e1).2⟩
def J3 (qual:Str) (oc:Obj):Prop:=∃ vs t,oc.data= .fields vs/\vs[1]?=some (.str qual t)
def KS (f c':Addr) (oc:Obj) (vs:List V) (to tb:TE):TE:=λ σ H Q=>to σ H λ v H1=>v= .ref f/\H1 c'=some (exO c' oc)/\tb (vs.map some) H1 Q
theorem M8 {X:Cx} {k:Nat} {E:XK} {N:List Str} {qual:Str} {scope:Scope} {f c':Addr} {oc:Obj} {cl:List (Str × Addr)} {params:Arguments} {body:Expr} {pm ctv:Value} {vs:List V} {o:Expr} {to tb:TE} {pos:Pos}
    (ho:PE X o to) (hx:Ba (CXE X.prog X.w) X E) (hr:Room (k+1) X.A) (hex:X.ex=[]) (hf:X.s₀.heap.get? f=some (kla_obj "<lambda>" qual params body scope cl pm c' ctv)) (hf0:X.H₀ f=none) (nf:f∉X.fs) (hoc:J3 qual oc)
    (C:ClOkL N scope cl X.s₀.heap X.H₀ vs) (nc:∀ x c,cl.lookup x=some c->c∉X.fs)
    (hk:scope.kind= .function) (hco:scope.isCoroutine=false) (hgen:scope.isGenerator=false) (hcell:∀ x∈scope.names,x.2≠ .cell) (hbind:bindArgs (kla_fn "<lambda>" qual params body scope cl pm (.ref c') ctv) ⟨[],[]⟩=pure [])
    (hb:∀ (s:Shared) (H:Hp),PE (cxL X.prog X.w X.K X.mg X.base N qual scope f (.ref c') cl X.A X.stack s H E) body tb)
    (ht:eval (.Call o [] [] pos) X.env=(do callWith pos (<-eval o X.env) [] (backTo pos (starEach [] X.env)) (backToKw pos (keywordEach [] X.env))):=by rfl):
    PE X (.Call o [] [] pos) (KS f c' oc vs to tb):=by
  intro pins s σ H Q I h;rw [ht];refine wpAny_bind (thn (ho pins s σ H _ I h) λ u s1 ⟨x,H1,I1,rx,ex,hc,q⟩=> ?_);subst ex;obtain rfl:u=Value.ref f:=rx;have nex:∀ b:Addr,b∉X.ex:=λ b=>by rw [hex];simp
  have hf1:=I1.base.keep f _ hf hf0 nf (nex f);obtain ⟨vs',t,d,e1⟩:=hoc;have hcd:s1.heap.CodeRec (.ref c') qual:=⟨c',oc,vs',t,rfl,Ou (I1.hok c' _ hc),d,e1⟩;have C1:ClOkL N scope cl s1.heap H1 vs:=C.on λ y c o l e=>⟨I1.base.keep c o e (C.cell y c l).2 (nc y c l) (nex c),I1.base.free c o e (C.cell y c l).2 (nex c)⟩;refine callWith_F0 ⟨_,_,_,_,hf1⟩ ?_;refine wpAny_call (codeAny_mono (YL (tb:=tb) (E:=E) hf1 hcd hr I1.env0 hk hco hgen hcell hbind C1 (hb s1 H1) q) λ r s' hq=> ?_);cases r with
  | error e=>exact hx pins σ H1 s1 e s' I1 hq
  | ok fl=>
    cases fl with
    | ret u=>exact I1.after hq
    | next=>exact False.elim hq
    | brk=>exact False.elim hq
    | cont=>exact False.elim hq
theorem Ra {CX:CXT} {P:Program} {w:World} {K:PySem.W.Frag} {mg:Str->Option Value} {base:Heap} {k:Nat} {f:Addr} {name qual:Str} {params:Arguments} {body:List Stmt} {scope:Scope} {dV kV doc pm cdv ct oc:Value} {an od:Option Addr}
    {osl:Array (Option Value)} {N ps:List Str} (lk:K.lookup f=some ⟨oc,od, .func (PySem.W.fnOf name qual params body scope dV kV doc pm an cdv ct),osl⟩) (hcd:PySem.W.codeIn K cdv qual=true) (S:FnScope N ps scope)
    {A:Around} {outer:List Env} {s:Shared} {H:Hp} {args:Args} {us:List Value} {vs:List V} {Q:VK} {E:XK} {t:TS} (hr:Room (k+1) A) (e0:Env0 P w K mg base A outer s H) (hb:BindsTo s (PySem.W.fnOf name qual params body scope dV kV doc pm an cdv ct) args (ps.zip us)) (r:Vals vs us) (hl:vs.length=ps.length)
    (ht:PSs (Co CX P w K mg base N qual scope f cdv A outer s H E) body t) (hq:t { nx:=λ _ H'=>Q .non H',rt:=Q } (start N vs) H):codeAny (model P w) A (.call (.ref f) args) (CR CX outer P w H s Q E) s:=by
  have kin:=e0.mod.kin.keeps λ b o e=>(e0.bs b o e).1;have kinds:∀ y∈ps.zip us,scope.names.lookup y.1=some .local\/(scope.names.lookup y.1=some .cell/\((cellsFrom (s.heap.objs.size+1) scope.names []).lookup y.1).isSome=true):=by
    intro y hy;exact (S.par y.1 (List.of_mem_zip hy).1).imp id λ z=>⟨z,PySem.W.cellsFrom_some _ _ _ (.inl z)⟩
  refine codeAny_call_function hr.depth (kin _ _ lk) rfl S.co S.gen rfl (PySem.W.codeRec_of kin hcd) (hb _ _ _ _ (wpAny_newFunctionEnv_cells S.kind kinds ?_));rintro _ rfl s1 x;refine ⟨(e0.mod.nolimit.keeps λ b o e=>(e0.bs b o e).1).keeps x.toInCall.keep,codeAny_func (wpAny_mono (ht [] s1 (start N vs) H _ (IV S hr.hd e0 hl r x) hq) ?_ λ _ _ z=>z)⟩;intro fl s' z
  match fl,z with
  | .ret u,⟨v,_,H',J,rv,q⟩=>exact ⟨v,H',J.os,J.bare,J.base,J.hok,rv,q⟩
  | .next,⟨_,H',J,q⟩=>exact ⟨V.non,H',J.os,J.bare,J.base,J.hok,rfl,q⟩
  | .brk,⟨_,_,_,q⟩=>exact False.elim q
  | .cont,⟨_,_,_,q⟩=>exact False.elim q
theorem Iz {p:Pos} {c cv:Value} {a b:Int} {t u:Tok}:∀ (l:List Value),TriplesOk l->codeAmong p (l++[.int a t, .int b u,c])=some cv->codeAmong p l=some cv\/cv=c
  | [],_,h=>by
    right;simp only [List.nil_append,codeAmong] at h;split at h
    · exact (Option.some.inj h).symm
    · cases h
  | .int x tx:: .int y ty::z::rest,ok,h=>by
    have h:codeAmong p (.int x tx:: .int y ty::z::(rest++[.int a t, .int b u,c]))=some cv:=h;simp only [codeAmong] at h ⊢;split at h
    · rename_i hc
      rw [if_pos hc];exact .inl h
    · rename_i hc
      rw [if_neg hc];exact Iz rest ok h
def LamT (H:Hp) (P:Addr) (qual:Str):Prop:=∃ ps:Array Value,H P=some (.tbl ps)/\TriplesOk ps.toList/\∀ pos cv,codeAmong pos ps.toList=some cv->∃ c' oc,cv= .ref c'/\H c'=some (exO c' oc)/\J3 qual oc
structure LamX (X:Cx) (c P:Addr):Prop where
  code:X.env.code= .ref c
  hd:CodeHd X.base c P
  blt:X.base.BuiltinsAt X.mg P
section
variable {X:Cx} {pins:List (Addr × Obj)} {σ:St} {H:Hp} {s:Shared}
theorem mkL {c P:Addr} {params:Arguments} {body:Expr} {scope:Scope} {pos:Pos} {Q:Value->Shared->Prop} {E:Value->Shared->Prop} (L:LamX X c P) (hfree:∀ y∈scope.names,y.2= .free->X.env.kindOf y.1=some .cell) (hdef:defaultsOf params X.env=([],[]))
    (I:Inv X pins σ H s) (hT:LamT H P (X.env.qual++"<lambda>"))
    (h:∀ f c' oc pm ctv H' s',Inv X pins σ H' s'->s'.heap.get? f=some (kla_obj "<lambda>" (X.env.qual++"<lambda>") params body scope (AN X.env.cells scope.names []) pm c' ctv)->H' f=none->s.heap.objs.size<=f->H' c'=some (exO c' oc)->J3 (X.env.qual++"<lambda>") oc->
      LamT H' P (X.env.qual++"<lambda>")->(∀ b o,b≠P->H b=some o->H' b=some o)->Q (.ref f) s'):
    wpAny (model X.prog X.w) X.A (eval (.Lambda params body scope pos) X.env) Q E s:=by
  obtain ⟨ps,hP,ok,hit⟩:=hT;have hPh:s.heap.get? P=some (tabObj ps):=I.hok P _ hP;have hcl:closureFor scope X.env=pure (AN X.env.cells scope.names []):=CF λ y hy e=>I.ok.has y.1 (.inl (hfree y hy e));have hg:s.heap.Ns mainGlobals X.mg:=I.mod.glob.keeps I.bk;have C:=L.hd.keeps I.bk;have nP:∀ b,H b=none->b≠P:=λ b n z=>by rw [z,hP] at n;cases n
  have hgP:mainGlobals≠P:=λ q=>by
    obtain ⟨o,es,ep,e,d,_⟩:=hg;rw [q,hPh] at e;cases e;cases d
  have hb:s.heap.BuiltinsAt X.mg P:=by
    obtain ⟨bm,o,a1,a2,a3,a4,a5,r⟩:=L.blt;exact ⟨bm,o,a1,a2,a3,a4,I.bk _ _ a5,r⟩
  refine kla_eval hdef ?_;cases hc:codeAmong pos ps.toList with
  | some cv=>
    obtain ⟨c',oc,rfl,hc',hoc⟩:=hit pos cv hc;refine kla_makeFunctionHit hcl I.ok.glob hg L.code C hPh ok hc hb λ ctv h' tk kp sz=> ?_;have kp2:∀ b o,s.heap.get? b=some o->(h'.push (kla_obj "<lambda>" (X.env.qual++"<lambda>") params body scope (AN X.env.cells scope.names []) ((X.mg "__name__").getD .none) c' ctv)).get? b=some o:=λ b o e=>Heap.get?_push_of_some _ (kp b o e);refine h h'.objs.size c' oc _ ctv H _ (I.un (Un.kept kp2) (I.hok.kept kp2)) (Heap.get?_push_size _ rfl) (I.hok.fresh sz) sz hc' hoc ⟨ps,hP,ok,hit⟩ λ b o _ e=>e
  | none=>
    refine kla_makeFunction hcl I.ok.glob hg L.code C hPh ok hc hgP hb λ c' ctv h' tk hx hge hlt hrec htb=> ?_;obtain ⟨c2,oc,vs,t,e2,hoc,hd,hv⟩:=hrec;cases e2;generalize hps:ps++ #[rawInt pos.line,rawInt pos.col, .ref c']=ps' at htb;have hcn:H c'=none:=I.hok.fresh hge;have ncP:c'≠P:=λ z=>by rw [z,hP] at hcn;cases hcn
    generalize hfo:kla_obj "<lambda>" (X.env.qual++"<lambda>") params body scope (AN X.env.cells scope.names []) ((X.mg "__name__").getD .none) c' ctv=fo;have kp:∀ b o,b≠P->s.heap.get? b=some o->(h'.push fo).get? b=some o:=λ b o hb e=>Heap.get?_push_of_some _ (hx b o hb e);have fz:s.heap.objs.size<=h'.objs.size:=Nat.le_of_lt (Nat.lt_of_le_of_lt hge hlt);have nc:∀ b u,H b=some u->b≠c':=λ b u q z=>by rw [z,hcn] at q;cases q
    have nT:∀ b u,H b=some u->(∀ qs,u≠ .tbl qs)->b≠P:=λ b u q n z=>by rw [z,hP] at q;cases q;exact n _ rfl
    have old:∀ b u,b≠P->H b=some u->upd (upd H c' (exO c' oc)) P (.tbl ps') b=some u:=λ b u hb q=>by rw [Aj hb,Aj (nc b u q)];exact q
    have hok':HOk X.prog X.w (upd (upd H c' (exO c' oc)) P (.tbl ps')) (h'.push fo):=λ a o e=>by
      by_cases ha:a=P
      · subst ha;rw [Ac] at e;cases e;exact Heap.get?_push_of_some _ htb
      · rw [Aj ha] at e;by_cases ha2:a=c'
        · subst ha2;rw [Ac] at e;cases e;exact Rb (Heap.get?_push_of_some _ hoc)
        · rw [Aj ha2] at e;refine (I.hok a o e).stay (λ b u hb q=>kp b u ?_ q) (λ b q=>old b _ (nT b _ q λ _ z=>by cases z) q) λ b xs q=>old b _ (nT b _ q λ _ z=>by cases z) q;rcases hb with rfl | hb
          · exact ha
          · exact nT b _ hb λ _ z=>by cases z
    have I':Inv X pins σ (upd (upd H c' (exO c' oc)) P (.tbl ps')) { s with heap:=h'.push fo,toks:=tk }:=by
      refine I.step (g':=s.gens) (d':=s.drawn) (ch:=[]) (λ _ z=>nomatch z) (λ b o _ _ _ e n=>kp b o (nP b n) e) (λ b o _ _ _ e n=>⟨o.slots,kp b o (nP b n) e⟩) (λ b o _ e n=> ?_) (λ b o _ e=> ?_) (λ b xs q=>old b _ (nT b _ q λ _ z=>by cases z) q) (λ b o u q=>old b _ (nT b _ q λ _ z=>by cases z) q) (λ b qs q=> ?_) (λ m hm=> ?_) hok' I.bare
      · rw [Aj (nP b n),Aj (Nat.ne_of_lt (Nat.lt_of_lt_of_le (Heap.lt_size e) hge))];exact n
      · by_cases hb:b=P
        · subst hb;exact ⟨_,Heap.get?_push_of_some _ htb⟩
        · exact ⟨o,kp b o hb e⟩
      · by_cases hb:b=P
        · subst hb;rw [hP] at q;cases q;exact ⟨_,by rw [Ac, <-hps]⟩
        · exact ⟨#[],by rw [old b _ hb q];simp⟩
      · exact (hm.extBut hx (nP _ I.free)).push _
    subst hfo;refine h h'.objs.size c' oc _ ctv _ _ I' (Heap.get?_push_size _ rfl) ?_ fz ?_ ⟨vs,t,hd,hv⟩ ⟨ps',Ac,?_,λ p cv q=> ?_⟩ λ b o hb q=>old b o hb q
    · have hn:H h'.objs.size=none:=I.hok.fresh fz;rw [Aj (nP _ hn),Aj (Nat.ne_of_gt hlt)];exact hn
    · rw [Aj ncP,Ac]
    · rw [<-hps,Array.toList_append];exact TriplesOk_snoc _ _ _ _ ok
    · rw [<-hps,Array.toList_append] at q;rcases Iz ps.toList ok q with z | rfl
      · obtain ⟨c1,oc1,e1,e2,e3⟩:=hit p cv z;exact ⟨c1,oc1,e1,old c1 _ (nT c1 _ e2 λ _ z=>by cases z) e2,e3⟩
      · exact ⟨c',oc,rfl,by rw [Aj ncP,Ac],vs,t,hd,hv⟩
end
structure LamOk (params:Arguments) (scope:Scope):Prop where
  kind:scope.kind= .function
  co:scope.isCoroutine=false
  gen:scope.isGenerator=false
  cell:∀ x∈scope.names,x.2≠ .cell
  bind:∀ (qual:Str) (body:Expr) (cl:List (Str × Addr)) (pm cdv ctv:Value),bindArgs (kla_fn "<lambda>" qual params body scope cl pm cdv ctv) ⟨[],[]⟩=pure []
def DV (P:Program) (w:World) (K:PySem.W.Frag) (mg:Str->Option Value) (base:Heap) (fc:Addr) (k kb:Nat) (sp:(XK->TE)->List V->Hp->VK->Prop):Prop:=
  keepIn K (.ref fc)=true/\∀ (A:Around) (outer:List Env) (s:Shared) (H:Hp) (f c':Addr) (oc:Obj) (N:List Str) (qual:Str) (scope:Scope) (cl:List (Str × Addr)) (params:Arguments) (body:Expr) (pm ctv:Value) (vs:List V) (tb:XK->TE) (Q:VK),
    Room k A->Env0 P w K mg base A outer s H->s.heap.get? f=some (kla_obj "<lambda>" qual params body scope cl pm c' ctv)->H f=none->f∉frs outer->H c'=some (exO c' oc)->J3 qual oc->ClOkL N scope cl s.heap H vs->(∀ x c,cl.lookup x=some c->c∉frs outer)->LamOk params scope->
    (∀ (A':Around) (outer':List Env) (s':Shared) (H':Hp) (E':XK),Room kb (A'.deeper (envX qual scope s'.heap.objs.size f (.ref c') cl))->PE (cxL P w K mg base N qual scope f (.ref c') cl A' outer' s' H' E') body (tb E'))->
    sp tb vs H Q->codeAny (model P w) A (.call (.ref fc) ⟨[.ref f],[]⟩) (CR CX0 outer P w H s Q E0) s
def JI (P:Addr) (qual:Str) (idx:List Nat) (sp:(XK->TE)->List V->Hp->VK->Prop) (tb:XK->TE):TE:=λ σ H Q=>LamT H P qual/\∃ vs:List V,vs.length=idx.length/\(∀ (i j:Nat),idx[i]?=some j->∃ v,vs[i]?=some v/\σ[j]?=some (some v))/\
  ∀ H',LamT H' P qual->(∀ b o,b≠P->H b=some o->H' b=some o)->sp tb vs H' Q
theorem L9 {X:Cx} {x:Str} {fc c P:Addr} {k kb:Nat} {sp:(XK->TE)->List V->Hp->VK->Prop} {params:Arguments} {body:Expr} {scope:Scope} {p lpos pos:Pos} {N:List Str} {idx:List Nat} {tb:XK->TE}
    (hm:X.mg x=some (.ref fc)) (hC:DV X.prog X.w X.K X.mg X.base fc k kb sp) (hr:Room k X.A) (L:LamX X c P) (hst:X.stack=X.env::X.outer) (hfm:X.env.frame=some X.env.locals) (hfn:∀ y,X.fn y=true) (lo:LamOk params scope) (hdef:defaultsOf params X.env=([],[]))
    (hfree:∀ y∈scope.names,y.2= .free->X.env.kindOf y.1=some .cell) (hmem:∀ y,(scope.names.lookup y=some .cell\/scope.names.lookup y=some .free)->(y,NameKind.free)∈scope.names) (hlen:N.length=idx.length)
    (hN:∀ (i:Nat) (y:Str),N[i]?=some y->∃ j,idx[i]?=some j/\X.N[j]?=some y/\scope.names.lookup y=some .free/\X.env.kindOf y=some .cell)
    (hb:∀ (f c':Addr) (cl:List (Str × Addr)) (A':Around) (outer':List Env) (s':Shared) (H':Hp) (E':XK),Room kb (A'.deeper (envX (X.env.qual++"<lambda>") scope s'.heap.objs.size f (.ref c') cl))->PE (cxL X.prog X.w X.K X.mg X.base N (X.env.qual++"<lambda>") scope f (.ref c') cl A' outer' s' H' E') body (tb E'))
    (hg:Gl X x:=by rfl) (hdb:(x == ("__debug__":Str))=false:=by decide) (he:starEach [.Lambda params body scope lpos] X.env=(false,eval (.Lambda params body scope lpos) X.env)::starEach [] X.env:=by rfl):
    PE X (.Call (.Name x p) [.Lambda params body scope lpos] [] pos) (JI P (X.env.qual++"<lambda>") idx sp tb):=by
  intro pins s σ H Q I h;obtain ⟨hT,vs,lv,hv,h⟩:=h;refine wpAny_Call_Name_kw (Fi I hg hm ?_ hdb);refine PySem.W.callWith_K (h₀:=X.base) I.ok.mod.kin hC.1 ?_ he rfl;rw [he];show wpAny _ _ (spliced ((false,eval (.Lambda params body scope lpos) X.env)::backTo pos (starEach [] X.env))) _ _ s;refine Calls.spliced_cons (mkL L hfree hdef I hT λ f c' oc pm ctv H' s' I' hf hf0 fz hc' hoc hT' old=> ?_);refine Calls.spliced_nil ⟨I'.kIn,?_⟩;have sub:∀ y a,(AN X.env.cells scope.names []).lookup y=some a->X.env.cells.lookup y=some a:=EK scope.names [] λ y a z=>by cases z
  have hfs:frs X.stack=X.env.locals::frs X.outer:=by rw [hst];exact CK hfm
  have C:ClOkL N scope (AN X.env.cells scope.names []) s'.heap H' vs:=by
    refine ⟨by rw [lv,hlen],λ y z a h1 h2=>I.ok.inj y z a (sub y a h1) (sub z a h2),λ y hy=> ?_,λ i y v h1 h2=> ?_,λ y a e=>⟨I'.cell y a (sub y a e),I'.freeC y a (sub y a e)⟩⟩
    · exact C0 scope.names [] y (.inl ⟨hmem y hy,I.ok.has y (.inl (hfree _ (hmem y hy) rfl))⟩)
    · obtain ⟨j,hj,hXN,hk,hcell⟩:=hN i y h1;obtain ⟨v',hv',hσ⟩:=hv i j hj;have ev:v'=v:=Option.some.inj (hv'.symm.trans h2);subst ev;obtain ⟨m,hn,hl⟩:=id I'.loc;obtain ⟨u,r,lk⟩:=hl j y v' hXN hσ (.inr (.inl hcell));obtain ⟨a,ha⟩:=C0 (cells:=X.env.cells) scope.names [] y (.inl ⟨hmem y (.inr hk),I.ok.has y (.inl hcell)⟩);rcases lk with ⟨kk,_⟩ | ⟨_,a',e',ce⟩
      · rw [hcell] at kk;cases kk
      · have:=sub y a ha;rw [e'] at this;cases this;exact ⟨a,u,hk,ha,r,ce⟩
  have nc:∀ y a,(AN X.env.cells scope.names []).lookup y=some a->a∉frs X.stack:=λ y a e z=>by
    have e:=sub y a e;rw [hfs] at z;rcases List.mem_cons.mp z with z | z
    · exact I.cne y a e z
    · obtain ⟨_,o,ho,_⟩:=AW I.ok.funs z;have:=I.ok.cab y a (hfn y) e;exact absurd (Nat.lt_of_lt_of_le (Heap.lt_size ho) this) (Nat.lt_irrefl _)
  have nf:f∉frs X.stack:=λ z=>by
    obtain ⟨_,o,ho,_⟩:=AW I.stack z;exact absurd (Nat.lt_of_lt_of_le (Heap.lt_size ho) fz) (Nat.lt_irrefl _)
  refine wpAny_call (codeAny_mono (hC.2 X.A X.stack s' H' f c' oc N _ scope _ params body pm ctv vs tb Q hr I'.env0 hf hf0 nf hc' hoc C nc lo (λ A' outer' s2 H2 E' hr'=>hb f c' _ A' outer' s2 H2 E' hr') (h H' hT' old)) λ r s2 hq=> ?_);cases r with
  | error e=>exact False.elim hq
  | ok fl=>
    cases fl with
    | ret u=>exact I'.after hq
    | next=>exact False.elim hq
    | brk=>exact False.elim hq
    | cont=>exact False.elim hq
def N2 (H:Hp) (P:Addr):Prop:=∀ b,H b=none\/(∃ o xs,H b=some (.frz o (.lst xs)))\/b=P
theorem ME {P:Program} {w:World} {K:PySem.W.Frag} {mg mb:Str->Option Value} {CX:CXT} {k:Nat} {fa a c T:Addr} {fd:FuncData} {x:Str} {sp:Sp} {s₁:Shared} {vs:List Value} {ns:List Int}
    (KX:K.In s₁.heap) (hns:s₁.heap.Ns mainGlobals mg) (hb:s₁.heap.Ns builtinsNs mb) (hbb:∀ x:Str,x≠"__name__"->mb x=bootBuiltins x) (hlim:s₁.heap.NoLimit) (hg:s₁.gens= #[])
    (ha:s₁.heap.get? a=some { cls:= .type "list",data:= .seq vs.toArray }) (hi:IntsAre vs ns) (hl:ns.length<=sizeLine) (hr:Room k callerA)
    (hT:s₁.heap.get? T=some (tabObj #[])) (hC:CodeHd s₁.heap c T) (hKT:K.lookup T=none) (hTs:T≠cStatics) (hB:s₁.heap.BuiltinsAt mg T)
    (F:∀ base:Heap,K.In base->base.Ns mainGlobals mg->CodeHd base c T->base.BuiltinsAt mg T->FnOk P w K mg base CX k fa fd [x] sp) (hbind:∀ (s:Shared) (u:Value),BindsTo s fd ⟨[u],[]⟩ [(x,u)])
    (hsp:∀ H:Hp,N2 H T->H T=some (.tbl #[])->SqL K H a (ns.map V.int)->sp [.ref a] H (λ v _=>v= .bl true) λ _ _ _=>False)
    (hCX:∀ H e s',CX [] H s₁ (λ _ _ _=>False) e s'->False):
    codeAny (model P w) callerA (.call (.ref fa) ⟨[.ref a],[]⟩) (λ r s'=>r= .ok (.ret (.bool true))/\OldK s₁.heap s'.heap/\s'.os=s₁.os/\AllBare s'.gens) s₁:=by
  have rv:=ID hi;have naT:a≠T:=λ z=>by rw [z,hT] at ha;cases ha
  have core:∀ H:Hp,N2 H T->H T=some (.tbl #[])->SqL K H a (ns.map V.int)->HOk P w H s₁.heap->(∀ b,H b≠none->b=a\/b=T)->(H a≠none->K.lookup a=none)->
      codeAny (model P w) callerA (.call (.ref fa) ⟨[.ref a],[]⟩) (λ r s'=>r= .ok (.ret (.bool true))/\OldK s₁.heap s'.heap/\s'.os=s₁.os/\AllBare s'.gens) s₁:=by
    intro H hO hHT hS hok hA hK;have free:∀ {b:Addr} {o:Obj},s₁.heap.get? b=some o->(∀ ws n,o.data≠ .seq ws n)->(∀ ws,o.data≠ .fields ws\/o.cls≠ .none)->H b=none:=λ {b o} e n1 n2=>by
      cases q:H b with
      | none=>rfl
      | some u=>
        rcases hA b (by rw [q];simp) with z | z
        · rw [z,ha] at e;cases e;exact absurd rfl (n1 _ _)
        · rw [z,hT] at e;cases e;rcases n2 #[] with z | z
          · exact absurd rfl z
          · exact absurd rfl z
    have nsK:∀ {b:Addr} {m:Str->Option Value},s₁.heap.Ns b m->(Ih s₁.heap H).Ns b m:=λ {b m} ⟨o,es,ep,e,d,r⟩=>⟨o,es,ep,Fl e (free e (λ ws n=>by rw [d];simp) λ ws=> .inl (by rw [d];simp)),d,r⟩;have hKb:K.In (Ih s₁.heap H):=λ b o e=>Fl (KX b o e) (by
      cases q:H b with
      | none=>rfl
      | some u=>
        rcases hA b (by rw [q];simp) with z | z
        · subst z;rw [hK (by rw [q];simp)] at e;cases e
        · subst z;rw [hKT] at e;cases e)
    have hM:Mod K mg (Ih s₁.heap H):=⟨hKb,nsK hns,⟨mb,nsK hb,hbb⟩,let ⟨mc,h1,h2⟩:=hlim;⟨mc,nsK h1,h2⟩⟩;have e0:Env0 P w K mg (Ih s₁.heap H) callerA [] s₁ H:=⟨rfl,hM,λ b o e=>OE e,Nat.le_of_eq (Mp _ _),trivial,λ b hb=>absurd (show b∈([]:List Addr) from hb) (by simp),hok, .of_eq hg⟩;have hC':CodeHd (Ih s₁.heap H) c T:=by
      obtain ⟨o,us,file,tf,flags,tg,inF,text,tt,e1,r1,r2,r⟩:=hC;exact ⟨o,us,file,tf,flags,tg,inF,text,tt,Fl e1 (free e1 (λ ws n=>by rw [r2];simp) λ ws=> .inr (by rw [r1];simp)),r1,r2,r⟩
    have hB':(Ih s₁.heap H).BuiltinsAt mg T:=by
      obtain ⟨bm,o,a1,a2,a3,a4,a5,a6,a7,a8⟩:=hB;exact ⟨bm,o,a1,a2,a3,a4,Fl a5 (free a5 (λ ws n=>by rw [a8];simp) λ ws=> .inl (by rw [a8];simp)),a6,a7,a8⟩
    refine codeAny_mono ((F _ hKb (nsK hns) hC' hB').run callerA [] s₁ H ⟨[.ref a],[]⟩ [.ref a] [.ref a] _ _ hr e0 (hbind s₁ (.ref a)) (.cons rfl .nil) (hsp H hO hHT hS)) λ r s' h=> ?_
    match r,h with
    | .error e,h=>exact (hCX H e s' h).elim
    | .ok .next,h=>exact False.elim h
    | .ok .brk,h=>exact False.elim h
    | .ok .cont,h=>exact False.elim h
    | .ok (.ret u),⟨v,H',os,bare,un,hok',r',q⟩=>
      have q':v= .bl true:=q;subst q';obtain rfl:u=Value.bool true:=r';have kept:∀ b o,b≠T->s₁.heap.get? b=some o->s'.heap.get? b=some o:=λ b o hb e=>by
        cases q:H b with
        | none=>exact un.keep b o e q (by intro z;exact absurd (show b∈([]:List Addr) from z) (by simp)) (by simp)
        | some u=>
          rcases hO b with z | ⟨ob,xs,z⟩ | z
          · rw [q] at z;cases z
          · obtain ⟨e1,_⟩:=hok b _ z;obtain ⟨e2,_⟩:=hok' b _ (un.frzs b ob _ z);rw [e] at e1;cases e1;exact e2
          · exact absurd z hb
      obtain ⟨more,hT'⟩:=un.tbls T _ hHT;have hT2:s'.heap.get? T=some (tabObj (#[]++more)):=hok' T _ hT';refine ⟨rfl,⟨λ b o e=> ?_,λ b o e=> ?_⟩,os,bare⟩
      · by_cases hb:b=T
        · subst hb;rw [hT] at e;cases e;exact .inr (.inl ⟨(hC.tab hT).isCodeTable,rfl, #[],more,rfl,hT2⟩)
        · exact .inl (kept b o hb e)
      · by_cases hb:b=T
        · subst hb;exact ⟨_,hT2⟩
        · exact ⟨o,kept b o hb e⟩
  cases hk:K.lookup a with
  | some o=>
    have e:=KX a o hk;rw [ha] at e;cases e;refine core (λ b=>if b=T then some (.tbl #[]) else none) (λ b=> ?_) (if_pos rfl) (.inr ⟨_,vs.toArray,_,hk,rfl,rfl,rfl,by rw [List.size_toArray,hi.length];exact hl,by simpa using rv⟩) (λ b u z=> ?_) (λ b z=> ?_) λ z=>absurd (if_neg naT) z
    · by_cases hb:b=T
      · exact .inr (.inr hb)
      · exact .inl (if_neg hb)
    · by_cases hb:b=T
      · have z':=(if_pos hb).symm.trans z;cases z';subst hb;exact hT
      · have z':=(if_neg hb).symm.trans z;cases z'
    · by_cases hb:b=T
      · exact .inr hb
      · exact absurd (if_neg hb) z
  | none=>
    refine core (λ b=>if b=T then some (.tbl #[]) else if b=a then some (.frz { cls:= .type "list",data:= .seq vs.toArray } (.lst (ns.map V.int))) else none) (λ b=> ?_) (if_pos rfl) (.inl (.inr ⟨{ cls:= .type "list",data:= .seq vs.toArray },(if_neg naT).trans (if_pos rfl)⟩)) (λ b u z=> ?_) (λ b z=> ?_) λ _=>hk
    · by_cases hb:b=T
      · exact .inr (.inr hb)
      · by_cases hb2:b=a
        · exact .inr (.inl ⟨_,_,(if_neg hb).trans (if_pos hb2)⟩)
        · exact .inl ((if_neg hb).trans (if_neg hb2))
    · by_cases hb:b=T
      · have z':=(if_pos hb).symm.trans z;cases z';subst hb;exact hT
      · by_cases hb2:b=a
        · have z':=((if_neg hb).trans (if_pos hb2)).symm.trans z;cases z';subst hb2;exact ⟨ha,by rw [List.length_map];exact hl,vs,_,rv,ha⟩
        · have z':=((if_neg hb).trans (if_neg hb2)).symm.trans z;cases z'
    · by_cases hb:b=T
      · exact .inr hb
      · by_cases hb2:b=a
        · exact .inl hb2
        · exact absurd ((if_neg hb).trans (if_neg hb2)) z
theorem RB {p:Program} {loose:List Str} {mean:ExcName->Option Value} {mg mb:Str->Option Value} {h:Heap} {T:Addr} (t:Top p loose mean mg mb h) (hT:h.get? T=some (tabObj #[])):h.BuiltinsAt mg T:=by
  obtain ⟨bm,ob,b1,b2,b3,b4,b5,b6⟩:=t.bmain;refine ⟨bm,ob,b1,b2,λ q=> ?_,λ q=> ?_,b3,b4,b5,b6⟩
  · obtain ⟨o,es,ep,e,hd,_⟩:=t.g;rw [q,e] at b3;cases b3;rw [hd] at b6;cases b6
  · rw [q,hT] at b3;cases b3;cases b4
theorem walk_ofL {l:PySem.W.OpenLaw} {n k:Nat} {q:Program} {loose:List Str} {XP:(Str->Option Value)->Heap->Prop} {YP:World->Heap->Prop} {d:DefRec} {K:Params->PySem.W.Frag} {CX:World->CXT} {sp:World->Addr->Sp} {x:Str} {ts:List Addr}
    (hn:l.most=some n) (hn2:n<=sizeLine) (hdf:d.params.defaults=[]) (hr:Room k callerA)
    (hY:∀ (w:World) (h:Heap),YP w h->(K w.params).In h) (hYt:∀ (w:World) (h:Heap),YP w h->∀ P∈ts,h.get? P=some (tabObj #[])) (hnt:∀ w:World,noTabs (K w.params)=true)
    (F:∀ (w:World) (mg:Str->Option Value) (fa:Addr) (h:Heap),(K w.params).In h->h.Ns mainGlobals mg->mg d.name=some (.ref fa)->
      ∃ (fd:FuncData) (c T:Addr),(∀ (s:Shared) (u:Value),BindsTo s fd ⟨[u],[]⟩ [(x,u)])/\T∈ts/\T≠cStatics/\(∀ h':Heap,(K w.params).In h'->CodeHd h' c T)/\
        ∀ base:Heap,(K w.params).In base->base.Ns mainGlobals mg->CodeHd base c T->base.BuiltinsAt mg T->FnOk l.prog w (K w.params) mg base (CX w) k fa fd [x] (sp w T))
    (hsp:∀ (w:World) (H:Hp) (a T:Addr) (ns:List Int),ns.length<=n->N2 H T->H T=some (.tbl #[])->SqL (K w.params) H a (ns.map V.int)->sp w T [.ref a] H (λ v _=>v= .bl true) λ _ _ _=>False)
    (hCX:∀ (w:World) (H:Hp) (s:Shared) (e:Value) (s':Shared),CX w [] H s (λ _ _ _=>False) e s'->False):
    PySem.W.WalkO q loose XP YP l.row.toRowW d [] (λ f vs=>PySem.call f vs):=by
  refine Att.attach_call hn hdf λ w s₀ s₁ mg mb fa o pm cd doc a vs ns G Y ho hd hcd hmg hobj hints hlen hg=> ?_;have KX:=hY w _ Y;obtain ⟨fd,c,T,hb,hm,hs,hC,hF⟩:=F w mg fa _ KX G.T.g hmg;have hT:=hYt w _ Y T hm;have hK:(K w.params).lookup T=none:=by
    cases e:(K w.params).lookup T with
    | none=>rfl
    | some o=>
      have e2:=KX T o e;rw [hT] at e2;cases e2;have h2:=List.all_eq_true.mp (hnt w) _ (mem_of_lookupK e);exact absurd (show false=true from h2) Bool.false_ne_true
  exact ME KX G.T.g G.T.b G.T.builtins G.T.nolimit hg hobj hints (Nat.le_trans hlen hn2) hr hT (hC _ KX) hK hs (RB G.T hT) hF hb (λ H hO h1 hS=>hsp w H a T ns hlen hO h1 hS) λ H e s'=>hCX w H s₁ e s'
theorem MJ {H:Hp} {T:Addr} {qual:Str} (h:H T=some (.tbl #[])):LamT H T qual:=⟨#[],h,trivial,λ _ _ z=>by cases z⟩
section
variable {P:Program} {w:World} {K:PySem.W.Frag} {mg:Str->Option Value} {base:Heap}
theorem Fun.okL {x qual:Str} {st:Stmt} {f c:Addr} {fd:FuncData} {N ps:List Str} {k:Nat} {sp:Sp} (F:Fun K x qual st f fd) (hc:fd.code= .ref c) (S:FnScope N ps (Af st)) (len:∀ vs H Q E,sp vs H Q E->vs.length=ps.length)
    (hbody:∀ (A:Around) (outer:List Env) (s:Shared) (H:Hp) (vs:List V) (Q:VK) (E:XK),Room k (A.deeper (envOfC qual (Af st) s.heap.objs.size f (.ref c)))->sp vs H Q E->
      ∃ t,PSs (Co CX0 P w K mg base N qual (Af st) f (.ref c) A outer s H E).nox (AY st) t/\t { nx:=λ _ H'=>Q .non H',rt:=Q } (start N vs) H):FnOk P w K mg base CX0 (k+1) f fd ps sp:=by
  obtain ⟨oc,od,kV,doc,pm,an,cdv,ct,osl,rfl,lk,hcd⟩:=F.ex;obtain rfl:cdv= .ref c:=hc;refine LE lk hcd S len λ A outer s H vs Q E hr hsp=> ?_;obtain ⟨t,h,q⟩:=hbody A outer s H vs Q E hr hsp;exact ⟨t,h.nox,q⟩
structure ThAt (s:Shared) (H:Hp) (outer:List Env) (f c':Addr) (oc:Obj) (N:List Str) (qual:Str) (scope:Scope) (cl:List (Str × Addr)) (params:Arguments) (body:Expr) (pm ctv:Value) (vs:List V):Prop where
  hf:s.heap.get? f=some (kla_obj "<lambda>" qual params body scope cl pm c' ctv)
  hf0:H f=none
  nf:f∉frs outer
  hc:H c'=some (exO c' oc)
  hoc:J3 qual oc
  C:ClOkL N scope cl s.heap H vs
  nc:∀ x c,cl.lookup x=some c->c∉frs outer
  lo:LamOk params scope
theorem Sh {X:Cx} {kb:Nat} {E:XK} {N:List Str} {qual:Str} {scope:Scope} {f c':Addr} {oc:Obj} {cl:List (Str × Addr)} {params:Arguments} {body:Expr} {pm ctv:Value} {vs:List V} {o:Expr} {to:TE} {tb:XK->TE} {pos:Pos} (th:ThAt X.s₀ X.H₀ X.outer f c' oc N qual scope cl params body pm ctv vs)
    (ho:PE X o to) (hx:Ba (CXE X.prog X.w) X E) (hr:Room (kb+1) X.A) (hex:X.ex=[])
    (hb:∀ (A':Around) (outer':List Env) (s':Shared) (H':Hp) (E':XK),Room kb (A'.deeper (envX qual scope s'.heap.objs.size f (.ref c') cl))->PE (cxL X.prog X.w X.K X.mg X.base N qual scope f (.ref c') cl A' outer' s' H' E') body (tb E'))
    (ht:eval (.Call o [] [] pos) X.env=(do callWith pos (<-eval o X.env) [] (backTo pos (starEach [] X.env)) (backToKw pos (keywordEach [] X.env))):=by rfl):
    PE X (.Call o [] [] pos) (KS f c' oc vs to (tb E)):=
  M8 ho hx hr hex th.hf th.hf0 th.nf th.hoc th.C th.nc th.lo.kind th.lo.co th.lo.gen th.lo.cell (th.lo.bind _ _ _ _ _ _) (λ s' H'=>hb _ _ s' H' _ (hr.deeper _)) ht
theorem Fun.caught {x qual y:Str} {st:Stmt} {fc:Addr} {fd:FuncData} {N:List Str} {kb:Nat} {sp:(XK->TE)->List V->Hp->VK->Prop} (F:Fun K x qual st fc fd) (B:Binds K fd [y] []) (S:FnScope N [y] (Af st))
    (hbody:∀ (cdv:Value) (A:Around) (outer:List Env) (s:Shared) (H:Hp) (f c':Addr) (oc:Obj) (N':List Str) (qual':Str) (scope:Scope) (cl:List (Str × Addr)) (params:Arguments) (body:Expr) (pm ctv:Value) (vs:List V) (tb:XK->TE) (Q:VK),Room (kb+1) (A.deeper (envOfC qual (Af st) s.heap.objs.size fc cdv))->
      ThAt s H outer f c' oc N' qual' scope cl params body pm ctv vs->
      (∀ (A':Around) (outer':List Env) (s':Shared) (H':Hp) (E':XK),Room kb (A'.deeper (envX qual' scope s'.heap.objs.size f (.ref c') cl))->PE (cxL P w K mg base N' qual' scope f (.ref c') cl A' outer' s' H' E') body (tb E'))->sp tb vs H Q->
      ∃ t,PSs (Co CX0 P w K mg base N qual (Af st) fc cdv A outer s H E0).nox (AY st) t/\t { nx:=λ _ H'=>Q .non H',rt:=Q } (start N [.ref f]) H):DV P w K mg base fc (kb+2) kb sp:=by
  obtain ⟨oc0,od,kV,doc,pm0,an,cdv,ct,osl,rfl,lk,hcd⟩:=F.ex;refine ⟨F.kp,λ A outer s H f c' oc N' qual' scope cl params body pm ctv vs tb Q hr e0 hf hf0 nf hc hoc C nc lo hb h=> ?_⟩;obtain ⟨t,ht,hq⟩:=hbody cdv A outer s H f c' oc N' qual' scope cl params body pm ctv vs tb Q (hr.deeper _) ⟨hf,hf0,nf,hc,hoc,C,nc,lo⟩ hb h;have kin:=e0.mod.kin.keeps λ b o e=>(e0.bs b o e).1;exact Ra (us:=[.ref f]) (vs:=[.ref f]) lk hcd S hr e0 (by have:=B s [.ref f] kin rfl;simpa using this) (.cons rfl .nil) rfl ht.nox hq
end
theorem MH {K:PySem.W.Frag} {H:Hp} {a:Addr} {xs:List V} {σ0:St} {ps:List (V × V)} (h:SqL K H a xs) (hp:∀ i,i<xs.length->∃ b,xs.getD i .non= .ref b/\H b=some (.tup [(ps.getD i (.non, .non)).1,(ps.getD i (.non, .non)).2])) (h0:σ0[0]?=some none) (h1:σ0[1]?=some none):
    SrcOk (Itl K a) (GW K 2 (BB (AK 0) (BB (AK 1) HS))) σ0 H xs.length (λ i=>(σ0.set 0 (some (ps.getD i (.non, .non)).1)).set 1 (some (ps.getD i (.non, .non)).2)) where
  go:=λ i H' hi s=>⟨xs,xs[i],s.seq h,by simp [hi]⟩
  stop:=λ H' s=>⟨xs,s.seq h,Nat.le_refl _⟩
  yld:=λ i H' x H'' R hi s y k=>by
    obtain ⟨e,hv⟩:=y;subst e;have e:x=xs.getD i .non:=by
      have:=hv xs (s.seq h);rw [List.getD_eq_getElem?_getD,this];rfl
    subst e;obtain ⟨b,eb,hb⟩:=hp i hi;rw [eb];exact ⟨b,_,rfl,SqT.of (s _ _ hb),rfl,_,_,rfl,_,_,rfl,rfl,k _ (Same.refl _)⟩
  kp:=λ i hi=>((Kp.refl _).set h0).set h1
noncomputable def Ng:NameKind->Bool | .free=>true | _=>false
noncomputable def RW:NameKind->Bool | .cell=>true | _=>false
noncomputable def Gs:Option NameKind->Bool | some .cell=>true | _=>false
noncomputable def IZ:Option NameKind->Bool | some .free=>true | _=>false
noncomputable def BZ (N:List Str) (idx:List Nat) (sc:List (Str × NameKind)) (XN:List Str) (Xsc:List (Str × NameKind)):Bool:=
  sc.all (λ y=> !(RW y.2)&&(!(Ng y.2)||Gs (Xsc.lookup y.1)))&&(N.length == idx.length)&&(N.zip idx).all λ p=>(XN[p.2]? == some p.1)&&IZ (sc.lookup p.1)&&Gs (Xsc.lookup p.1)
theorem EU {α:Type} {x:Str} {v:α}:∀ {l:List (Str × α)},l.lookup x=some v->(x,v)∈l
  | (y,u)::l,h=>by
    rw [List.lookup_cons] at h;cases e:x == y with
    | true=>
      rw [e] at h;cases h;rw [eq_of_beq e];exact List.mem_cons_self
    | false=>
      rw [e] at h;exact List.mem_cons_of_mem _ (EU h)
theorem KQ {k:Option NameKind} (h:IZ k=true):k=some .free:=by
  unfold IZ at h;split at h
  · rfl
  · cases h
theorem Hg {k:Option NameKind} (h:Gs k=true):k=some .cell:=by
  unfold Gs at h;split at h
  · rfl
  · cases h
theorem JO {N:List Str} {idx:List Nat} {sc:List (Str × NameKind)} {XN:List Str} {Xsc:List (Str × NameKind)} (h:BZ N idx sc XN Xsc=true):∀ y∈sc,y.2≠ .cell:=λ y hy e=>by
  simp only [BZ,Bool.and_eq_true,List.all_eq_true] at h;have:=(h.1.1 y hy).1;rw [e] at this;cases this
theorem M3 {N:List Str} {idx:List Nat} {sc:List (Str × NameKind)} {XN:List Str} {Xsc:List (Str × NameKind)} (h:BZ N idx sc XN Xsc=true):∀ y∈sc,y.2= .free->Xsc.lookup y.1=some .cell:=λ y hy e=>by
  simp only [BZ,Bool.and_eq_true,List.all_eq_true] at h;have:=(h.1.1 y hy).2;rw [e] at this;exact Hg (by simpa [Ng] using this)
theorem LU {N:List Str} {idx:List Nat} {sc:List (Str × NameKind)} {XN:List Str} {Xsc:List (Str × NameKind)} (h:BZ N idx sc XN Xsc=true):N.length=idx.length:=by
  simp only [BZ,Bool.and_eq_true] at h;exact eq_of_beq h.1.2
theorem Wj {N:List Str} {idx:List Nat} {sc:List (Str × NameKind)} {XN:List Str} {Xsc:List (Str × NameKind)} (h:BZ N idx sc XN Xsc=true) (i:Nat) (y:Str) (hy:N[i]?=some y):∃ j,idx[i]?=some j/\XN[j]?=some y/\sc.lookup y=some .free/\Xsc.lookup y=some .cell:=by
  have hl:=LU h;simp only [BZ,Bool.and_eq_true,List.all_eq_true] at h;obtain ⟨hi,e⟩:=List.getElem?_eq_some_iff.mp hy;have hi2:i<idx.length:=by omega
  have hm:(y,idx[i])∈N.zip idx:=by
    refine List.mem_iff_getElem.mpr ⟨i,by rw [List.length_zip];omega,?_⟩;rw [List.getElem_zip,e]
  obtain ⟨⟨h1,h2⟩,h3⟩:=h.2 _ hm;exact ⟨idx[i],by simp [hi2],eq_of_beq h1,KQ h2,Hg h3⟩
def JB (P:Program) (w:World) (K:PySem.W.Frag) (mg:Str->Option Value) (base:Heap) (x:Str) (k kb:Nat) (sp:(XK->TE)->List V->Hp->VK->Prop):Prop:=∃ fc,mg x=some (.ref fc)/\DV P w K mg base fc k kb sp
theorem DefAt.caught {P:Program} {w:World} {K:PySem.W.Frag} {mg:Str->Option Value} {base:Heap} {x:Str} {st:Stmt} {ps:List Str} {f:Addr} {fd:FuncData} {k kb:Nat} {sp:(XK->TE)->List V->Hp->VK->Prop} (d:DefAt K mg x st ps f fd)
    (F:DV P w K mg base f k kb sp):JB P w K mg base x k kb sp:=⟨f,d.at',F⟩
theorem EM {X:Cx} {x:Str} {c P:Addr} {k kb:Nat} {sp:(XK->TE)->List V->Hp->VK->Prop} {params:Arguments} {body:Expr} {scope:Scope} {p lpos pos:Pos} {tb:XK->TE}
    (hC:JB X.prog X.w X.K X.mg X.base x k kb sp) (hr:Room k X.A) (L:LamX X c P) (N:List Str) (idx:List Nat)
    (hb:∀ (f c':Addr) (cl:List (Str × Addr)) (A':Around) (outer':List Env) (s':Shared) (H':Hp) (E':XK),Room kb (A'.deeper (envX (X.env.qual++"<lambda>") scope s'.heap.objs.size f (.ref c') cl))->PE (cxL X.prog X.w X.K X.mg X.base N (X.env.qual++"<lambda>") scope f (.ref c') cl A' outer' s' H' E') body (tb E'))
    (hchk:BZ N idx scope.names X.N X.env.scope.names=true) (hst:X.stack=X.env::X.outer:=by rfl) (hfm:X.env.frame=some X.env.locals:=by rfl) (hfn:∀ y,X.fn y=true:=by intro _;rfl)
    (hk:scope.kind= .function:=by rfl) (hco:scope.isCoroutine=false:=by rfl) (hgen:scope.isGenerator=false:=by rfl) (hbd:∀ (qual:Str) (body:Expr) (cl:List (Str × Addr)) (pm cdv ctv:Value),bindArgs (kla_fn "<lambda>" qual params body scope cl pm cdv ctv) ⟨[],[]⟩=pure []:=by intros;rfl)
    (hdef:defaultsOf params X.env=([],[]):=by rfl) (hg:Gl X x:=by rfl) (hdb:(x == ("__debug__":Str))=false:=by decide) (he:starEach [.Lambda params body scope lpos] X.env=(false,eval (.Lambda params body scope lpos) X.env)::starEach [] X.env:=by rfl):
    PE X (.Call (.Name x p) [.Lambda params body scope lpos] [] pos) (JI P (X.env.qual++"<lambda>") idx sp tb):=by
  obtain ⟨fc,hm,hA⟩:=hC;refine L9 hm hA hr L hst hfm hfn ⟨hk,hco,hgen,JO hchk,hbd⟩ hdef (M3 hchk) (λ y hy=> ?_) (LU hchk) (Wj hchk) hb hg hdb he;rcases hy with hy | hy
  · exact absurd rfl (JO hchk _ (EU hy))
  · exact EU hy
noncomputable def bar (T:Addr) (H:Hp):Hp:=λ b=>if b=T then none else H b
theorem Kx {T:Addr} {H:Hp} {b:Addr} {o u:HO} (h:H b=some o) (hT:H T=some u) (n:u≠o):bar T H b=some o:=by
  refine (if_neg λ z=> ?_).trans h;rw [z,hT] at h;cases h;exact n rfl
theorem BQ {T:Addr} {H:Hp}:Same (bar T H) H:=λ b o e=>by
  by_cases hb:b=T
  · have e':=(if_pos hb).symm.trans e;cases e'
  · exact (if_neg hb).symm.trans e
theorem LamT.same {H H':Hp} {T:Addr} {q:Str} (h:LamT H T q) (s:Same H H'):LamT H' T q:=by
  obtain ⟨ps,h1,h2,h3⟩:=h;refine ⟨ps,s _ _ h1,h2,λ p cv e=> ?_⟩;obtain ⟨c',oc,e1,e2,e3⟩:=h3 p cv e;exact ⟨c',oc,e1,s _ _ e2,e3⟩
theorem FH {T:Addr} {q:Str} {idx:List Nat} {sp:(XK->TE)->List V->Hp->VK->Prop} {tb:XK->TE} {σ:St} {H:Hp} {Q:VK} (hT:LamT H T q) (vs:List V) (hl:vs.length=idx.length) (hv:∀ (i j:Nat),idx[i]?=some j->∃ v,vs[i]?=some v/\σ[j]?=some (some v))
    (k:∀ H',LamT H' T q->(∀ b o,b≠T->H b=some o->H' b=some o)->sp tb vs H' Q):JI T q idx sp tb σ H Q:=⟨hT,vs,hl,hv,k⟩
theorem MR {f c':Addr} {oc:Obj} {vs:List V} {to tb:TE} {σ:St} {H:Hp} {Q:VK} (h:to σ H λ v H1=>v= .ref f/\H1 c'=some (exO c' oc)/\tb (vs.map some) H1 Q):KS f c' oc vs to tb σ H Q:=h
end L2
namespace L2
open PySem PySem.Spec PyProof.Rows
section
variable {X:Cx} {K:PySem.W.Frag} {e lo st:Expr} {te tl ts:TE} {pos p2:Pos}
end
section
variable {J:It} {g:TG} {σ0:St} {H:Hp} {n:Nat} {st:Nat->St} {te:TE} {Q:VK} {D:Addr}
end
section
variable {X:Cx} {K:PySem.W.Frag}
theorem Nt:QR X (M6 X.K):=by
  intro pins s σ H o i ov iv Q I ro ri h;obtain ⟨p,xs,k,z,rfl,rfl,hq,he,q⟩:=h;cases ro;obtain ⟨t,rfl⟩:=ri;obtain ⟨its,r,pl,hz⟩:=I.list hq;obtain ⟨j,h1,h2,h3,h4,h5⟩:=Gp he;obtain ⟨w,ew,rw'⟩:=r.get h2;have hl:=r.length;have hn:=EN;have fin:EP X pins σ Q w s:=⟨z,H,I,rw',q⟩;by_cases h0:0<=k
  · have hj:k.toNat=j:=by
      rw [seqIndex_of h0 h5] at h1;exact Option.some.inj h1
    exact PySem.wpAny_getItem_list pl.isList h0 (by omega) (by rw [hj];simpa using ew) fin
  · have hj:(k+(its.toArray.size:Int)).toNat=j:=by
      rw [seqIndex_neg (by omega) h4] at h1;rw [List.size_toArray, <-hl];exact Option.some.inj h1
    exact wpAny_getItem_list_neg pl.isList (by omega) (by rw [List.size_toArray] <;> omega) (by omega) (by rw [hj];simpa using ew) fin
theorem QG (hK:X.K=K:=by rfl):QR X (M6 K):=hK▸Nt
end
theorem O7 {to ti te:TE} {tget:V->V->Hp->VK->Prop} {tip:TIp} {tset:KM} {D:Ends} {σ:St} {H:Hp} (h:to σ H λ o H1=>ti σ H1 λ i H2=>tget o i H2 λ x H3=>te σ H3 λ y H4=>tip x y H4 λ z H5=>tset o i z H5 λ H6=>D.nx σ H6):P1 to ti te tget tip tset D σ H:=h
theorem Jm {to ti:TE} {t:KM} {v:V} {σ:St} {H:Hp} {Q:St->Hp->Prop} (h:to σ H λ o H1=>ti σ H1 λ i H2=>t o i v H2 λ H3=>Q σ H3):WI to ti t v σ H Q:=h
theorem Jr {n i:Nat} (h:i<n):ixN n ((i:Nat):Int)=some i:=by
  unfold ixN;rw [if_pos (by omega),if_pos (by omega)];simp
theorem Po (n m:Nat):Builtin.bitAnd ((n:Nat):Int) (Builtin.bitNot ((m:Nat):Int))=((n ^^^ (n &&& m):Nat):Int):=by
  have e1:decide ((0:Int)<=((n:Nat):Int))=true:=decide_eq_true (by omega);have e2:decide ((0:Int)<=Builtin.bitNot ((m:Nat):Int))=false:=decide_eq_false (by unfold Builtin.bitNot;omega);have e3:(Builtin.bitNot (Builtin.bitNot ((m:Nat):Int))).toNat=m:=by unfold Builtin.bitNot;omega
  have e4:((n:Nat):Int).toNat=n:=Int.toNat_natCast n;show (match decide ((0:Int)<=((n:Nat):Int)),decide ((0:Int)<=Builtin.bitNot ((m:Nat):Int)) with
    | true,true=>(((((n:Nat):Int).toNat &&& (Builtin.bitNot ((m:Nat):Int)).toNat:Nat):Int))
    | true,false=>((n:Nat):Int) - ((((n:Nat):Int).toNat &&& (Builtin.bitNot (Builtin.bitNot ((m:Nat):Int))).toNat:Nat):Int)
    | false,true=>Builtin.bitNot ((m:Nat):Int) - (((Builtin.bitNot ((m:Nat):Int)).toNat &&& (Builtin.bitNot ((n:Nat):Int)).toNat:Nat):Int)
    | false,false=>Builtin.bitNot (((Builtin.bitNot ((n:Nat):Int)).toNat ||| (Builtin.bitNot (Builtin.bitNot ((m:Nat):Int))).toNat:Nat):Int))=_
  rw [e1,e2];show ((n:Nat):Int) - ((((n:Nat):Int).toNat &&& (Builtin.bitNot (Builtin.bitNot ((m:Nat):Int))).toNat:Nat):Int)=_;rw [e3,e4];have h:=MM.xor_eq n (n &&& m);have h2:n &&& (n &&& m)=n &&& m:=by rw [<-Nat.and_assoc,Nat.and_self]
  have h3:n ||| (n &&& m)=n:=Nat.eq_of_testBit_eq λ i=>by
    rw [Nat.testBit_or,Nat.testBit_and];cases n.testBit i <;> rfl
  rw [h2,h3] at h;omega
theorem JQ (n m i:Nat):(n ^^^ (n &&& m)).testBit i=(n.testBit i&& !m.testBit i):=by
  rw [Nat.testBit_xor,Nat.testBit_and];cases n.testBit i <;> cases m.testBit i <;> rfl
end L2
namespace L2
open PySem PySem.Spec PyProof.Rows PySem.W
section
variable {prog:Program} {w:World} {A:Around} {E:Value->Shared->Prop} {s:Shared}
noncomputable def QP (t:Addr) (b:Bool) (TI:Addr) (v:Value):Obj:={ cls:= .type "zip",data:= .fields #[rawInt t, .bool b, .bool false, .ref TI,v] }
structure ZipAg (t1 t2:Bool) (h:Heap) (z TI i1 i2 l1 l2 t:Addr) (k:Nat):Prop where
  hz:∃ b v,h.get? z=some (QP t b TI v)
  ht:∃ o,h.get? t=some o
  hTI:IsPair h TI (.ref i1) (.ref i2)
  h1:Bu t1 h i1 l1 k
  h2:Bu t2 h i2 l2 k
end
section
variable {X:Cx} {pins:List (Addr × Obj)} {σ:St} {H:Hp} {s:Shared} {A:Around} {E:Value->Shared->Prop}
end
section
variable {X:Cx} {K:PySem.W.Frag}
end
end L2
namespace L2
open PySem PySem.Spec PyProof.Rows
section
variable {X:Cx} {e o:Expr} {es:List Expr} {t:TA} {to:TE} {pos:Pos} {S:Addr->Sp->Prop} {E:XK}
end
section
variable {X:Cx} {K:PySem.W.Frag} {tg l:Expr} {ta:TA} {p pos:Pos}
end
section
variable {K:PySem.W.Frag} {σ0:St} {H:Hp} {a:Addr} {xs:List V}
end
section
variable {X:Cx} {scope:Scope} {cx:Str}
end
structure FnA (K:PySem.W.Frag) (m q:Str) (st:Stmt) (ps:List Str) (f:Addr) (fd:FuncData):Prop where
  fn:Fun K m q st f fd
  bi:Binds K fd ps []
section
variable {K:PySem.W.Frag} {mg:Str->Option Value} {m q x:Str} {st:Stmt} {ps:List Str} {f:Addr} {fd:FuncData}
theorem def_mk (a:mg x=some (.ref f)) (F:Fun K x x st f fd) (b:∀ us:List Value,us.length=ps.length->bindArgs fd ⟨us,[]⟩=pure (ps.zip us)):DefAt K mg x st ps f fd:=⟨F,a, .all b⟩
theorem fnA_mk (F:Fun K m q st f fd) (b:∀ us:List Value,us.length=ps.length->bindArgs fd ⟨us,[]⟩=pure (ps.zip us)):FnA K m q st ps f fd:=⟨F, .all b⟩
theorem exc_mk {C:Addr} (a:PySem.W.isClsIn K C=true) (b:PySem.W.findIn K (.ref C) "__getattribute__"=some (some (.builtin "BaseException.__getattribute__"))) (c:PySem.W.findIn K (.ref C) "__getattr__"=some none) (d:PySem.W.mroIn K C (.type "BaseException")=some true) (e:PySem.W.findIn K (.ref C) "__class__"=some (some (.builtin "object.__class__")))
    (f:PySem.W.specialIn K (.builtin "object.__class__") "__get__"=some (some (.builtin "getset_descriptor.__get__"))) (g:PySem.W.takesIn K (.builtin "object.__class__")=some true) (h:PySem.W.mroIn K C (.type "object")=some true):HT.ExcKind K C:=⟨a,b,c,d,e,f,g,h⟩
theorem ci_mk {n:Int} {t:Tok} (h:mg x=some (.int n t)):∃ t,mg x=some (.int n t):=⟨t,h⟩
theorem cs_mk {z:Str} {t:Tok} (h:mg x=some (.str z t)):∃ t,mg x=some (.str z t):=⟨t,h⟩
theorem own_nil:Own mg []:=λ _ h=>by cases h
theorem own_cons {xs:List Str} (a:mg x=none) (h:Own mg xs):Own mg (x::xs):=λ y hy=>by
  rcases List.mem_cons.mp hy with rfl | hy
  · exact a
  · exact h y hy
end
def Ki (P:Program) (w:World) (K:PySem.W.Frag) (mg:Str->Option Value) (base:Heap) (C:Addr) (m:Str) (k:Nat) (ps:List Str) (sp:Sp):Prop:=
  ∃ f fd,Cls K C/\Meth K C m f/\FnOk P w K mg base (CXE P w) k f fd ps sp/\Binds K fd ps []
def MakeD (P:Program) (w:World) (K:PySem.W.Frag) (mg:Str->Option Value) (base:Heap) (x:Str) (C:Addr) (k:Nat) (ps:List Str) (sp:Sp):Prop:=
  ∃ f fd,mg x=some (.ref C)/\Mk K C f/\FnOk P w K mg base (CXE P w) k f fd ps sp/\Binds K fd ps []/\Binds K fd ps [.none]
theorem MakeD.toE {P:Program} {w:World} {K:PySem.W.Frag} {mg:Str->Option Value} {base:Heap} {x:Str} {C:Addr} {k:Nat} {ps:List Str} {sp:Sp} (h:MakeD P w K mg base x C k ps sp):LX P w K mg base x C k ps sp:=
  let ⟨f,fd,a,b,F,d,_⟩:=h;⟨f,fd,a,b,F,d⟩
section
variable {X:Cx} {x m:Str} {C:Addr} {k:Nat} {ps:List Str} {sp:Sp} {E:XK} {o e:Expr} {es:List Expr} {t:TA} {ta:TE} {p pos apos:Pos}
theorem N6 (h:MakeD X.prog X.w X.K X.mg X.base x C k ps sp) (hr:Room (k+1) X.A) (hx:Ba (CXE X.prog X.w) X E) (ha:PA X (e::es) t) (hg:Gl X x:=by rfl) (hdb:(x == ("__debug__":Str))=false:=by decide)
    (he:starEach (e::es) X.env=(false,eval e X.env)::starEach es X.env:=by rfl) (hpl:(backTo pos (starEach es X.env)).any (·.1)=false:=by rfl):
    PE X (.Call (.Name x p) (e::es) [] pos) (Fy C sp [.non] E t):=by
  obtain ⟨f,fd,hm,M,F,_,hb⟩:=h;exact Jx M F hr hg hm hb (.cons rfl .nil) hx ha hdb he hpl
theorem FF {pl:Sem Bool} (he:PE X o ta) (h:Ki X.prog X.w X.K X.mg X.base C m k ps sp) (hr:Room k X.A) (hx:Ba (CXE X.prog X.w) X E)
    (ht:eval (.Call (.Attribute o m apos) [] [] pos) X.env=(do
      let ov <-eval o X.env
      standAt apos.atName
      let (f,first) <-holding [ov] (getMethod ov m pl)
      callWith pos f first (backTo pos (starEach [] X.env)) (backToKw pos (keywordEach [] X.env))):=by rfl):
    PE X (.Call (.Attribute o m apos) [] [] pos) (Dz C m sp [] E ta Gf):=by
  obtain ⟨f,fd,c,hm,F,hb⟩:=h;exact Kt (pl:=pl) he c hm F hr hb .nil hx ht
theorem Ks {σ:St} {H:Hp} {Q:VK} (h:ta σ H λ x H1=>∃ a dx fs,x= .ref a/\H1 a=some (.ins C dx fs)/\fs.lookup m=none/\t σ H1 λ vs H2=>sp (x::vs) H2 Q E):Dz C m sp [] E ta t σ H Q:=by
  unfold Dz;simpa using h
theorem NC {σ:St} {H:Hp} {Q:VK} (h:t σ H λ vs H1=>∀ x dx,H1 x=none->H1 dx=none->dx≠x->sp (.ref x::(vs++[.non])) (upd (upd H1 dx (.own x)) x (.ins C dx [])) (λ v H2=>v= .non/\Q (.ref x) H2) E):Fy C sp [.non] E t σ H Q:=h
end
structure FunD (K:PySem.W.Frag) (x qual:Str) (st:Stmt) (f:Addr) (fd:FuncData):Prop where
  ex:∃ (oc:Value) (od:Option Addr) (dV kV doc pm:Value) (an:Option Addr) (cdv ct:Value) (osl:Array (Option Value)),
    fd=PySem.W.fnOf x qual (Bg st) (AY st) (Af st) dV kV doc pm an cdv ct/\K.lookup f=some ⟨oc,od, .func fd,osl⟩/\PySem.W.codeIn K cdv qual=true
theorem FunD.okE {P:Program} {w:World} {K:PySem.W.Frag} {mg:Str->Option Value} {base:Heap} {x qual:Str} {st:Stmt} {f:Addr} {fd:FuncData} {N ps:List Str} {k:Nat} {sp:Sp} (F:FunD K x qual st f fd) (S:FnScope N ps (Af st)) (len:∀ vs H Q E,sp vs H Q E->vs.length=ps.length)
    (hbody:∀ (cdv:Value) (A:Around) (outer:List Env) (s:Shared) (H:Hp) (vs:List V) (Q:VK) (E:XK),Room k (A.deeper (envOfC qual (Af st) s.heap.objs.size f cdv))->sp vs H Q E->
      ∃ t,PSs (Co (CXE P w) P w K mg base N qual (Af st) f cdv A outer s H E) (AY st) t/\t { nx:=λ _ H'=>Q .non H',rt:=Q } (start N vs) H):FnOk P w K mg base (CXE P w) (k+1) f fd ps sp:=by
  obtain ⟨oc,od,dV,kV,doc,pm,an,cdv,ct,osl,rfl,lk,hcd⟩:=F.ex;refine LE lk hcd S len λ A outer s H vs Q E hr hsp=> ?_;exact hbody cdv A outer s H vs Q E hr hsp
structure FnAD (K:PySem.W.Frag) (m q:Str) (st:Stmt) (ps:List Str) (f:Addr) (fd:FuncData):Prop where
  fn:FunD K m q st f fd
  bi:Binds K fd ps []
  bn:Binds K fd ps [.none]
theorem fnAD_mk {K:PySem.W.Frag} {m q:Str} {st:Stmt} {ps:List Str} {f:Addr} {oc dV kV doc pm cdv ct:Value} {od an:Option Addr} {osl:Array (Option Value)} (l:K.lookup f=some ⟨oc,od, .func (PySem.W.fnOf m q (Bg st) (AY st) (Af st) dV kV doc pm an cdv ct),osl⟩) (c:PySem.W.codeIn K cdv q=true)
    (b:Binds K (PySem.W.fnOf m q (Bg st) (AY st) (Af st) dV kV doc pm an cdv ct) ps []/\Binds K (PySem.W.fnOf m q (Bg st) (AY st) (Af st) dV kV doc pm an cdv ct) ps [.none]):FnAD K m q st ps f (PySem.W.fnOf m q (Bg st) (AY st) (Af st) dV kV doc pm an cdv ct):=⟨⟨⟨oc,od,dV,kV,doc,pm,an,cdv,ct,osl,rfl,l,c⟩⟩,b.1,b.2⟩
end L2
open L2
local macro_rules | `(tactic| walk_at "t") => `(tactic| first | (with_reducible first | refine Rq ?_ | refine RH ?_ | refine LD ?_ | refine Y6 ?_ | refine U4 ?_ | refine Xv ?_ | refine Rr ?_ | refine Wp ?_ | refine Rk ?_ | refine QE ?_ | refine RZ ?_ | refine QI ?_ | refine PU ?_ | refine Sj ?_ | refine SW ?_ | refine S4 ?_ | refine Q0 ?_ | refine Oy ?_ | refine PM ?_ | refine Yc ?_ | refine Q9 ?_ | refine Pq ?_ | refine Ry ?_ | refine PL ?_ | refine QZ ?_ | refine Q2 ?_ | refine S6 ?_ | refine PH ?_ | refine Uc ?_ | refine Ov ?_ | refine Mu ?_ | refine Ri ?_ | refine Kj ?_ | refine Fh ?_ | refine Em ?_ | refine RX ?_ | refine V4 ?_ | refine P4 ?_ | refine SU ?_ | refine PQ ?_ | refine Q8 ?_ | refine Yv ?_ | refine Sa ?_ | refine T4 ?_ | refine Wx ?_ | refine VJ ?_ | refine Tu ?_ | refine TB ?_ | refine WU ?_ | refine VB ?_ | refine Oc ?_ | refine Pw ?_ | refine NY ?_ | refine QM ?_ | refine RG ?_ | refine OB ?_ | refine PB ?_) | ((with_reducible apply QJ); exact rfl) | (with_reducible refine RF (by simp only [List.length_cons, List.length_nil]; decide) ?_))
local macro_rules | `(tactic| walk_at "s") => `(tactic| first | walk_at "t" | (with_reducible refine Rn ?_))
local macro_rules | `(tactic| walk_at "v") => `(tactic| repeat walk_at "t")
local macro_rules | `(tactic| walk_at "w") => `(tactic| repeat walk_at "s")
local macro_rules | `(tactic| wrow_has $H $n) => do let t := ((n.getId.toString.drop 1).toString); let i := λ (a : String) => Lean.mkIdent (Lean.Name.mkSimple (a ++ t)); `(tactic| (generalize e : upd $H $(i "p") _ = $(i "H"); have $(i "s"):ident : Same $H $(i "H") := (by rw [<-e]; exact Ai $(i "n")); have $(i "g"):ident := (congrFun e $(i "p")).symm.trans Ac; clear e))
local macro_rules | `(tactic| row_lines $H $n) => do let t := ((n.getId.toString.drop 1).toString); let i := λ (a : String) => Lean.mkIdent (Lean.Name.mkSimple (a ++ t)); `(tactic| (intro $(i "p"):ident $(i "n"):ident; wrow_has $H $n))
local macro_rules | `(tactic| walk_at "x") => `(tactic| repeat first | walk_at "s" | (with_reducible refine AH (by decide) ?_))
namespace K29
open PySem L2 PySem.Spec PyProof.Rows
seal L2.PE L2.PT L2.PW L2.PA L2.PS L2.PSs L2.PI L2.PG L2.PTs L2.PGs
section
variable {P:Program} {w:World} {K:PySem.W.Frag} {mg:Str->Option Value} {base:Heap}
structure Cs where
  Cloth:Addr
  Draft:Addr
  Gear:Addr
  Loom:Addr
  LoomError:Addr
  BadRow:Addr
  BadWord:Addr
  TooMany:Addr
  NotPlain:Addr
  NotGrown:Addr
  BadDraft:Addr
  BadCloth:Addr
  OutOfPlace:Addr
structure Txt (K:PySem.W.Frag) (mg:Str->Option Value) (c:Cs):Prop where
  own:Own mg ["isinstance","int","bool","str","list","tuple","len","all","range","sum","zip","enumerate","ValueError"]
  g_Cloth:mg "Cloth"=some (.ref c.Cloth)
  kd_Cloth:Kind K c.Cloth
  is_Cloth:PySem.W.kitOne K (.ref c.Cloth) (.ref c.Cloth)=some true
  na_Cloth_width:NoAttr K c.Cloth "width"
  na_Cloth_rows:NoAttr K c.Cloth "rows"
  g_Draft:mg "Draft"=some (.ref c.Draft)
  kd_Draft:Kind K c.Draft
  is_Draft:PySem.W.kitOne K (.ref c.Draft) (.ref c.Draft)=some true
  na_Draft_shafts:NoAttr K c.Draft "shafts"
  na_Draft_treadles:NoAttr K c.Draft "treadles"
  na_Draft_threading:NoAttr K c.Draft "threading"
  na_Draft_ties:NoAttr K c.Draft "ties"
  na_Draft_treading:NoAttr K c.Draft "treading"
  na_Draft_warp:NoAttr K c.Draft "warp"
  na_Draft_weft:NoAttr K c.Draft "weft"
  g_Gear:mg "Gear"=some (.ref c.Gear)
  kd_Gear:Kind K c.Gear
  is_Gear:PySem.W.kitOne K (.ref c.Gear) (.ref c.Gear)=some true
  na_Gear_tied:NoAttr K c.Gear "tied"
  na_Gear_carried:NoAttr K c.Gear "carried"
  na_Gear_always_up:NoAttr K c.Gear "always_up"
  g_Loom:mg "Loom"=some (.ref c.Loom)
  kd_Loom:Kind K c.Loom
  is_Loom:PySem.W.kitOne K (.ref c.Loom) (.ref c.Loom)=some true
  na_Loom_gear:NoAttr K c.Loom "gear"
  na_Loom_width:NoAttr K c.Loom "width"
  na_Loom_treading:NoAttr K c.Loom "treading"
  na_Loom_done:NoAttr K c.Loom "done"
  g_LoomError:mg "LoomError"=some (.ref c.LoomError)
  g_BadRow:mg "BadRow"=some (.ref c.BadRow)
  g_BadWord:mg "BadWord"=some (.ref c.BadWord)
  g_TooMany:mg "TooMany"=some (.ref c.TooMany)
  g_NotPlain:mg "NotPlain"=some (.ref c.NotPlain)
  g_NotGrown:mg "NotGrown"=some (.ref c.NotGrown)
  g_BadDraft:mg "BadDraft"=some (.ref c.BadDraft)
  xk_BadDraft:HT.ExcKind K c.BadDraft
  xi_BadDraft:PySem.W.excIn K c.BadDraft [.type "ValueError", .type "Exception", .type "BaseException", .type "object"] "ValueError.__new__"=true
  xm_BadDraft_LoomError:PySem.W.exmOne K (.ref c.BadDraft) (.ref c.LoomError)=some true
  ki_BadDraft_BadRow:PySem.W.kitOne K (.ref c.BadDraft) (.ref c.BadRow)=some false
  ki_BadDraft_BadWord:PySem.W.kitOne K (.ref c.BadDraft) (.ref c.BadWord)=some false
  ki_BadDraft_TooMany:PySem.W.kitOne K (.ref c.BadDraft) (.ref c.TooMany)=some false
  ki_BadDraft_NotPlain:PySem.W.kitOne K (.ref c.BadDraft) (.ref c.NotPlain)=some false
  ki_BadDraft_NotGrown:PySem.W.kitOne K (.ref c.BadDraft) (.ref c.NotGrown)=some false
  ki_BadDraft_BadDraft:PySem.W.kitOne K (.ref c.BadDraft) (.ref c.BadDraft)=some true
  ki_BadDraft_BadCloth:PySem.W.kitOne K (.ref c.BadDraft) (.ref c.BadCloth)=some false
  ki_BadDraft_OutOfPlace:PySem.W.kitOne K (.ref c.BadDraft) (.ref c.OutOfPlace)=some false
  ki_BadDraft_ValueError:PySem.W.kitOne K (.ref c.BadDraft) (.type "ValueError")=some true
  g_BadCloth:mg "BadCloth"=some (.ref c.BadCloth)
  xk_BadCloth:HT.ExcKind K c.BadCloth
  xi_BadCloth:PySem.W.excIn K c.BadCloth [.type "ValueError", .type "Exception", .type "BaseException", .type "object"] "ValueError.__new__"=true
  xm_BadCloth_LoomError:PySem.W.exmOne K (.ref c.BadCloth) (.ref c.LoomError)=some true
  ki_BadCloth_BadRow:PySem.W.kitOne K (.ref c.BadCloth) (.ref c.BadRow)=some false
  ki_BadCloth_BadWord:PySem.W.kitOne K (.ref c.BadCloth) (.ref c.BadWord)=some false
  ki_BadCloth_TooMany:PySem.W.kitOne K (.ref c.BadCloth) (.ref c.TooMany)=some false
  ki_BadCloth_NotPlain:PySem.W.kitOne K (.ref c.BadCloth) (.ref c.NotPlain)=some false
  ki_BadCloth_NotGrown:PySem.W.kitOne K (.ref c.BadCloth) (.ref c.NotGrown)=some false
  ki_BadCloth_BadDraft:PySem.W.kitOne K (.ref c.BadCloth) (.ref c.BadDraft)=some false
  ki_BadCloth_BadCloth:PySem.W.kitOne K (.ref c.BadCloth) (.ref c.BadCloth)=some true
  ki_BadCloth_OutOfPlace:PySem.W.kitOne K (.ref c.BadCloth) (.ref c.OutOfPlace)=some false
  ki_BadCloth_ValueError:PySem.W.kitOne K (.ref c.BadCloth) (.type "ValueError")=some true
  g_OutOfPlace:mg "OutOfPlace"=some (.ref c.OutOfPlace)
  xk_OutOfPlace:HT.ExcKind K c.OutOfPlace
  xi_OutOfPlace:PySem.W.excIn K c.OutOfPlace [.type "ValueError", .type "Exception", .type "BaseException", .type "object"] "ValueError.__new__"=true
  xm_OutOfPlace_LoomError:PySem.W.exmOne K (.ref c.OutOfPlace) (.ref c.LoomError)=some true
  ki_OutOfPlace_BadRow:PySem.W.kitOne K (.ref c.OutOfPlace) (.ref c.BadRow)=some false
  ki_OutOfPlace_BadWord:PySem.W.kitOne K (.ref c.OutOfPlace) (.ref c.BadWord)=some false
  ki_OutOfPlace_TooMany:PySem.W.kitOne K (.ref c.OutOfPlace) (.ref c.TooMany)=some false
  ki_OutOfPlace_NotPlain:PySem.W.kitOne K (.ref c.OutOfPlace) (.ref c.NotPlain)=some false
  ki_OutOfPlace_NotGrown:PySem.W.kitOne K (.ref c.OutOfPlace) (.ref c.NotGrown)=some false
  ki_OutOfPlace_BadDraft:PySem.W.kitOne K (.ref c.OutOfPlace) (.ref c.BadDraft)=some false
  ki_OutOfPlace_BadCloth:PySem.W.kitOne K (.ref c.OutOfPlace) (.ref c.BadCloth)=some false
  ki_OutOfPlace_OutOfPlace:PySem.W.kitOne K (.ref c.OutOfPlace) (.ref c.OutOfPlace)=some true
  ki_OutOfPlace_ValueError:PySem.W.kitOne K (.ref c.OutOfPlace) (.type "ValueError")=some true
  k_MOST_SHAFTS:∃ t,mg "MOST_SHAFTS"=some (.int 16 t)
  k_MOST_TREADLES:∃ t,mg "MOST_TREADLES"=some (.int 16 t)
  k_MOST_ENDS:∃ t,mg "MOST_ENDS"=some (.int 60 t)
  k_MOST_PICKS:∃ t,mg "MOST_PICKS"=some (.int 60 t)
  k_COLOURS:∃ t,mg "COLOURS"=some (.str "abcdefghijklmnopqrstuvwxyz" t)
  k_UP:∃ t,mg "UP"=some (.str "up" t)
  k_DOWN:∃ t,mg "DOWN"=some (.str "down" t)
  k_BROKEN:∃ t,mg "BROKEN"=some (.str "broken" t)
  k_LOOSE:∃ t,mg "LOOSE"=some (.str "loose" t)
  k_TIED:∃ t,mg "TIED"=some (.str "tied" t)
  k_DRAWN:∃ t,mg "DRAWN"=some (.str "drawn" t)
def Jc (K:PySem.W.Frag) (TT:Addr):Sp:=λ vs H Q _=>∃ (a:Addr) (ns:List Int),vs=[.ref a]/\SqL K H a (ns.map V.int)/\ns.length<=63/\H TT=some (.tbl #[])/\∀ H',Q (.bl true) H'
end
section
variable {P:Program} {w:World} {K:PySem.W.Frag} {mg:Str->Option Value} {base:Heap} {c:Cs}
def DR (K:PySem.W.Frag):Sp:=λ vs H Q _=>∃ x,vs=[x]/\Ty K H x/\Q (.bl (FP x)) H
noncomputable abbrev EL:Stmt:=top 24
theorem JW:FnScope ["thing"] ["thing"] (Af EL):=⟨rfl,rfl,rfl,by decide +kernel,rfl,by decide +kernel,by decide +kernel⟩
theorem KG {f:Addr} {fd:FuncData} (F:Fun K "is_whole" "is_whole" EL f fd) (T:Txt K mg c):FnOk P w K mg base CX0 1 f fd ["thing"] (DR K):=by
  refine F.ok JW (λ vs H Q E h=> ?_) (λ cdv A outer s H vs Q E hr h=> ?_)
  · obtain ⟨x,rfl,_⟩:=h;rfl
  · obtain ⟨x,rfl,⟨n,ty⟩,k⟩:=h;refine ⟨_,(Ah (An (De (Al (CY (K:=K)) rfl (T.own _ (by decide)) boot_isinstance (Aa (pv 0) (Aa (EG rfl (T.own _ (by decide)) boot_int) Ab))) (EJ (N9 (Al (CY (K:=K)) rfl (T.own _ (by decide)) boot_isinstance (Aa (pv 0) (Aa (EG rfl (T.own _ (by decide)) boot_bool) Ab)))))))),?_⟩;walk_at "w";refine A1 ty (Px ty) ?_;walk_at "w";refine JZ (λ hc=> ?_) (λ hc=> ?_)
    · walk_at "w";refine A1 ty (MV ty) ?_;walk_at "w";exact FZ (by cases x <;> first | rfl | exact absurd hc Bool.false_ne_true) k
    · exact FZ (by cases x <;> first | rfl | exact absurd hc.symm Bool.false_ne_true) k
def BR (K:PySem.W.Frag):Sp:=λ vs H Q _=>∃ x a b,vs=[x, .int a, .int b]/\Ty K H x/\Q (.bl (Bx x a b)) H
noncomputable abbrev EO:Stmt:=top 25
theorem JX:FnScope ["thing","least","most"] ["thing","least","most"] (Af EO):=⟨rfl,rfl,rfl,by decide +kernel,rfl,by decide +kernel,by decide +kernel⟩
theorem KA {f:Addr} {fd:FuncData} (F:Fun K "is_among" "is_among" EO f fd) (T:Txt K mg c) (c_is_whole:Aw P w K mg base "is_whole" 1 ["thing"] (DR K)):FnOk P w K mg base CX0 2 f fd ["thing","least","most"] (BR K):=by
  refine F.ok JX (λ vs H Q E h=> ?_) (λ cdv A outer s H vs Q E hr h=> ?_)
  · obtain ⟨x,a,b,rfl,_⟩:=h;rfl
  · obtain ⟨x,a,b,rfl,ty,k⟩:=h;refine ⟨_,(Ah (An (De (Ag c_is_whole hr (Aa (pv 0) Ab)) (EJ (N1 Qa Qa (pv 1) (pv 0) (pv 2)))))),?_⟩;walk_at "w";refine ⟨x,rfl,ty,?_⟩;walk_at "w";refine JZ (λ hc=> ?_) (λ hc=> ?_)
    · cases x with
      | int i=>
        walk_at "w";refine JZ (λ h1=> ?_) (λ h1=> ?_)
        · walk_at "w";exact FZ (by show _=(decide (a<=i)&&decide (i<=b));rw [h1,Bool.true_and]) k
        · walk_at "w";exact FZ (by show _=(decide (a<=i)&&decide (i<=b));rw [h1,Bool.false_and]) k
      | _=>exact absurd hc Bool.false_ne_true
    · exact FZ (by cases x <;> first | rfl | exact absurd hc.symm Bool.false_ne_true) k
def Eh:Sp:=λ vs H Q _=>∃ n:Nat,vs=[.int n]/\1<=n/\n<=1000/\Q (.int ((2 ^ (n - 1):Nat):Int)) H
noncomputable abbrev Hi:Stmt:=top 16
theorem MG:FnScope ["number"] ["number"] (Af Hi):=⟨rfl,rfl,rfl,by decide +kernel,rfl,by decide +kernel,by decide +kernel⟩
theorem Mq {f:Addr} {fd:FuncData} (F:Fun K "bit_of" "bit_of" Hi f fd) (T:Txt K mg c):FnOk P w K mg base CX0 1 f fd ["number"] Eh:=by
  refine F.ok MG (λ vs H Q E h=> ?_) (λ cdv A outer s H vs Q E hr h=> ?_)
  · obtain ⟨n,rfl,_⟩:=h;rfl
  · obtain ⟨n,rfl,h1,h2,q⟩:=h;refine ⟨_,(Ah (An (Ak DJ Ae (Ak Ce (pv 0) Ae)))),?_⟩;walk_at "w";refine AH ⟨by omega,by omega,by decide⟩ ?_;rw [show ((n:Int) - 1).toNat=n - 1 by omega,Fa];exact q
def ES (K:PySem.W.Frag):Sp:=λ vs H Q _=>∃ tp a,∃ ns:List Nat,vs=[.ref a]/\SqS tp K H a (ns.map nV)/\(∀ n∈ns,1<=n/\n<=1000)/\∀ H',Same H H'->Q (.int ((MM.mOf ns:Nat):Int)) H'
noncomputable abbrev FG:Stmt:=top 17
theorem sc_mask_of:FnScope ["numbers","mask","number"] ["numbers"] (Af FG):=⟨rfl,rfl,rfl,by decide +kernel,rfl,by decide +kernel,by decide +kernel⟩
theorem K8 {f:Addr} {fd:FuncData} (F:Fun K "mask_of" "mask_of" FG f fd) (T:Txt K mg c) (c_bit_of:Aw P w K mg base "bit_of" 1 ["number"] Eh):FnOk P w K mg base CX0 2 f fd ["numbers"] (ES K):=by
  refine F.ok sc_mask_of (λ vs H Q E h=> ?_) (λ cdv A outer s H vs Q E hr h=> ?_)
  · obtain ⟨tp,a,ns,rfl,_⟩:=h;rfl
  · obtain ⟨tp,a,ns,rfl,sa,hn,q⟩:=h;refine ⟨_,(Ad (Ao (i:=1) sc_mask_of.nd rfl (Or.inl rfl) Ae)
      (Ad (BW PassesOwn.never rfl (L4 (K:=K) (pv 0)) (AO (i:=2) sc_mask_of.nd rfl (Or.inl rfl)) (Ah (Nd (i:=1) sc_mask_of.nd rfl (Or.inl rfl) (Ag c_bit_of hr (Aa (pv 2) Ab)) Oi)))
      (Ah (An (pv 1))))),?_⟩
    walk_at "w";refine ⟨tp,a,rfl,⟨_,sa⟩,Cq (LN sa) (λ i σ H3=>∃ x,σ=[some (.ref a),some (.int ((MM.mOf (ns.take i):Nat):Int)),x]/\Same H H3) ⟨_,rfl,Same.refl _⟩ (λ i σ H3 ⟨_,_,s⟩=>s) ?_ ?_⟩
    · rintro i σ H' H3 hi ⟨x,rfl,s'⟩ s3;have hi':i<ns.length:=by simpa using hi
      have hm:ns.getD i 0∈ns:=by rw [List.getD_eq_getElem?_getD,List.getElem?_eq_getElem hi'];exact List.getElem_mem hi'
      rw [Bb hi];walk_at "w";refine NM rfl ?_;walk_at "w";refine ⟨_,rfl,(hn _ hm).1,(hn _ hm).2,?_⟩;walk_at "w";rw [bO, <-MM.mOf_snoc, <-Ix hi'];exact ⟨_,rfl,s'.trans s3⟩
    · rintro σ H3 ⟨x,rfl,s3⟩;walk_at "w";rw [List.length_map,List.take_length];exact q H3 s3
def GM:Sp:=λ vs H Q _=>∃ n:Nat,vs=[.int n]/\n<=1000/\Q (.int ((2 ^ n - 1:Nat):Int)) H
noncomputable abbrev FD:Stmt:=top 18
theorem KY:FnScope ["most"] ["most"] (Af FD):=⟨rfl,rfl,rfl,by decide +kernel,rfl,by decide +kernel,by decide +kernel⟩
theorem KP {f:Addr} {fd:FuncData} (F:Fun K "mask_to" "mask_to" FD f fd) (T:Txt K mg c):FnOk P w K mg base CX0 1 f fd ["most"] GM:=by
  refine F.ok KY (λ vs H Q E h=> ?_) (λ cdv A outer s H vs Q E hr h=> ?_)
  · obtain ⟨n,rfl,_⟩:=h;rfl
  · obtain ⟨n,rfl,h1,q⟩:=h;refine ⟨_,(Ah (An (Ak Ce (Ak DJ Ae (pv 0)) Ae))),?_⟩;walk_at "w";refine AH ⟨by omega,by omega,by decide⟩ ?_;walk_at "w";have hp:0<2 ^ n:=Nat.two_pow_pos n;rw [show ((n:Int)).toNat=n by omega,Fa,show ((2 ^ n:Nat):Int) - 1=((2 ^ n - 1:Nat):Int) by omega];exact q
def EE:Sp:=λ vs H Q _=>∃ m n:Nat,vs=[.int m, .int n]/\1<=n/\n<=1000/\Q (.bl (m.testBit (n - 1))) H
theorem Ps (m i:Nat):(!decide (((m &&& 2 ^ i:Nat):Int)=0))=m.testBit i:=by
  have e:(m &&& 2 ^ i)=(m.testBit i).toNat*2 ^ i:=by
    refine Nat.eq_of_testBit_eq λ j=> ?_;rw [Nat.testBit_and,Nat.testBit_two_pow];by_cases h:i=j
    · subst h;cases hb:m.testBit i <;> simp
    · cases hb:m.testBit i <;> simp [h,Nat.testBit_two_pow]
  rw [e];have hp:0<2 ^ i:=Nat.two_pow_pos i;cases m.testBit i with
  | false=>simp
  | true=>
    rw [decide_eq_false (by rw [Bool.toNat_true];omega)];rfl
noncomputable abbrev C3:Stmt:=top 19
theorem Il:FnScope ["mask","number"] ["mask","number"] (Af C3):=⟨rfl,rfl,rfl,by decide +kernel,rfl,by decide +kernel,by decide +kernel⟩
theorem Ig {f:Addr} {fd:FuncData} (F:Fun K "has_number" "has_number" C3 f fd) (T:Txt K mg c) (c_bit_of:Aw P w K mg base "bit_of" 1 ["number"] Eh):FnOk P w K mg base CX0 2 f fd ["mask","number"] EE:=by
  refine F.ok Il (λ vs H Q E h=> ?_) (λ cdv A outer s H vs Q E hr h=> ?_)
  · obtain ⟨m,n,rfl,_⟩:=h;rfl
  · obtain ⟨m,n,rfl,h1,h2,q⟩:=h;refine ⟨_,(Ah (An (BN Lr (Ak Ju (pv 0) (Ag c_bit_of hr (Aa (pv 1) Ab))) Ae (Ay _)))),?_⟩;walk_at "w";refine ⟨n,rfl,h1,h2,?_⟩;walk_at "w";rw [bA,Ps];exact q
def EB:Sp:=λ vs H Q _=>∃ m:Nat,vs=[.int m]/\m<2 ^ 900/\∀ H' p,Same H H'->H p=none->H' p=some (.lst ((MM.nOf m).map nV))->Q (.ref p) H'
noncomputable abbrev CW:Stmt:=top 20
theorem HP:FnScope ["mask"] ["mask"] (Af CW):=⟨rfl,rfl,rfl,by decide +kernel,rfl,by decide +kernel,by decide +kernel⟩
theorem Ik {f:Addr} {fd:FuncData} (F:Fun K "numbers_of" "numbers_of" CW f fd) (T:Txt K mg c) (c_has_number:Aw P w K mg base "has_number" 2 ["mask","number"] EE):FnOk P w K mg base CX0 3 f fd ["mask"] EB:=by
  refine F.ok HP (λ vs H Q E h=> ?_) (λ cdv A outer s H vs Q E hr h=> ?_)
  · obtain ⟨m,rfl,_⟩:=h;rfl
  · obtain ⟨m,rfl,h1,q⟩:=h;have hb:=MM.bits_le h1;refine ⟨_,(Ah (An (Au (CN rfl (T.own _ (by decide)) (Aa Ae (Aa (Ak AG (Rv (K:=K) PySem.F.plainAttrs_int PySem.F.slot_int_bit_length PySem.F.type_int_bit_length Ia (pv 0)) Ae) Ab))) (λ _ _ _ _=>(Cp (Bs (Ag c_has_number hr (Aa (pv 1) (Aa (pv 0) Ab)))))) (λ _ _ _ _=>(pv 0))))),?_⟩;walk_at "w";refine tyI ?_;refine ON ?_;walk_at "w";refine ⟨_,_,rfl,⟨by decide,by decide,by omega,by omega⟩,λ D hD=> ?_⟩;rw [show ((MM.bits m:Nat)+1 - 1:Int).toNat=MM.bits m by omega];refine Du (p:=m.testBit) (G:=λ i=>1+(i:Int)) (CM rfl) hD (by omega) ?_ ?_ ?_
    · intro i H' R hi s k;walk_at "w";refine ⟨m,i+1,by rw [show (1:Int)+(i:Nat)=((i+1:Nat):Int) by omega],by omega,by omega,?_⟩;rw [show i+1 - 1=i by omega];exact ⟨_,rfl,k H' (Same.refl _)⟩
    · intro i H' R hi hp s k;walk_at "w";exact k H' (Same.refl _)
    · intro H' s hl;refine q H' D s hD ?_;rw [hl];unfold MM.nOf;rw [List.map_map,List.map_map];congr 2;refine List.map_congr_left λ i _=> ?_;show V.int (1+(i:Int))=V.int ((i+1:Nat):Int);congr 1;omega
def Ef (K:PySem.W.Frag):Sp:=λ vs H Q _=>∃ tp a,∃ ns:List Nat,vs=[.ref a]/\SqS tp K H a (ns.map nV)/\∀ H',Same H H'->Q (.int ((MM.uOf ns:Nat):Int)) H'
noncomputable abbrev EI:Stmt:=top 21
theorem sc_union_of:FnScope ["masks","union","mask"] ["masks"] (Af EI):=⟨rfl,rfl,rfl,by decide +kernel,rfl,by decide +kernel,by decide +kernel⟩
theorem Kv {f:Addr} {fd:FuncData} (F:Fun K "union_of" "union_of" EI f fd) (T:Txt K mg c):FnOk P w K mg base CX0 1 f fd ["masks"] (Ef K):=by
  refine F.ok sc_union_of (λ vs H Q E h=> ?_) (λ cdv A outer s H vs Q E hr h=> ?_)
  · obtain ⟨tp,a,ns,rfl,_⟩:=h;rfl
  · obtain ⟨tp,a,ns,rfl,sa,q⟩:=h;refine ⟨_,(Ad (Ao (i:=1) sc_union_of.nd rfl (Or.inl rfl) Ae)
      (Ad (BW PassesOwn.never rfl (L4 (K:=K) (pv 0)) (AO (i:=2) sc_union_of.nd rfl (Or.inl rfl)) (Ah (Nd (i:=1) sc_union_of.nd rfl (Or.inl rfl) (pv 2) Oi)))
      (Ah (An (pv 1))))),?_⟩
    walk_at "w";refine ⟨tp,a,rfl,⟨_,sa⟩,Cq (LN sa) (λ i σ H3=>∃ x,σ=[some (.ref a),some (.int ((MM.uOf (ns.take i):Nat):Int)),x]/\Same H H3) ⟨_,rfl,Same.refl _⟩ (λ i σ H3 ⟨_,_,s⟩=>s) ?_ ?_⟩
    · rintro i σ H' H3 hi ⟨x,rfl,s'⟩ s3;have hi':i<ns.length:=by simpa using hi
      rw [Bb hi];walk_at "w";refine NM rfl ?_;walk_at "w";rw [bO, <-MM.uOf_snoc, <-Ix hi'];exact ⟨_,rfl,s'.trans s3⟩
    · rintro σ H3 ⟨x,rfl,s3⟩;walk_at "w";rw [List.length_map,List.take_length];exact q H3 s3
def NX (C:Addr) (H:Hp) (x:Addr) (n:Nat) (rs:List Nat):Prop:=∃ dx t,H x=some (.ins C dx [("width",nV n),("rows", .ref t)])/\H t=some (.tup (rs.map nV))
structure ClOk (n:Nat) (rs:List Nat):Prop where
  n1:1<=n
  n2:n<=60
  p1:1<=rs.length
  p2:rs.length<=60
  lt:∀ r∈rs,r<2 ^ n
inductive ClFit (K:PySem.W.Frag) (H:Hp):V->V->Bool->Prop
  | ends {e r:V} (ty:Ty K H e) (h:Bx e 1 60=false):ClFit K H e r false
  | kind {n:Nat} {r:V} {t:Value} (h1:1<=n) (h2:n<=60) (ty:TyOf K H r t) (h:PySem.W.kitOne K t (.type "list")=some false):ClFit K H (.int n) r false
  | many {n:Nat} {a:Addr} {xs:List V} (h1:1<=n) (h2:n<=60) (ha:H a=some (.lst xs)) (h:xs.length=0\/60<xs.length):ClFit K H (.int n) (.ref a) false
  | rows {n:Nat} {a:Addr} {xs:List V} (h1:1<=n) (h2:n<=60) (ha:H a=some (.lst xs)) (l1:1<=xs.length) (l2:xs.length<=60) (ty:∀ x∈xs,Ty K H x):ClFit K H (.int n) (.ref a) (xs.all λ x=>Bx x 0 ((2 ^ n - 1:Nat):Int))
theorem ClFit.ok {H:Hp} {n:Nat} {a:Addr} {rs:List Nat} (ha:H a=some (.lst (rs.map nV))) (ok:ClOk n rs):ClFit K H (.int n) (.ref a) true:=by
  have e:((rs.map nV).all λ x=>Bx x 0 ((2 ^ n - 1:Nat):Int))=true:=by
    rw [List.all_eq_true];intro x hx;obtain ⟨r,hr,rfl⟩:=List.mem_map.mp hx;have:=ok.lt _ hr;have hp:0<2 ^ n:=Nat.two_pow_pos n;show (decide ((0:Int)<=(r:Nat))&&decide (((r:Nat):Int)<=((2 ^ n - 1:Nat):Int)))=true;simp only [Bool.and_eq_true,decide_eq_true_eq];omega
  rw [<-e];refine .rows ok.n1 ok.n2 ha (by rw [List.length_map];exact ok.p1) (by rw [List.length_map];exact ok.p2) λ x hx=> ?_;obtain ⟨r,hr,rfl⟩:=List.mem_map.mp hx;exact ⟨_, .int _⟩
def Ez (K:PySem.W.Frag) (c:Cs):Sp:=λ vs H Q E=>∃ (e r:V) (b:Bool),vs=[e,r]/\ClFit K H e r b/\∀ H',Same H H'->(b=true->Q .non H')/\(b=false->E (.ref c.BadCloth) none H')
theorem Fn {n:Nat} (h1:1<=n) (h2:n<=60):Bx (.int n) 1 60=true:=by
  show (decide ((1:Int)<=n)&&decide ((n:Int)<=60))=true;simp;omega
noncomputable abbrev Db:Stmt:=top 28
theorem Ic:FnScope ["ends","rows"] ["ends","rows"] (Af Db):=⟨rfl,rfl,rfl,by decide +kernel,rfl,by decide +kernel,by decide +kernel⟩
theorem Hy {f:Addr} {fd:FuncData} (F:Fun K "need_cloth" "need_cloth" Db f fd) (T:Txt K mg c) (c_is_among:Aw P w K mg base "is_among" 2 ["thing","least","most"] (BR K)) (c_mask_to:Aw P w K mg base "mask_to" 1 ["most"] GM):FnOk P w K mg base (CXE P w) 3 f fd ["ends","rows"] (Ez K c):=by
  refine Fun.okE F Ic (λ vs H Q E h=> ?_) (λ cdv A outer s H vs Q E hr h=> ?_)
  · obtain ⟨e,r,b,rfl,_⟩:=h;rfl
  · obtain ⟨e,r,b,rfl,hf,k⟩:=h;have tye:Ty K H e:=by cases hf <;> first | assumption | exact ⟨_, .int _⟩
    refine ⟨_,(Ad (A7 (Cn (Bs (Ag c_is_among hr (Aa (pv 0) (Aa Ae (Aa (IW T.k_MOST_ENDS) Ab)))))) (Ah (CI T.g_BadCloth T.xi_BadCloth (Aa Ap Ab))) Az)
      (Ad (A7 (PW.pt (IC (Cn (Bs (Al (CY (K:=K)) rfl (T.own _ (by decide)) boot_isinstance (Aa (pv 1) (Aa (EG rfl (T.own _ (by decide)) A6) Ab))))) (GZ (Cn (Bs (Ag c_is_among hr (Aa (Al (Bd (K:=K)) rfl (T.own _ (by decide)) boot_len (Aa (pv 1) Ab)) (Aa Ae (Aa (IW T.k_MOST_PICKS) Ab))))))))) (Ah (CI T.g_BadCloth T.xi_BadCloth (Aa Ap Ab))) Az)
      (Ah (A7 (Cn (Bs (Al (JU (K:=K)) rfl (T.own _ (by decide)) CT (Aa (Au (BC (K:=K) (pv 1)) (λ _ _ _ _=>Ax) (λ _ _ _ _=>(Ag c_is_among hr (Aa (pv 0) (Aa Ae (Aa (Ag c_mask_to (hr.mono (by decide)) (Aa (pv 1) Ab)) Ab)))))) Ab)))) (Ah (CI T.g_BadCloth T.xi_BadCloth (Aa Ap Ab))) Az)))),?_⟩
    walk_at "w";refine ⟨_,_,_,rfl,tye,?_⟩;walk_at "w";cases hf with
    | ends ty h=>
      rw [h];refine Kj ?_;exact ⟨by decide,(k H (Same.refl _)).2 rfl⟩
    | kind h1 h2 ty h=>
      rw [Fn h1 h2];refine Fh ?_;walk_at "w";refine A1 ty h ?_;walk_at "w";exact ⟨by decide,(k H (Same.refl _)).2 rfl⟩
    | @many n a xs h1 h2 ha h=>
      rw [Fn h1 h2];refine Fh ?_;walk_at "w";refine A1 (.lst ha) (kb (b:=true) (by decide +kernel)) ?_;walk_at "w";refine AQ (SqL.of ha) ?_;walk_at "w";refine ⟨_,_,_,rfl,⟨_, .int _⟩,?_⟩;walk_at "w";have d2:Bx (.int (xs.length:Nat)) 1 60=false:=by
        show (decide ((1:Int)<=(xs.length:Nat))&&decide (((xs.length:Nat):Int)<=60))=false;rw [Bool.and_eq_false_iff,decide_eq_false_iff_not,decide_eq_false_iff_not];omega
      rw [d2];refine Kj ?_;exact ⟨by decide,(k H (Same.refl _)).2 rfl⟩
    | @rows n a xs h1 h2 ha l1 l2 ty=>
      rw [Fn h1 h2];refine Fh ?_;walk_at "w";refine A1 (.lst ha) (kb (b:=true) (by decide +kernel)) ?_;walk_at "w";refine AQ (SqL.of ha) ?_;walk_at "w";refine ⟨_,_,_,rfl,⟨_, .int _⟩,?_⟩;walk_at "w";rw [Fn l1 l2];refine Fh ?_;walk_at "w";refine ⟨a,rfl,⟨_,SqL.of ha⟩,λ D hD=> ?_⟩;refine CP (G:=λ i=>Bx (xs.getD i .non) 0 ((2 ^ n - 1:Nat):Int)) (A4 (SqL.of ha) rfl) hD (by omega) ?_ ?_
      · intro i H' R hi s kk;walk_at "w";refine ⟨n,rfl,by omega,?_⟩;walk_at "w";refine ⟨_,_,_,rfl,(ty _ ?_).same s,?_⟩
        · rw [List.getD_eq_getElem?_getD,List.getElem?_eq_getElem hi];exact List.getElem_mem hi
        exact kk H' (Same.refl _)
      · intro H' s hl;walk_at "w";refine FE (SqL.of hl) ?_;walk_at "w";have d4:((List.range xs.length).map λ i=>Bx (xs.getD i .non) 0 ((2 ^ n - 1:Nat):Int)).all id=xs.all λ x=>Bx x 0 ((2 ^ n - 1:Nat):Int):=by
          rw [AI (λ x:V=>Bx x 0 ((2 ^ n - 1:Nat):Int)) xs .non,List.all_map];rfl
        rw [d4];refine JZ (λ hb=> ?_) (λ hb=> ?_)
        · have hb:(xs.all λ x=>Bx x 0 ((2 ^ n - 1:Nat):Int))=false:=by simpa using hb
          exact ⟨by decide,(k H' s).2 hb⟩
        · have hb:(xs.all λ x=>Bx x 0 ((2 ^ n - 1:Nat):Int))=true:=by simpa using hb
          walk_at "w";exact (k H' s).1 hb
def By (K:PySem.W.Frag) (c:Cs):Sp:=λ vs H Q E=>∃ (x dx:Addr) (e r:V),vs=[.ref x,e,r]/\H x=some (.ins c.Cloth dx [])/\
  ((ClFit K H e r false/\∀ H',Same H H'->E (.ref c.BadCloth) none H')\/
  (∃ (n:Nat) (a:Addr) (rs:List Nat),e= .int n/\r= .ref a/\H a=some (.lst (rs.map nV))/\ClOk n rs/\∀ H',(∀ b o,H b=some o->b≠x->H' b=some o)->NX c.Cloth H' x n rs->Q .non H'))
noncomputable abbrev BL:Stmt:=Aq (top 29) 0
theorem E7:FnScope ["self","ends","rows"] ["self","ends","rows"] (Af BL):=⟨rfl,rfl,rfl,by decide +kernel,rfl,by decide +kernel,by decide +kernel⟩
theorem Fe {f:Addr} {fd:FuncData} (F:Fun K "__init__" "Cloth.__init__" BL f fd) (T:Txt K mg c) (c_need_cloth:LL P w K mg base "need_cloth" 3 ["ends","rows"] (Ez K c)):FnOk P w K mg base (CXE P w) 4 f fd ["self","ends","rows"] (By K c):=by
  refine Fun.okE F E7 (λ vs H Q E h=> ?_) (λ cdv A outer s H vs Q E hr h=> ?_)
  · obtain ⟨x,dx,e,r,rfl,_⟩:=h;rfl
  · obtain ⟨x,dx,e,r,rfl,hx,h⟩:=h;refine ⟨_,(Ad (AT (G1 c_need_cloth hr LG (Aa (pv 1) (Aa (pv 2) Ab))))
      (Ad (Bm (pv 0) (pv 1) rfl)
      (Ah (Bm (pv 0) (AJ (Cr (K:=K)) rfl (T.own _ (by decide)) A0 (Aa (pv 2) Ab)) rfl)))),?_⟩
    walk_at "w";rcases h with ⟨hf,k⟩ | ⟨n,a,rs,rfl,rfl,ha,ok,k⟩
    · exact ⟨_,_,false,rfl,hf,λ H1 s1=>⟨λ z=>absurd z (by decide),λ _=>k H1 s1⟩⟩
    refine ⟨_,_,true,rfl, .ok ha ok,λ H1 s1=>⟨λ _=> ?_,λ z=>absurd z (by decide)⟩⟩;walk_at "w";refine Be (s1 _ _ hx) T.kd_Cloth.cl T.na_Cloth_width (by decide) ?_;walk_at "w";have nax:a≠x:=Ee ha hx (by intro z;cases z);refine BS (SqL.of (by rw [Aj nax];exact s1 _ _ ha)) λ t ht=> ?_;walk_at "w";have nxt:x≠t:=Av Ac ht;refine Be (by rw [Aj nxt];exact Ac) T.kd_Cloth.cl T.na_Cloth_rows (by show 1<1000;decide) ?_;walk_at "w";refine k _ (λ b o e hb=> ?_) ⟨dx,t,Ac,by rw [Aj (Ne.symm nxt),Ac]⟩;have hbt:b≠t:=λ z=>by
      subst z;rw [Aj hb,s1 _ _ e] at ht;cases ht
    rw [Aj hb,Aj hbt,Aj hb];exact s1 _ _ e
theorem OY {c:Cs} {H:Hp} {Q:VK} {E:XK} {n:Nat} {a:Addr} {rs:List Nat} (ha:H a=some (.lst (rs.map nV))) (ok:ClOk n rs) (h:∀ H' x,Same H H'->H x=none->NX c.Cloth H' x n rs->Q (.ref x) H'):
    ∀ x dx,H x=none->H dx=none->dx≠x->By K c [.ref x, .int n, .ref a] (upd (upd H dx (.own x)) x (.ins c.Cloth dx [])) (λ v H2=>v= .non/\Q (.ref x) H2) E:=by
  intro x dx hx hdx ne;have s0:=DF (o:=HO.ins c.Cloth dx []) (u:= .own x) hx hdx;exact ⟨x,dx,_,_,rfl,Ac, .inr ⟨n,a,rs,rfl,rfl,s0 _ _ ha,ok,λ H' kp at'=>⟨rfl,h H' x (λ b o e=>kp b o (s0 b o e) (Av e hx)) hx at'⟩⟩⟩
def BM (c:Cs):Sp:=λ vs H Q _=>∃ x n rs,vs=[.ref x]/\NX c.Cloth H x n rs/\∀ H' p l,Same H H'->H p=none->H l=none->H' p=some (.tup [nV n, .ref l])->H' l=some (.lst (rs.map nV))->Q (.ref p) H'
noncomputable abbrev C9:Stmt:=Aq (top 29) 1
theorem HZ:FnScope ["self"] ["self"] (Af C9):=⟨rfl,rfl,rfl,by decide +kernel,rfl,by decide +kernel,by decide +kernel⟩
theorem HR {f:Addr} {fd:FuncData} (F:Fun K "told" "Cloth.told" C9 f fd) (T:Txt K mg c):FnOk P w K mg base CX0 1 f fd ["self"] (BM c):=by
  refine F.ok HZ (λ vs H Q E h=> ?_) (λ cdv A outer s H vs Q E hr h=> ?_)
  · obtain ⟨x,n,rs,rfl,_⟩:=h;rfl
  · obtain ⟨x,n,rs,rfl,⟨dx,t,h1,h2⟩,k⟩:=h;refine ⟨_,(Ah (An (AB (Aa (AV (K:=K) (pv 0) rfl) (Aa (AJ (ET (K:=K)) rfl (T.own _ (by decide)) A6 (Aa (AV (K:=K) (pv 0) rfl) Ab)) Ab))))),?_⟩;walk_at "w";refine ⟨_,_,_,_,_,rfl,h1,T.kd_Cloth.cl,T.na_Cloth_width,rfl,?_⟩;walk_at "w";refine ⟨_,_,_,_,_,rfl,h1,T.kd_Cloth.cl,T.na_Cloth_rows,rfl,?_⟩;walk_at "w";refine Bt (SqT.of h2) λ l hl=> ?_;walk_at "w";intro p hp;refine k _ p l ((Ai hl).trans (Ai hp)) ((Ai hl).free hp) hl Ac ?_;rw [Aj (Av Ac hp),Ac]
noncomputable abbrev colS:Str:="abcdefghijklmnopqrstuvwxyz"
def JY (z:Str):Prop:=z.length=1/\(!(Builtin.Str.occurrences colS z 0 colS.length 1).isEmpty)=true
def Fk:Sp:=λ vs H Q _=>∃ z,vs=[.str z]/\JY z/\Q (.bl true) H
noncomputable abbrev Ea:Stmt:=top 26
theorem Jt:FnScope ["thing"] ["thing"] (Af Ea):=⟨rfl,rfl,rfl,by decide +kernel,rfl,by decide +kernel,by decide +kernel⟩
theorem JD {f:Addr} {fd:FuncData} (F:Fun K "is_colour" "is_colour" Ea f fd) (T:Txt K mg c):FnOk P w K mg base CX0 1 f fd ["thing"] Fk:=by
  refine F.ok Jt (λ vs H Q E h=> ?_) (λ cdv A outer s H vs Q E hr h=> ?_)
  · obtain ⟨z,rfl,_⟩:=h;rfl
  · obtain ⟨z,rfl,hz,k⟩:=h;refine ⟨_,(Ah (An (De (Al (CY (K:=K)) rfl (T.own _ (by decide)) boot_isinstance (Aa (pv 0) (Aa (EG rfl (T.own _ (by decide)) boot_str) Ab))) (De (BN B0 (Al (Bd (K:=K)) rfl (T.own _ (by decide)) boot_len (Aa (pv 0) Ab)) Ae (Ay _)) (EJ (BN Mx (pv 0) (CH T.k_COLOURS) (by with_unfolding_all rfl))))))),?_⟩;walk_at "w";refine A1 (.str z) (kb (b:=true) (by decide +kernel)) ?_;walk_at "w";refine PR (by rw [hz.1];decide) ?_;walk_at "w";refine Dg (λ _=> ?_) (λ q=>absurd (by rw [hz.1];rfl) q);walk_at "w";refine ⟨_,_,rfl,rfl,?_⟩;rw [hz.2];exact k
def LM:Sp:=λ vs H Q _=>∃ z,vs=[.bl true, .str z]/\Q .non H
noncomputable abbrev La:Stmt:=top 31
theorem OM:FnScope ["holds","words"] ["holds","words"] (Af La):=⟨rfl,rfl,rfl,by decide +kernel,rfl,by decide +kernel,by decide +kernel⟩
theorem O1 {f:Addr} {fd:FuncData} (F:Fun K "need" "need" La f fd) (T:Txt K mg c):FnOk P w K mg base CX0 1 f fd ["holds","words"] LM:=by
  refine F.ok OM (λ vs H Q E h=> ?_) (λ cdv A outer s H vs Q E hr h=> ?_)
  · obtain ⟨z,rfl,_⟩:=h;rfl
  · obtain ⟨z,rfl,k⟩:=h;refine ⟨_,(Ah (A7 (Cn (Bs (pv 0))) (Ah M0) Az)),?_⟩;walk_at "w";exact k
def EW:Sp:=λ vs H Q _=>∃ a xs,∃ lo hi:Int,vs=[.ref a, .int lo, .int hi]/\H a=some (.lst xs)/\lo<=xs.length/\xs.length<=hi/\Q (.bl true) H
noncomputable abbrev FQ:Stmt:=top 32
theorem Lh:FnScope ["thing","least","most"] ["thing","least","most"] (Af FQ):=⟨rfl,rfl,rfl,by decide +kernel,rfl,by decide +kernel,by decide +kernel⟩
theorem K5 {f:Addr} {fd:FuncData} (F:Fun K "is_list" "is_list" FQ f fd) (T:Txt K mg c) (c_is_among:Aw P w K mg base "is_among" 2 ["thing","least","most"] (BR K)):FnOk P w K mg base CX0 3 f fd ["thing","least","most"] EW:=by
  refine F.ok Lh (λ vs H Q E h=> ?_) (λ cdv A outer s H vs Q E hr h=> ?_)
  · obtain ⟨a,xs,lo,hi,rfl,_⟩:=h;rfl
  · obtain ⟨a,xs,lo,hi,rfl,ha,h1,h2,k⟩:=h;refine ⟨_,(Ah (An (De (Al (CY (K:=K)) rfl (T.own _ (by decide)) boot_isinstance (Aa (pv 0) (Aa (EG rfl (T.own _ (by decide)) A6) Ab))) (EJ (Ag c_is_among hr (Aa (Al (Bd (K:=K)) rfl (T.own _ (by decide)) boot_len (Aa (pv 0) Ab)) (Aa (pv 1) (Aa (pv 2) Ab)))))))),?_⟩;walk_at "w";refine A1 (.lst ha) (kb (b:=true) (by decide +kernel)) ?_;walk_at "w";refine AQ (SqL.of ha) ?_;walk_at "w";refine ⟨_,_,_,rfl,⟨_, .int _⟩,?_⟩;refine FZ ?_ k;show (decide (lo<=(xs.length:Nat))&&decide (((xs.length:Nat):Int)<=hi))=true;simp [h1,h2]
def Rise (m:Nat) (ns:List Nat):Prop:=∀ i,i<ns.length->(0::ns).getD i 0+1<=ns.getD i 0/\ns.getD i 0<=m
def Fg:Sp:=λ vs H Q _=>∃ a ns m,vs=[.ref a,nV m]/\H a=some (.lst (ns.map nV))/\Rise m ns/\∀ H',Same H H'->Q (.bl true) H'
noncomputable abbrev DM:Stmt:=top 33
theorem sc_is_rising:FnScope ["thing","most","last","number"] ["thing","most"] (Af DM):=⟨rfl,rfl,rfl,by decide +kernel,rfl,by decide +kernel,by decide +kernel⟩
theorem Ji {f:Addr} {fd:FuncData} (F:Fun K "is_rising" "is_rising" DM f fd) (T:Txt K mg c) (c_is_among:Aw P w K mg base "is_among" 2 ["thing","least","most"] (BR K)):FnOk P w K mg base CX0 3 f fd ["thing","most"] Fg:=by
  refine F.ok sc_is_rising (λ vs H Q E h=> ?_) (λ cdv A outer s H vs Q E hr h=> ?_)
  · obtain ⟨a,ns,m,rfl,_⟩:=h;rfl
  · obtain ⟨a,ns,m,rfl,ha,hr',k⟩:=h;refine ⟨_,(Ad (A7 (Cn (Bs (Al (CY (K:=K)) rfl (T.own _ (by decide)) boot_isinstance (Aa (pv 0) (Aa (EG rfl (T.own _ (by decide)) A6) Ab))))) (Ah (An ED)) Az)
      (Ad (Ao (i:=2) sc_is_rising.nd rfl (Or.inl rfl) Ae)
      (Ad (BW PassesOwn.never rfl (BC (K:=K) (pv 0)) (AO (i:=3) sc_is_rising.nd rfl (Or.inl rfl)) (Ad (A7 (Cn (Bs (Ag c_is_among hr (Aa (pv 3) (Aa (Ak AG (pv 2) Ae) (Aa (pv 1) Ab)))))) (Ah (An ED)) Az)
      (Ah (Ao (i:=2) sc_is_rising.nd rfl (Or.inl rfl) (pv 3)))))
      (Ah (An ED))))),?_⟩
    walk_at "w";refine A1 (.lst ha) (kb (b:=true) (by decide +kernel)) ?_;walk_at "w";refine ⟨a,rfl,⟨_,SqL.of ha⟩,Cq (Je (SqL.of ha)) (λ i σ H3=>∃ x,σ=[some (.ref a),some (nV m),some (nV ((0::ns).getD i 0)),x]/\Same H H3) ⟨_,rfl,Same.refl _⟩ (λ i σ H3 ⟨_,_,s⟩=>s) ?_ ?_⟩
    · rintro i σ H' H3 hi ⟨x,rfl,s'⟩ s3;have hi':i<ns.length:=by simpa using hi
      have hq:=hr' i hi';rw [Bb hi];walk_at "w";refine ⟨_,_,_,rfl,⟨_, .int _⟩,?_⟩;walk_at "w";have e:Bx (.int (ns.getD i 0:Nat)) (((0::ns).getD i 0:Nat)+1) (m:Nat)=true:=by
        show (decide ((((0::ns).getD i 0:Nat):Int)+1<=(ns.getD i 0:Nat))&&decide (((ns.getD i 0:Nat):Int)<=(m:Nat)))=true;simp only [Bool.and_eq_true,decide_eq_true_eq];omega
      rw [e];refine Fh ?_;walk_at "w";exact ⟨_,rfl,s'.trans s3⟩
    · rintro σ H3 ⟨x,rfl,s3⟩;walk_at "w";exact k H3 s3
def EC:Sp:=λ vs H Q _=>∃ v ls m,vs=[v,nV m]/\Rp H FT 2 v (dLL ls)/\(∀ l∈ls,Rise m l)/\∀ H',Same H H'->Q (.bl true) H'
noncomputable abbrev Dc:Stmt:=top 34
theorem Iq:FnScope ["thing","most"] ["thing","most"] (Af Dc):=⟨rfl,rfl,rfl,by decide +kernel,rfl,by decide +kernel,by decide +kernel⟩
theorem HV {f:Addr} {fd:FuncData} (F:Fun K "are_rising" "are_rising" Dc f fd) (T:Txt K mg c) (c_is_rising:Aw P w K mg base "is_rising" 3 ["thing","most"] Fg):FnOk P w K mg base CX0 4 f fd ["thing","most"] EC:=by
  refine F.ok Iq (λ vs H Q E h=> ?_) (λ cdv A outer s H vs Q E hr h=> ?_)
  · obtain ⟨v,ls,m,rfl,_⟩:=h;rfl
  · obtain ⟨v,ls,m,rfl,rv,hr',k⟩:=h;obtain ⟨m',a,vs,em,rfl,ha,_,hl,hb,el⟩:=BG rv;cases em;rw [List.length_map] at hl;refine ⟨_,(Ah (An (Al (JU (K:=K)) rfl (T.own _ (by decide)) CT (Aa (Au (BC (K:=K) (pv 0)) (λ _ _ _ _=>Ax) (λ _ _ _ _=>(Ag c_is_rising hr (Aa (pv 0) (Aa (pv 1) Ab))))) Ab)))),?_⟩;walk_at "w";refine ⟨a,rfl,⟨_,SqL.of ha⟩,λ D hD=> ?_⟩;refine CP (G:=λ _=>true) (A4 (SqL.of ha) rfl) hD hb ?_ ?_
    · intro i H' R hi s kk;have hi':i<ls.length:=by omega
      have r:=el i (by simpa using hi');rw [AM dL ls i .non [] hi'] at r;obtain ⟨b,eb,hb2,_,_⟩:=CO r;rw [eb];walk_at "w";exact ⟨b,_,m,rfl,s _ _ hb2,hr' _ (AA hi'),kk⟩
    · intro H' s hl2;walk_at "w";refine FE (SqL.of hl2) ?_;refine FZ ?_ (k H' s);simp
def DS:Sp:=λ vs H Q _=>∃ (a:Addr) (zs:List Str),vs=[.ref a,nV zs.length]/\H a=some (.lst (zs.map V.str))/\zs.length<=1000/\(∀ z∈zs,JY z)/\∀ H',Same H H'->Q (.bl true) H'
noncomputable abbrev Cz:Stmt:=top 35
theorem GF:FnScope ["thing","many"] ["thing","many"] (Af Cz):=⟨rfl,rfl,rfl,by decide +kernel,rfl,by decide +kernel,by decide +kernel⟩
theorem GY {f:Addr} {fd:FuncData} (F:Fun K "are_colours" "are_colours" Cz f fd) (T:Txt K mg c) (c_is_list:Aw P w K mg base "is_list" 3 ["thing","least","most"] EW) (c_is_colour:Aw P w K mg base "is_colour" 1 ["thing"] Fk):FnOk P w K mg base CX0 4 f fd ["thing","many"] DS:=by
  refine F.ok GF (λ vs H Q E h=> ?_) (λ cdv A outer s H vs Q E hr h=> ?_)
  · obtain ⟨a,zs,rfl,_⟩:=h;rfl
  · obtain ⟨a,zs,rfl,ha,hz,hc,k⟩:=h;refine ⟨_,(Ah (An (De (Ag c_is_list hr (Aa (pv 0) (Aa (pv 1) (Aa (pv 1) Ab)))) (EJ (Al (JU (K:=K)) rfl (T.own _ (by decide)) CT (Aa (Au (BC (K:=K) (pv 0)) (λ _ _ _ _=>Ax) (λ _ _ _ _=>(Ag c_is_colour (hr.mono (by decide)) (Aa (pv 0) Ab)))) Ab)))))),?_⟩;walk_at "w";refine ⟨a,_,_,_,rfl,ha,by simp,by simp,?_⟩;walk_at "w";refine ⟨a,rfl,⟨_,SqL.of ha⟩,λ D hD=> ?_⟩;refine CP (G:=λ _=>true) (A4 (SqL.of ha) rfl) hD (by rw [List.length_map];omega) ?_ ?_
    · intro i H' R hi s kk;have hi':i<zs.length:=by simpa using hi
      rw [Fj hi];walk_at "w";exact ⟨_,rfl,hc _ (AA hi'),kk H' (Same.refl _)⟩
    · intro H' s hl2;walk_at "w";refine FE (SqL.of hl2) ?_;refine FZ ?_ (k H' s);simp
structure Dr where
  sh:Nat
  tr:Nat
  th:List Nat
  ti:List (List Nat)
  td:List (List Nat)
  wa:List Str
  we:List Str
structure DrOk (d:Dr):Prop where
  s1:1<=d.sh
  s2:d.sh<=16
  t1:1<=d.tr
  t2:d.tr<=16
  h1:1<=d.th.length
  h2:d.th.length<=60
  hs:∀ n∈d.th,n<=d.sh
  il:d.ti.length=d.tr
  ir:∀ l∈d.ti,Rise d.sh l
  p1:1<=d.td.length
  p2:d.td.length<=60
  pr:∀ l∈d.td,Rise d.tr l
  wl:d.wa.length=d.th.length
  wc:∀ z∈d.wa,JY z
  fl:d.we.length=d.td.length
  fc:∀ z∈d.we,JY z
structure Parts (H:Hp) (d:Dr) (vs:List V):Prop where
  ex:∃ a1 v2 v3 a4 a5,vs=[nV d.sh,nV d.tr, .ref a1,v2,v3, .ref a4, .ref a5]/\H a1=some (.lst (d.th.map nV))/\Rp H FT 2 v2 (dLL d.ti)/\Rp H FT 2 v3 (dLL d.td)/\H a4=some (.lst (d.wa.map V.str))/\H a5=some (.lst (d.we.map V.str))
theorem Parts.same {H H':Hp} {d:Dr} {vs:List V} (p:Parts H d vs) (s:Same H H'):Parts H' d vs:=by
  obtain ⟨a1,v2,v3,a4,a5,e,h1,h2,h3,h4,h5⟩:=p.ex;exact ⟨a1,v2,v3,a4,a5,e,s _ _ h1,h2.same s,h3.same s,s _ _ h4,s _ _ h5⟩
theorem am {n:Nat} {lo hi:Int} (h1:lo<=n) (h2:(n:Int)<=hi):Bx (nV n) lo hi=true:=by
  show (decide (lo<=(n:Nat))&&decide (((n:Nat):Int)<=hi))=true;simp [h1,h2]
def Et:Sp:=λ vs H Q _=>∃ d,Parts H d vs/\DrOk d/\∀ H',Same H H'->Q .non H'
noncomputable abbrev C7:Stmt:=top 36
theorem Im:FnScope ["shafts","treadles","threading","ties","treading","warp","weft"] ["shafts","treadles","threading","ties","treading","warp","weft"] (Af C7):=⟨rfl,rfl,rfl,by decide +kernel,rfl,by decide +kernel,by decide +kernel⟩
theorem HH {f:Addr} {fd:FuncData} (F:Fun K "need_draft" "need_draft" C7 f fd) (T:Txt K mg c) (c_need:Aw P w K mg base "need" 1 ["holds","words"] LM) (c_is_among:Aw P w K mg base "is_among" 2 ["thing","least","most"] (BR K)) (c_is_list:Aw P w K mg base "is_list" 3 ["thing","least","most"] EW) (c_are_rising:Aw P w K mg base "are_rising" 4 ["thing","most"] EC) (c_are_colours:Aw P w K mg base "are_colours" 4 ["thing","many"] DS):FnOk P w K mg base CX0 5 f fd ["shafts","treadles","threading","ties","treading","warp","weft"] Et:=by
  refine F.ok Im (λ vs H Q E h=> ?_) (λ cdv A outer s H vs Q E hr h=> ?_)
  · obtain ⟨d,⟨a1,v2,v3,a4,a5,rfl,_⟩,_⟩:=h;rfl
  · obtain ⟨d,⟨a1,v2,v3,a4,a5,rfl,h1,h2,h3,h4,h5⟩,ok,k⟩:=h;obtain ⟨m2,a2,vs2,em2,rfl,ha2,_,hl2,hb2,el2⟩:=BG h2;obtain ⟨m3,a3,vs3,em3,rfl,ha3,_,hl3,hb3,el3⟩:=BG h3;rw [List.length_map] at hl2 hl3;refine ⟨_,(Ad (AT (Ag c_need (hr.mono (by decide)) (Aa (Ag c_is_among (hr.mono (by decide)) (Aa (pv 0) (Aa Ae (Aa (IW T.k_MOST_SHAFTS) Ab)))) (Aa Ap Ab))))
      (Ad (AT (Ag c_need (hr.mono (by decide)) (Aa (Ag c_is_among (hr.mono (by decide)) (Aa (pv 1) (Aa Ae (Aa (IW T.k_MOST_TREADLES) Ab)))) (Aa Ap Ab))))
      (Ad (AT (Ag c_need (hr.mono (by decide)) (Aa (Ag c_is_list (hr.mono (by decide)) (Aa (pv 2) (Aa Ae (Aa (IW T.k_MOST_ENDS) Ab)))) (Aa Ap Ab))))
      (Ad (AT (Ag c_need (hr.mono (by decide)) (Aa (Al (JU (K:=K)) rfl (T.own _ (by decide)) CT (Aa (Au (BC (K:=K) (pv 2)) (λ _ _ _ _=>Ax) (λ _ _ _ _=>(Ag c_is_among (hr.mono (by decide)) (Aa (pv 0) (Aa Ae (Aa (pv 1) Ab)))))) Ab)) (Aa Ap Ab))))
      (Ad (AT (Ag c_need (hr.mono (by decide)) (Aa (Ag c_is_list (hr.mono (by decide)) (Aa (pv 3) (Aa (pv 1) (Aa (pv 1) Ab)))) (Aa Ap Ab))))
      (Ad (AT (Ag c_need (hr.mono (by decide)) (Aa (Ag c_are_rising hr (Aa (pv 3) (Aa (pv 0) Ab))) (Aa Ap Ab))))
      (Ad (AT (Ag c_need (hr.mono (by decide)) (Aa (Ag c_is_list (hr.mono (by decide)) (Aa (pv 4) (Aa Ae (Aa (IW T.k_MOST_PICKS) Ab)))) (Aa Ap Ab))))
      (Ad (AT (Ag c_need (hr.mono (by decide)) (Aa (Ag c_are_rising hr (Aa (pv 4) (Aa (pv 1) Ab))) (Aa Ap Ab))))
      (Ad (AT (Ag c_need (hr.mono (by decide)) (Aa (Ag c_are_colours hr (Aa (pv 5) (Aa (Al (Bd (K:=K)) rfl (T.own _ (by decide)) boot_len (Aa (pv 2) Ab)) Ab))) (Aa Ap Ab))))
      (Ah (AT (Ag c_need (hr.mono (by decide)) (Aa (Ag c_are_colours hr (Aa (pv 6) (Aa (Al (Bd (K:=K)) rfl (T.own _ (by decide)) boot_len (Aa (pv 4) Ab)) Ab))) (Aa Ap Ab)))))))))))))),?_⟩
    walk_at "w";refine ⟨_,_,_,rfl,⟨_, .int _⟩,?_⟩;walk_at "w";rw [am (by have:=ok.s1;omega) (by have:=ok.s2;omega)];refine ⟨_,rfl,?_⟩;walk_at "w";refine ⟨_,_,_,rfl,⟨_, .int _⟩,?_⟩;walk_at "w";rw [am (by have:=ok.t1;omega) (by have:=ok.t2;omega)];refine ⟨_,rfl,?_⟩;walk_at "w";refine ⟨a1,_,_,_,rfl,h1,by have:=ok.h1;simp;omega,by have:=ok.h2;simp;omega,?_⟩;walk_at "w";refine ⟨_,rfl,?_⟩;walk_at "w";refine ⟨a1,rfl,⟨_,SqL.of h1⟩,λ D hD=> ?_⟩;refine CP (G:=λ _=>true) (A4 (SqL.of h1) rfl) hD (by have:=ok.h2;rw [List.length_map];omega) ?_ ?_
    · intro i H' R hi s kk;have hi':i<d.th.length:=by simpa using hi
      rw [Bb hi];walk_at "w";refine ⟨_,_,_,rfl,⟨_, .int _⟩,?_⟩;have:=ok.hs _ (AA (y:=0) hi');rw [am (by omega) (by omega)];exact kk H' (Same.refl _)
    intro H1 s1 hl1;walk_at "w";refine FE (SqL.of hl1) ?_;rw [show ((List.range (d.th.map nV).length).map λ _=>true).all id=true by simp];walk_at "w";refine ⟨_,rfl,?_⟩;walk_at "w";refine ⟨a2,_,_,_,rfl,s1 _ _ ha2,by have:=ok.il;omega,by have:=ok.il;omega,?_⟩;walk_at "w";refine ⟨_,rfl,?_⟩;walk_at "w";refine ⟨_,d.ti,d.sh,rfl,h2.same s1,ok.ir,λ H2 s2=> ?_⟩;walk_at "w";refine ⟨_,rfl,?_⟩;walk_at "w";have s12:=s1.trans s2;refine ⟨a3,_,_,_,rfl,s12 _ _ ha3,by have:=ok.p1;omega,by have:=ok.p2;omega,?_⟩;walk_at "w";refine ⟨_,rfl,?_⟩;walk_at "w";refine ⟨_,d.td,d.tr,rfl,h3.same s12,ok.pr,λ H3 s3=> ?_⟩;have s13:=s12.trans s3;walk_at "w";refine ⟨_,rfl,?_⟩;walk_at "w";refine AQ (SqL.of (s13 _ _ h1)) ?_;walk_at "w";refine ⟨a4,d.wa,by rw [List.length_map,ok.wl],s13 _ _ h4,by have:=ok.wl;have:=ok.h2;omega,ok.wc,λ H4 s4=> ?_⟩;have s14:=s13.trans s4;walk_at "w";refine ⟨_,rfl,?_⟩;walk_at "w";refine AQ (SqL.of (s14 _ _ ha3)) ?_;walk_at "w";refine ⟨a5,d.we,by rw [hl3,ok.fl],s14 _ _ h5,by have:=ok.fl;have:=ok.p2;omega,ok.fc,λ H5 s5=> ?_⟩;walk_at "w";refine ⟨_,rfl,?_⟩;walk_at "w";exact k _ (s14.trans s5)
def DrAt (C:Addr) (H:Hp) (x:Addr) (d:Dr):Prop:=∃ dx v1 v2 v3 v4 v5,H x=some (.ins C dx [("shafts",nV d.sh),("treadles",nV d.tr),("threading",v1),("ties",v2),("treading",v3),("warp",v4),("weft",v5)])/\
  Rp H FT 1 v1 (dT d.th)/\Rp H FT 2 v2 (dTT d.ti)/\Rp H FT 2 v3 (dTT d.td)/\Rp H FT 1 v4 (dST d.wa)/\Rp H FT 1 v5 (dST d.we)
theorem DrAt.same {C:Addr} {H H':Hp} {x:Addr} {d:Dr} (h:DrAt C H x d) (s:Same H H'):DrAt C H' x d:=by
  obtain ⟨dx,v1,v2,v3,v4,v5,h0,h1,h2,h3,h4,h5⟩:=h;exact ⟨dx,v1,v2,v3,v4,v5,s _ _ h0,h1.same s,h2.same s,h3.same s,h4.same s,h5.same s⟩
def Bz (c:Cs):Sp:=λ vs H Q _=>∃ (x dx:Addr) (ws:List V) (d:Dr),vs= .ref x::ws/\H x=some (.ins c.Draft dx [])/\Parts H d ws/\DrOk d/\∀ H',But x H H'->DrAt c.Draft H' x d->Q .non H'
noncomputable abbrev BH:Stmt:=Aq (top 37) 0
theorem Fb:FnScope ["self","shafts","treadles","threading","ties","treading","warp","weft"] ["self","shafts","treadles","threading","ties","treading","warp","weft"] (Af BH):=⟨rfl,rfl,rfl,by decide +kernel,rfl,by decide +kernel,by decide +kernel⟩
theorem Fm {f:Addr} {fd:FuncData} (F:Fun K "__init__" "Draft.__init__" BH f fd) (T:Txt K mg c) (c_need_draft:Aw P w K mg base "need_draft" 5 ["shafts","treadles","threading","ties","treading","warp","weft"] Et):FnOk P w K mg base CX0 6 f fd ["self","shafts","treadles","threading","ties","treading","warp","weft"] (Bz c):=by
  refine F.ok Fb (λ vs H Q E h=> ?_) (λ cdv A outer s H vs Q E hr h=> ?_)
  · obtain ⟨x,dx,ws,d,rfl,_,⟨a1,v2,v3,a4,a5,rfl,_⟩,_⟩:=h;rfl
  · obtain ⟨x,dx,ws,d,rfl,hx,ps,ok,k⟩:=h;have ps0:=ps;obtain ⟨a1,v2,v3,a4,a5,rfl,h1,h2,h3,h4,h5⟩:=ps;refine ⟨_,(Ad (AT (Ag c_need_draft hr (Aa (pv 1) (Aa (pv 2) (Aa (pv 3) (Aa (pv 4) (Aa (pv 5) (Aa (pv 6) (Aa (pv 7) Ab)))))))))
      (Ad (Bm (pv 0) (pv 1) rfl)
      (Ad (Bm (pv 0) (pv 2) rfl)
      (Ad (Bm (pv 0) (AJ (Cr (K:=K)) rfl (T.own _ (by decide)) A0 (Aa (pv 3) Ab)) rfl)
      (Ad (Bm (pv 0) (AJ (Cr (K:=K)) rfl (T.own _ (by decide)) A0 (Aa (Au (BC (K:=K) (pv 4)) (λ _ _ _ _=>Ax) (λ _ _ _ _=>(AJ (Cr (K:=K)) rfl (T.own _ (by decide)) A0 (Aa (pv 0) Ab)))) Ab)) rfl)
      (Ad (Bm (pv 0) (AJ (Cr (K:=K)) rfl (T.own _ (by decide)) A0 (Aa (Au (BC (K:=K) (pv 5)) (λ _ _ _ _=>Ax) (λ _ _ _ _=>(AJ (Cr (K:=K)) rfl (T.own _ (by decide)) A0 (Aa (pv 0) Ab)))) Ab)) rfl)
      (Ad (Bm (pv 0) (AJ (Cr (K:=K)) rfl (T.own _ (by decide)) A0 (Aa (pv 6) Ab)) rfl)
      (Ah (Bm (pv 0) (AJ (Cr (K:=K)) rfl (T.own _ (by decide)) A0 (Aa (pv 7) Ab)) rfl))))))))),?_⟩
    walk_at "w";refine ⟨d,ps0,ok,λ H1 s1=> ?_⟩;walk_at "w";have B:But x H H1:=But.of s1;have hx1:=s1 _ _ hx;refine Be hx1 T.kd_Draft.cl T.na_Draft_shafts (by decide) ?_;replace B:=B.put (o:=HO.ins c.Draft dx (AR "shafts" (nV d.sh) []));have hx2:upd H1 x (HO.ins c.Draft dx (AR "shafts" (nV d.sh) [])) x=_:=Ac;generalize upd H1 x (HO.ins c.Draft dx (AR "shafts" (nV d.sh) []))=H2 at B hx2 ⊢;walk_at "w";refine Be hx2 T.kd_Draft.cl T.na_Draft_treadles (by show 1<1000;decide) ?_;replace B:=B.put (o:=HO.ins c.Draft dx (AR "treadles" (nV d.tr) (AR "shafts" (nV d.sh) [])));have hx3:upd H2 x (HO.ins c.Draft dx (AR "treadles" (nV d.tr) (AR "shafts" (nV d.sh) []))) x=_:=Ac;generalize upd H2 x (HO.ins c.Draft dx (AR "treadles" (nV d.tr) (AR "shafts" (nV d.sh) [])))=H3 at B hx3 ⊢;walk_at "w";refine BS (SqL.of (B _ _ h1 (Ee h1 hx (by intro z;cases z)))) λ t1 ht1=> ?_;walk_at "w";have hx3':=Ai (o:=HO.tup (d.th.map nV)) ht1 _ _ hx3;have r1:Rp (upd H3 t1 (HO.tup (d.th.map nV))) FT 1 (.ref t1) (dT d.th):=Mh Ac (by have:=ok.h2;omega);replace B:=B.same (Ai (o:=HO.tup (d.th.map nV)) ht1);generalize upd H3 t1 (HO.tup (d.th.map nV))=H4 at B hx3' r1 ⊢;refine Be hx3' T.kd_Draft.cl T.na_Draft_threading (by show 2<1000;decide) ?_;replace r1:=r1.ins (o:=HO.ins c.Draft dx (AR "threading" (.ref t1) (AR "treadles" (nV d.tr) (AR "shafts" (nV d.sh) [])))) hx3';replace B:=B.put (o:=HO.ins c.Draft dx (AR "threading" (.ref t1) (AR "treadles" (nV d.tr) (AR "shafts" (nV d.sh) []))));have hx5:upd H4 x (HO.ins c.Draft dx (AR "threading" (.ref t1) (AR "treadles" (nV d.tr) (AR "shafts" (nV d.sh) [])))) x=_:=Ac;generalize upd H4 x (HO.ins c.Draft dx (AR "threading" (.ref t1) (AR "treadles" (nV d.tr) (AR "shafts" (nV d.sh) []))))=H5 at B hx5 r1 ⊢;walk_at "w";obtain ⟨m2,a2,vs2,em2,rfl,ha2,_,hl2,hb2,el2⟩:=BG (B.rp hx h2);cases em2;rw [List.length_map] at hl2;refine ⟨a2,rfl,⟨_,SqL.of ha2⟩,λ D hD=> ?_⟩;refine AF (m:=1) (G:=λ i=>dT (d.ti.getD i [])) (A4 (SqL.of ha2) rfl) hD hb2 ?_ ?_
    · intro i H' R hi s kk;have hi':i<d.ti.length:=by omega
      have r:=el2 i (by simpa using hi');rw [AM dL d.ti i .non [] hi'] at r;obtain ⟨b,eb,hb3,_,hb4⟩:=CO r;rw [eb];walk_at "w";exact BS (SqL.of (s _ _ hb3)) λ q hq=>kk _ _ (Ai hq) (Mh Ac hb4)
    intro H6 ys s6 hl6 r2;rw [hl2,P6] at r2;walk_at "w";refine BS (SqL.of hl6) λ t2 ht2=> ?_;walk_at "w";replace r2:Rp (upd H6 t2 (HO.tup ys)) FT 2 (.ref t2) (dTT d.ti):=(r2.tupd hl6 ht2).any;have s62:=s6.trans (Ai (o:=HO.tup ys) ht2);replace B:=B.same s62;replace r1:=r1.same s62;have hx6:=s62 _ _ hx5;generalize upd H6 t2 (HO.tup ys)=H7 at B hx6 r1 r2 ⊢;refine Be hx6 T.kd_Draft.cl T.na_Draft_ties (by show 3<1000;decide) ?_;generalize ef:AR "ties" (V.ref t2) _=f7;replace r1:=r1.ins (o:=HO.ins c.Draft dx f7) hx6;replace r2:=r2.ins (o:=HO.ins c.Draft dx f7) hx6;replace B:=B.put (o:=HO.ins c.Draft dx f7);have hx8:upd H7 x (HO.ins c.Draft dx f7) x=_:=Ac;generalize upd H7 x (HO.ins c.Draft dx f7)=H8 at B hx8 r1 r2 ⊢;subst ef;walk_at "w";obtain ⟨m3,a3,vs3,em3,rfl,ha3,_,hl3,hb3,el3⟩:=BG (B.rp hx h3);cases em3;rw [List.length_map] at hl3;refine ⟨a3,rfl,⟨_,SqL.of ha3⟩,λ D hD=> ?_⟩;refine AF (m:=1) (G:=λ i=>dT (d.td.getD i [])) (A4 (SqL.of ha3) rfl) hD hb3 ?_ ?_
    · intro i H' R hi s kk;have hi':i<d.td.length:=by omega
      have r:=el3 i (by simpa using hi');rw [AM dL d.td i .non [] hi'] at r;obtain ⟨b,eb,hb3,_,hb4⟩:=CO r;rw [eb];walk_at "w";exact BS (SqL.of (s _ _ hb3)) λ q hq=>kk _ _ (Ai hq) (Mh Ac hb4)
    intro H9 ys9 s9 hl9 r3;rw [hl3,P6] at r3;walk_at "w";refine BS (SqL.of hl9) λ t3 ht3=> ?_;walk_at "w";replace r3:Rp (upd H9 t3 (HO.tup ys9)) FT 2 (.ref t3) (dTT d.td):=(r3.tupd hl9 ht3).any;have s93:=s9.trans (Ai (o:=HO.tup ys9) ht3);replace B:=B.same s93;replace r1:=r1.same s93;replace r2:=r2.same s93;have hx9:=s93 _ _ hx8;generalize upd H9 t3 (HO.tup ys9)=HA at B hx9 r1 r2 r3 ⊢;refine Be hx9 T.kd_Draft.cl T.na_Draft_treading (by show 4<1000;decide) ?_;generalize ef:AR "treading" (V.ref t3) _=f9;replace r1:=r1.ins (o:=HO.ins c.Draft dx f9) hx9;replace r2:=r2.ins (o:=HO.ins c.Draft dx f9) hx9;replace r3:=r3.ins (o:=HO.ins c.Draft dx f9) hx9;replace B:=B.put (o:=HO.ins c.Draft dx f9);have hxB:upd HA x (HO.ins c.Draft dx f9) x=_:=Ac;generalize upd HA x (HO.ins c.Draft dx f9)=HB at B hxB r1 r2 r3 ⊢;subst ef;walk_at "w";refine BS (SqL.of (B _ _ h4 (Ee h4 hx (by intro z;cases z)))) λ t4 ht4=> ?_;walk_at "w";have r4:Rp (upd HB t4 (HO.tup (d.wa.map V.str))) FT 1 (.ref t4) (dST d.wa):=P5 Ac (by have:=ok.h2;have:=ok.wl;omega);have sB:=Ai (o:=HO.tup (d.wa.map V.str)) ht4;replace B:=B.same sB;replace r1:=r1.same sB;replace r2:=r2.same sB;replace r3:=r3.same sB;replace hxB:=sB _ _ hxB;generalize upd HB t4 (HO.tup (d.wa.map V.str))=HC at B hxB r1 r2 r3 r4 ⊢;refine Be hxB T.kd_Draft.cl T.na_Draft_warp (by show 5<1000;decide) ?_;generalize ef:AR "warp" (V.ref t4) _=fC;replace r1:=r1.ins (o:=HO.ins c.Draft dx fC) hxB;replace r2:=r2.ins (o:=HO.ins c.Draft dx fC) hxB;replace r3:=r3.ins (o:=HO.ins c.Draft dx fC) hxB;replace r4:=r4.ins (o:=HO.ins c.Draft dx fC) hxB;replace B:=B.put (o:=HO.ins c.Draft dx fC);have hxD:upd HC x (HO.ins c.Draft dx fC) x=_:=Ac;generalize upd HC x (HO.ins c.Draft dx fC)=HD at B hxD r1 r2 r3 r4 ⊢;subst ef;walk_at "w";refine BS (SqL.of (B _ _ h5 (Ee h5 hx (by intro z;cases z)))) λ t5 ht5=> ?_;walk_at "w";have r5:Rp (upd HD t5 (HO.tup (d.we.map V.str))) FT 1 (.ref t5) (dST d.we):=P5 Ac (by have:=ok.p2;have:=ok.fl;omega);have sD:=Ai (o:=HO.tup (d.we.map V.str)) ht5;replace B:=B.same sD;replace r1:=r1.same sD;replace r2:=r2.same sD;replace r3:=r3.same sD;replace r4:=r4.same sD;replace hxD:=sD _ _ hxD;generalize upd HD t5 (HO.tup (d.we.map V.str))=HE at B hxD r1 r2 r3 r4 r5 ⊢;refine Be hxD T.kd_Draft.cl T.na_Draft_weft (by show 6<1000;decide) ?_;generalize ef:AR "weft" (V.ref t5) _=fE;replace r1:=r1.ins (o:=HO.ins c.Draft dx fE) hxD;replace r2:=r2.ins (o:=HO.ins c.Draft dx fE) hxD;replace r3:=r3.ins (o:=HO.ins c.Draft dx fE) hxD;replace r4:=r4.ins (o:=HO.ins c.Draft dx fE) hxD;replace r5:=r5.ins (o:=HO.ins c.Draft dx fE) hxD;replace B:=B.put (o:=HO.ins c.Draft dx fE);have hxF:upd HD x (HO.ins c.Draft dx fE) x=_:=Ac;walk_at "w";subst ef;exact k _ B ⟨dx,_,_,_,_,_,Ac,r1,r2,r3,r4,r5⟩
theorem PV {c:Cs} {H:Hp} {Q:VK} {d:Dr} {ws:List V} (ps:Parts H d ws) (ok:DrOk d) (h:∀ H' x,Same H H'->H x=none->DrAt c.Draft H' x d->Q (.ref x) H'):
    ∀ x dx,H x=none->H dx=none->dx≠x->Bz c (.ref x::ws) (upd (upd H dx (.own x)) x (.ins c.Draft dx [])) (λ v H2=>v= .non/\Q (.ref x) H2) E0:=by
  intro x dx hx hdx ne;have s0:=DF (o:=HO.ins c.Draft dx []) (u:= .own x) hx hdx;exact ⟨x,dx,ws,d,rfl,Ac,ps.same s0,ok,λ H' B at'=>⟨rfl,h H' x (λ b o e=>B b o (s0 b o e) (Av e hx)) hx at'⟩⟩
noncomputable def dDr (d:Dr):Dt:= .tup [dN d.sh,dN d.tr,dL d.th,dLL d.ti,dLL d.td,dS d.wa,dS d.we]
def Ep (c:Cs):Sp:=λ vs H Q _=>∃ x d,vs=[.ref x]/\DrAt c.Draft H x d/\∀ H' p,Same H H'->H p=none->Rp H' (FN H) 3 (.ref p) (dDr d)->Q (.ref p) H'
noncomputable abbrev Dh:Stmt:=Aq (top 37) 1
theorem HI:FnScope ["self"] ["self"] (Af Dh):=⟨rfl,rfl,rfl,by decide +kernel,rfl,by decide +kernel,by decide +kernel⟩
theorem HL {f:Addr} {fd:FuncData} (F:Fun K "told" "Draft.told" Dh f fd) (T:Txt K mg c):FnOk P w K mg base CX0 1 f fd ["self"] (Ep c):=by
  refine F.ok HI (λ vs H Q E h=> ?_) (λ cdv A outer s H vs Q E hr h=> ?_)
  · obtain ⟨x,d,rfl,_⟩:=h;rfl
  · obtain ⟨x,d,rfl,⟨dx,v1,v2,v3,v4,v5,h0,h1,h2,h3,h4,h5⟩,k⟩:=h;obtain ⟨a1,rfl,e1,b1⟩:=Dx h1;obtain ⟨m2,a2,vs2,em2,rfl,e2,l2,b2,el2⟩:=BX h2;cases em2;obtain ⟨m3,a3,vs3,em3,rfl,e3,l3,b3,el3⟩:=BX h3;cases em3;obtain ⟨a4,rfl,e4,b4⟩:=Np h4;obtain ⟨a5,rfl,e5,b5⟩:=Np h5;rw [List.length_map] at l2 l3;refine ⟨_,(Ah (An (AB (Aa (AV (K:=K) (pv 0) rfl) (Aa (AV (K:=K) (pv 0) rfl) (Aa (AJ (ET (K:=K)) rfl (T.own _ (by decide)) A6 (Aa (AV (K:=K) (pv 0) rfl) Ab)) (Aa (Au (II (K:=K) (AV (K:=K) (pv 0) rfl)) (λ _ _ _ _=>Ax) (λ _ _ _ _=>(AJ (ET (K:=K)) rfl (T.own _ (by decide)) A6 (Aa (pv 0) Ab)))) (Aa (Au (II (K:=K) (AV (K:=K) (pv 0) rfl)) (λ _ _ _ _=>Ax) (λ _ _ _ _=>(AJ (ET (K:=K)) rfl (T.own _ (by decide)) A6 (Aa (pv 0) Ab)))) (Aa (AJ (ET (K:=K)) rfl (T.own _ (by decide)) A6 (Aa (AV (K:=K) (pv 0) rfl) Ab)) (Aa (AJ (ET (K:=K)) rfl (T.own _ (by decide)) A6 (Aa (AV (K:=K) (pv 0) rfl) Ab)) Ab)))))))))),?_⟩;walk_at "w";refine ⟨_,_,_,_,_,rfl,h0,T.kd_Draft.cl,T.na_Draft_shafts,rfl,?_⟩;walk_at "w";refine ⟨_,_,_,_,_,rfl,h0,T.kd_Draft.cl,T.na_Draft_treadles,rfl,?_⟩;walk_at "w";refine ⟨_,_,_,_,_,rfl,h0,T.kd_Draft.cl,T.na_Draft_threading,rfl,?_⟩;walk_at "w";refine Bt (SqT.of e1) λ p1 hp1=> ?_;walk_at "w";have s1:=Ai (o:=HO.lst (d.th.map nV)) hp1;have r1:Rp (upd H p1 (HO.lst (d.th.map nV))) (FN H) 2 (.ref p1) (dL d.th):=Gb Ac hp1 b1;generalize upd H p1 (HO.lst (d.th.map nV))=H1 at s1 r1 ⊢;refine ⟨_,_,_,_,_,rfl,s1 _ _ h0,T.kd_Draft.cl,T.na_Draft_ties,rfl,?_⟩;walk_at "w";refine ⟨a2,rfl,⟨_,SqT.of (s1 _ _ e2)⟩,λ D2 hD2=> ?_⟩;refine AF (m:=1) (G:=λ i=>dL (d.ti.getD i [])) (Dp (SqT.of (s1 _ _ e2)) rfl) hD2 b2 ?_ ?_
    · intro i H' R hi s kk;have hi':i<d.ti.length:=by omega
      have r:=el2 i (by simpa using hi');rw [AM dT d.ti i .non [] hi'] at r;obtain ⟨b,eb,hb3,hb4⟩:=Dx r;rw [eb];walk_at "w";exact Bt (SqT.of (s _ _ (s1 _ _ hb3))) λ q hq=>kk _ _ (Ai hq) (Gb Ac hq hb4)
    intro H2 ys2 s2 hl2 r2;rw [l2,Qc] at r2;replace r2:Rp H2 (FN H) 2 (.ref D2) (dLL d.ti):=r2.imp λ a ha=>s1.free ha;have s02:=s1.trans s2;walk_at "w";refine ⟨_,_,_,_,_,rfl,s02 _ _ h0,T.kd_Draft.cl,T.na_Draft_treading,rfl,?_⟩;walk_at "w";refine ⟨a3,rfl,⟨_,SqT.of (s02 _ _ e3)⟩,λ D3 hD3=> ?_⟩;refine AF (m:=1) (G:=λ i=>dL (d.td.getD i [])) (Dp (SqT.of (s02 _ _ e3)) rfl) hD3 b3 ?_ ?_
    · intro i H' R hi s kk;have hi':i<d.td.length:=by omega
      have r:=el3 i (by simpa using hi');rw [AM dT d.td i .non [] hi'] at r;obtain ⟨b,eb,hb3,hb4⟩:=Dx r;rw [eb];walk_at "w";exact Bt (SqT.of (s _ _ (s02 _ _ hb3))) λ q hq=>kk _ _ (Ai hq) (Gb Ac hq hb4)
    intro H3 ys3 s3 hl3 r3;rw [l3,Qc] at r3;replace r3:Rp H3 (FN H) 2 (.ref D3) (dLL d.td):=r3.imp λ a ha=>s02.free ha;have s03:=s02.trans s3;walk_at "w";refine ⟨_,_,_,_,_,rfl,s03 _ _ h0,T.kd_Draft.cl,T.na_Draft_warp,rfl,?_⟩;walk_at "w";refine Bt (SqT.of (s03 _ _ e4)) λ p4 hp4=> ?_;walk_at "w";have s4:=Ai (o:=HO.lst (d.wa.map V.str)) hp4;have r4:Rp (upd H3 p4 (HO.lst (d.wa.map V.str))) (FN H) 2 (.ref p4) (dS d.wa):=X3 Ac (s03.free hp4) b4;generalize upd H3 p4 (HO.lst (d.wa.map V.str))=H4 at s4 r4 ⊢;have s04:=s03.trans s4;refine ⟨_,_,_,_,_,rfl,s04 _ _ h0,T.kd_Draft.cl,T.na_Draft_weft,rfl,?_⟩;walk_at "w";refine Bt (SqT.of (s04 _ _ e5)) λ p5 hp5=> ?_;walk_at "w";have s5:=Ai (o:=HO.lst (d.we.map V.str)) hp5;have r5:Rp (upd H4 p5 (HO.lst (d.we.map V.str))) (FN H) 2 (.ref p5) (dS d.we):=X3 Ac (s04.free hp5) b5;generalize upd H4 p5 (HO.lst (d.we.map V.str))=H5 at s5 r5 ⊢;have s05:=s04.trans s5;intro p hp;have s6:=Ai (o:=HO.tup [nV d.sh,nV d.tr, .ref p1, .ref D2, .ref D3, .ref p4, .ref p5]) hp;refine k _ p (s05.trans s6) (s05.free hp) (LP Ac (.int _) (.int _) ?_ ?_ ?_ ?_ ?_)
    · exact (r1.same (s2.trans (s3.trans (s4.trans s5)))).same s6
    · exact (r2.same (s3.trans (s4.trans s5))).same s6
    · exact (r3.same (s4.trans s5)).same s6
    · exact (r4.same s5).same s6
    · exact r5.same s6
def Cw (c:Cs):Sp:=λ vs H Q _=>∃ x d,vs=[.ref x]/\DrAt c.Draft H x d/\Q (nV d.th.length) H
noncomputable abbrev Dj:Stmt:=Aq (top 37) 2
theorem Ii:FnScope ["self"] ["self"] (Af Dj):=⟨rfl,rfl,rfl,by decide +kernel,rfl,by decide +kernel,by decide +kernel⟩
theorem HF {f:Addr} {fd:FuncData} (F:Fun K "ends" "Draft.ends" Dj f fd) (T:Txt K mg c):FnOk P w K mg base CX0 1 f fd ["self"] (Cw c):=by
  refine F.ok Ii (λ vs H Q E h=> ?_) (λ cdv A outer s H vs Q E hr h=> ?_)
  · obtain ⟨x,d,rfl,_⟩:=h;rfl
  · obtain ⟨x,d,rfl,⟨dx,v1,v2,v3,v4,v5,h0,h1,h2,h3,h4,h5⟩,k⟩:=h;obtain ⟨a1,rfl,e1,b1⟩:=Dx h1;refine ⟨_,(Ah (An (Al (Bd (K:=K)) rfl (T.own _ (by decide)) boot_len (Aa (AV (K:=K) (pv 0) rfl) Ab)))),?_⟩;walk_at "w";refine ⟨_,_,_,_,_,rfl,h0,T.kd_Draft.cl,T.na_Draft_threading,rfl,?_⟩;walk_at "w";refine Fp (SqT.of e1) ?_;rw [List.length_map];exact k
def GU (K:PySem.W.Frag):Sp:=λ vs H Q _=>∃ (a b:Addr) (tp:Bool) (ts ks:List Nat),vs=[.ref a, .ref b]/\SqL K H a (ts.map nV)/\SqS tp K H b (ks.map nV)/\ks.length<=1000/\(∀ k∈ks,1<=k/\k<=ts.length)/\∀ H',Same H H'->Q (nV (MM.uOf (ks.map λ k=>ts.getD (k - 1) 0))) H'
theorem Jf {n:Nat} (G:Nat->Nat):((List.range n).map λ i=>((G i:Nat):Int)).map V.int=((List.range n).map G).map nV:=by rw [List.map_map,List.map_map];rfl
noncomputable abbrev FM:Stmt:=top 40
theorem KW:FnScope ["ties","treadles"] ["ties","treadles"] (Af FM):=⟨rfl,rfl,rfl,by decide +kernel,rfl,by decide +kernel,by decide +kernel⟩
theorem KZ {f:Addr} {fd:FuncData} (F:Fun K "lift_by" "lift_by" FM f fd) (T:Txt K mg c) (c_union_of:Aw P w K mg base "union_of" 1 ["masks"] (Ef K)):FnOk P w K mg base CX0 2 f fd ["ties","treadles"] (GU K):=by
  refine F.ok KW (λ vs H Q E h=> ?_) (λ cdv A outer s H vs Q E hr h=> ?_)
  · obtain ⟨a,b,tp,ts,ks,rfl,_⟩:=h;rfl
  · obtain ⟨a,b,tp,ts,ks,rfl,sa,sb,hl,hk,k⟩:=h;refine ⟨_,(Ah (An (Ag c_union_of hr (Aa (Au (L4 (K:=K) (pv 1)) (λ _ _ _ _=>Ax) (λ _ _ _ _=>(At (Cl (K:=K)) (pv 1) (Ak Ce (pv 0) Ae) (λ _ _=>rfl)))) Ab)))),?_⟩;walk_at "w";refine ⟨tp,b,rfl,⟨_,sb⟩,λ D hD=> ?_⟩;refine BI (G:=λ i=>((ts.getD (ks.getD i 0 - 1) 0:Nat):Int)) (NW sb rfl) hD (by rw [List.length_map];omega) ?_ ?_
    · intro i H' R hi s kk;have hi':i<ks.length:=by simpa using hi
      have hm:=hk _ (AA (y:=0) hi');rw [Bb hi];walk_at "w";refine Bk (SqS.same (tp:=false) sa s) (Kq (by omega) (by omega)) ?_;rw [show (((ks.getD i 0:Nat):Int) - 1).toNat=ks.getD i 0 - 1 by omega];exact kk H' (Same.refl _)
    · intro H' s hl2;rw [Jf,List.length_map] at hl2;walk_at "w";refine ⟨false,D,_,rfl,SqL.of hl2,λ H2 s2=> ?_⟩;rw [Iv (λ k=>ts.getD (k - 1) 0) ks 0];exact k H2 (s.trans s2)
theorem Rise.le {m:Nat} {ns:List Nat} (h:Rise m ns):∀ n∈ns,1<=n/\n<=m:=λ n hn=>by
  obtain ⟨i,hi,rfl⟩:=List.getElem_of_mem hn;have:=h i hi;rw [show ns.getD i 0=ns[i] by simp [List.getD_eq_getElem?_getD,hi]] at this;omega
theorem Rise.len {m:Nat}:∀ {ns:List Nat},Rise m ns->ns.length<=m:=by
  intro ns h;have:∀ i,i<ns.length->i+1<=ns.getD i 0:=by
    intro i
    induction i with
    | zero=>intro hi;have:=h 0 hi;omega
    | succ i ih=>
      intro hi;have h1:=ih (by omega);have h2:=h (i+1) hi;have e:(0::ns).getD (i+1) 0=ns.getD i 0:=rfl;omega
  rcases Nat.eq_zero_or_pos ns.length with z | z
  · omega
  · have h1:=this (ns.length - 1) (by omega);have h2:=h (ns.length - 1) (by omega);omega
noncomputable def JK (th:List Nat) (s:Nat):Nat:=MM.ofB (λ e=>decide (th.getD e 0=s)) th.length
theorem RT (f:Nat->Bool) (w:Nat):MM.mOf (((List.range w).filter f).map (· + 1))=MM.ofB f w:=by
  refine Nat.eq_of_testBit_eq λ i=> ?_;rw [MM.mOf_bit,MM.ofB_bit,Bool.eq_iff_iff,List.any_eq_true];constructor
  · rintro ⟨n,hn,e⟩;obtain ⟨k,hk,rfl⟩:=List.mem_map.mp hn;obtain ⟨h1,h2⟩:=List.mem_filter.mp hk;have e:k+1 - 1=i:=of_decide_eq_true e;have e:k=i:=by omega
    subst e;simp [List.mem_range.mp h1,h2]
  · intro h;simp only [Bool.and_eq_true,decide_eq_true_eq] at h;exact ⟨i+1,List.mem_map.mpr ⟨i,List.mem_filter.mpr ⟨List.mem_range.mpr h.1,h.2⟩,rfl⟩,by simp⟩
def BY (K:PySem.W.Frag):Sp:=λ vs H Q _=>∃ (a:Addr) (tp:Bool) (th:List Nat) (s:Nat),vs=[.ref a,nV s]/\SqS tp K H a (th.map nV)/\th.length<=900/\∀ H',Same H H'->Q (nV (JK th s)) H'
noncomputable abbrev Cg:Stmt:=top 41
theorem Ge:FnScope ["threading","shaft"] ["threading","shaft"] (Af Cg):=⟨rfl,rfl,rfl,by decide +kernel,rfl,by decide +kernel,by decide +kernel⟩
theorem Gc {f:Addr} {fd:FuncData} (F:Fun K "ends_through" "ends_through" Cg f fd) (T:Txt K mg c) (c_mask_of:Aw P w K mg base "mask_of" 2 ["numbers"] (ES K)):FnOk P w K mg base CX0 3 f fd ["threading","shaft"] (BY K):=by
  refine F.ok Ge (λ vs H Q E h=> ?_) (λ cdv A outer s H vs Q E hr h=> ?_)
  · obtain ⟨a,tp,th,s,rfl,_⟩:=h;rfl
  · obtain ⟨a,tp,th,s,rfl,sa,hl,k⟩:=h;refine ⟨_,(Ah (An (Ag c_mask_of hr (Aa (Fw (K:=K) (KC (K:=K) rfl (T.own _ (by decide)) (Aa (pv 0) Ab)) (λ _ _ _ _=>(Cp (As B0 (pv 1) (pv 2) (Ay _)))) (λ _ _ _ _=>(pv 0))) Ab)))),?_⟩;walk_at "w";refine ⟨tp,a,rfl,⟨_,sa⟩,λ D hD=> ?_⟩;refine Du (p:=λ i=>decide (th.getD i 0=s)) (G:=λ i=>((i+1:Nat):Int)) (Mj sa rfl rfl) hD (by rw [List.length_map];omega) ?_ ?_ ?_
    · intro i H' R hi s2 kk;rw [Bb hi];walk_at "w";rw [show decide (((th.getD i 0:Nat):Int)=(s:Nat))=decide (th.getD i 0=s) by rw [Bool.eq_iff_iff];simp only [decide_eq_true_eq];omega];exact kk H' (Same.refl _)
    · intro i H' R hi hp s2 kk;walk_at "w";exact kk H' (Same.refl _)
    · intro H' s2 hl2;walk_at "w";have e:(((List.range (th.map nV).length).filter λ i=>decide (th.getD i 0=s)).map λ i=>((i+1:Nat):Int)).map V.int=(((List.range th.length).filter λ i=>decide (th.getD i 0=s)).map (· + 1)).map nV:=by
        rw [List.length_map,List.map_map,List.map_map];rfl
      rw [e] at hl2;refine ⟨false,D,_,rfl,SqL.of hl2,λ n hn=> ?_,λ H3 s3=> ?_⟩
      · obtain ⟨j,hj,rfl⟩:=List.mem_map.mp hn;have:=List.mem_range.mp (List.mem_filter.mp hj).1;omega
      · rw [RT];exact k H3 (s2.trans s3)
def Ey (K:PySem.W.Frag):Sp:=λ vs H Q _=>∃ (a:Addr) (tp:Bool) (th:List Nat) (s:Nat),vs=[.ref a,nV s]/\SqS tp K H a (th.map nV)/\th.length<=900/\s<=900/\∀ H' p,Same H H'->H p=none->H' p=some (.lst (((List.range s).map λ i=>JK th (i+1)).map nV))->Q (.ref p) H'
noncomputable abbrev C8:Stmt:=top 42
theorem Hw:FnScope ["threading","shafts"] ["threading","shafts"] (Af C8):=⟨rfl,rfl,rfl,by decide +kernel,rfl,by decide +kernel,by decide +kernel⟩
theorem Hz {f:Addr} {fd:FuncData} (F:Fun K "shaft_ends" "shaft_ends" C8 f fd) (T:Txt K mg c) (c_ends_through:Aw P w K mg base "ends_through" 3 ["threading","shaft"] (BY K)):FnOk P w K mg base CX0 4 f fd ["threading","shafts"] (Ey K):=by
  refine F.ok Hw (λ vs H Q E h=> ?_) (λ cdv A outer s H vs Q E hr h=> ?_)
  · obtain ⟨a,tp,th,s,rfl,_⟩:=h;rfl
  · obtain ⟨a,tp,th,s,rfl,sa,hl,hs,k⟩:=h;refine ⟨_,(Ah (An (Au (CN rfl (T.own _ (by decide)) (Aa Ae (Aa (Ak AG (pv 1) Ae) Ab))) (λ _ _ _ _=>Ax) (λ _ _ _ _=>(Ag c_ends_through hr (Aa (pv 1) (Aa (pv 0) Ab))))))),?_⟩;walk_at "w";refine ⟨_,_,rfl,⟨by decide,by decide,by omega,by omega⟩,λ D hD=> ?_⟩;rw [show ((s:Int)+1 - 1).toNat=s by omega];refine BI (G:=λ i=>((JK th (i+1):Nat):Int)) (CM rfl) hD (by omega) ?_ ?_
    · intro i H' R hi s2 kk;walk_at "w";refine ⟨a,tp,th,i+1,by rw [show (1:Int)+(i:Nat)=((i+1:Nat):Int) by omega],sa.same s2,hl,kk⟩
    · intro H' s2 hl2;rw [Jf] at hl2;exact k H' D s2 hD hl2
noncomputable def RP (cs:List Nat) (l:Nat):Nat:=MM.uOf ((MM.nOf l).map λ s=>cs.getD (s - 1) 0)
def IM (K:PySem.W.Frag):Sp:=λ vs H Q _=>∃ (a:Addr) (cs:List Nat) (l:Nat),vs=[.ref a,nV l]/\SqL K H a (cs.map nV)/\l<2 ^ cs.length/\cs.length<=900/\∀ H',Same H H'->Q (nV (RP cs l)) H'
noncomputable abbrev GK:Stmt:=top 43
theorem MF:FnScope ["carried","lift"] ["carried","lift"] (Af GK):=⟨rfl,rfl,rfl,by decide +kernel,rfl,by decide +kernel,by decide +kernel⟩
theorem Mt {f:Addr} {fd:FuncData} (F:Fun K "row_by" "row_by" GK f fd) (T:Txt K mg c) (c_numbers_of:Aw P w K mg base "numbers_of" 3 ["mask"] EB) (c_union_of:Aw P w K mg base "union_of" 1 ["masks"] (Ef K)):FnOk P w K mg base CX0 4 f fd ["carried","lift"] (IM K):=by
  refine F.ok MF (λ vs H Q E h=> ?_) (λ cdv A outer s H vs Q E hr h=> ?_)
  · obtain ⟨a,cs,l,rfl,_⟩:=h;rfl
  · obtain ⟨a,cs,l,rfl,sa,hl,hc,k⟩:=h;refine ⟨_,(Ah (An (Ag c_union_of (hr.mono (by decide)) (Aa (Au (BC (K:=K) (Ag c_numbers_of hr (Aa (pv 1) Ab))) (λ _ _ _ _=>Ax) (λ _ _ _ _=>(At (Cl (K:=K)) (pv 1) (Ak Ce (pv 0) Ae) (λ _ _=>rfl)))) Ab)))),?_⟩;walk_at "w";refine ⟨l,rfl,Nat.lt_of_lt_of_le hl (Nat.pow_le_pow_right (Nat.zero_lt_two) hc),λ H1 p s1 hp h1=> ?_⟩;walk_at "w";refine ⟨p,rfl,⟨_,SqL.of h1⟩,λ D hD=> ?_⟩;have hn:=MM.nOf_len hl;refine BI (G:=λ i=>((cs.getD ((MM.nOf l).getD i 0 - 1) 0:Nat):Int)) (A4 (SqL.of h1) rfl) hD (by rw [List.length_map];omega) ?_ ?_
    · intro i H' R hi s kk;have hi':i<(MM.nOf l).length:=by simpa using hi
      obtain ⟨m1,m2⟩:=(MM.nOf_mem l _).mp (AA (y:=0) hi');have m3:(MM.nOf l).getD i 0 - 1<cs.length:=by
        rcases Nat.lt_or_ge ((MM.nOf l).getD i 0 - 1) cs.length with z | z
        · exact z
        · rw [Nat.testBit_lt_two_pow (Nat.lt_of_lt_of_le hl (Nat.pow_le_pow_right (by decide) z))] at m2;cases m2
      rw [Bb hi];walk_at "w";refine Bk (SqS.same (tp:=false) (SqS.same (tp:=false) sa s1) s) (Kq (by omega) (by omega)) ?_;rw [show ((((MM.nOf l).getD i 0:Nat):Int) - 1).toNat=(MM.nOf l).getD i 0 - 1 by omega];exact kk H' (Same.refl _)
    · intro H' s hl2;rw [Jf,List.length_map] at hl2;walk_at "w";refine ⟨false,D,_,rfl,SqL.of hl2,λ H2 s2=> ?_⟩;rw [Iv (λ s=>cs.getD (s - 1) 0) (MM.nOf l) 0];exact k H2 (s1.trans (s.trans s2))
structure KindF (K:PySem.W.Frag) (c:Cs) (C:Addr) (j:Nat):Prop where
  lt:j<8
  xk:HT.ExcKind K C
  k0:PySem.W.kitOne K (.ref C) (.ref c.BadRow)=some (decide (j=0))
  k1:PySem.W.kitOne K (.ref C) (.ref c.BadWord)=some (decide (j=1))
  k2:PySem.W.kitOne K (.ref C) (.ref c.TooMany)=some (decide (j=2))
  k3:PySem.W.kitOne K (.ref C) (.ref c.NotPlain)=some (decide (j=3))
  k4:PySem.W.kitOne K (.ref C) (.ref c.NotGrown)=some (decide (j=4))
  k5:PySem.W.kitOne K (.ref C) (.ref c.BadDraft)=some (decide (j=5))
  k6:PySem.W.kitOne K (.ref C) (.ref c.BadCloth)=some (decide (j=6))
  k7:PySem.W.kitOne K (.ref C) (.ref c.OutOfPlace)=some (decide (j=7))
  kv:PySem.W.kitOne K (.ref C) (.type "ValueError")=some true
noncomputable def nmK (j:Nat):Str:=[("row":Str),("word":Str),("many":Str),("plain":Str),("grown":Str),("draft":Str),("cloth":Str),("place":Str),("other":Str)].getD j ""
def EA (K:PySem.W.Frag) (c:Cs):Sp:=λ vs H Q _=>∃ a C od j,vs=[.ref a]/\H a=some (HM a C od)/\KindF K c C j/\∀ H' l,Same H H'->H l=none->H' l=some (.lst [.str (nmK j)])->Q (.ref l) H'
theorem QD (j:Nat) (h:j<8):((List.range 9).filter λ i=>decide (i=j)).map (λ i=>Dt.str (nmK i))=[nmK j].map Dt.str:=by
  match j,h with
  | 0,_=>rfl
  | 1,_=>rfl
  | 2,_=>rfl
  | 3,_=>rfl
  | 4,_=>rfl
  | 5,_=>rfl
  | 6,_=>rfl
  | 7,_=>rfl
noncomputable abbrev Df:Stmt:=top 69
theorem sc__law_kinds:FnScope ["_law_error","_law_kinds_here"] ["_law_error"] (Af Df):=⟨rfl,rfl,rfl,by decide +kernel,rfl,by decide +kernel,by decide +kernel⟩
theorem Hx {f:Addr} {fd:FuncData} (F:Fun K "_law_kinds" "_law_kinds" Df f fd) (T:Txt K mg c):FnOk P w K mg base CX0 1 f fd ["_law_error"] (EA K c):=by
  refine F.ok sc__law_kinds (λ vs H Q E h=> ?_) (λ cdv A outer s H vs Q E hr h=> ?_)
  · obtain ⟨a,C,od,j,rfl,_⟩:=h;rfl
  · obtain ⟨a,C,od,j,rfl,ha,F1,k⟩:=h;refine ⟨_,(Ad (Ao (i:=1) sc__law_kinds.nd rfl (Or.inl rfl) (AS (Aa (AB (Aa Ap (Aa (Al (B6 (K:=K)) rfl (T.own _ (by decide)) boot_isinstance (Aa (pv 0) (Aa (E5 T.g_BadRow) Ab))) Ab))) (Aa (AB (Aa Ap (Aa (Al (B6 (K:=K)) rfl (T.own _ (by decide)) boot_isinstance (Aa (pv 0) (Aa (E5 T.g_BadWord) Ab))) Ab))) Ab))))
      (Ad (Ao (i:=1) sc__law_kinds.nd rfl (Or.inl rfl) (Ak (CQ (K:=K)) (pv 1) (AS (Aa (AB (Aa Ap (Aa (Al (B6 (K:=K)) rfl (T.own _ (by decide)) boot_isinstance (Aa (pv 0) (Aa (E5 T.g_TooMany) Ab))) Ab))) (Aa (AB (Aa Ap (Aa (Al (B6 (K:=K)) rfl (T.own _ (by decide)) boot_isinstance (Aa (pv 0) (Aa (E5 T.g_NotPlain) Ab))) Ab))) Ab)))))
      (Ad (Ao (i:=1) sc__law_kinds.nd rfl (Or.inl rfl) (Ak (CQ (K:=K)) (pv 1) (AS (Aa (AB (Aa Ap (Aa (Al (B6 (K:=K)) rfl (T.own _ (by decide)) boot_isinstance (Aa (pv 0) (Aa (E5 T.g_NotGrown) Ab))) Ab))) (Aa (AB (Aa Ap (Aa (Al (B6 (K:=K)) rfl (T.own _ (by decide)) boot_isinstance (Aa (pv 0) (Aa (E5 T.g_BadDraft) Ab))) Ab))) Ab)))))
      (Ad (Ao (i:=1) sc__law_kinds.nd rfl (Or.inl rfl) (Ak (CQ (K:=K)) (pv 1) (AS (Aa (AB (Aa Ap (Aa (Al (B6 (K:=K)) rfl (T.own _ (by decide)) boot_isinstance (Aa (pv 0) (Aa (E5 T.g_BadCloth) Ab))) Ab))) (Aa (AB (Aa Ap (Aa (Al (B6 (K:=K)) rfl (T.own _ (by decide)) boot_isinstance (Aa (pv 0) (Aa (E5 T.g_OutOfPlace) Ab))) Ab))) Ab)))))
      (Ad (Ao (i:=1) sc__law_kinds.nd rfl (Or.inl rfl) (Ak (CQ (K:=K)) (pv 1) (AS (Aa (AB (Aa Ap (Aa (N9 (Al (B6 (K:=K)) rfl (T.own _ (by decide)) boot_isinstance (Aa (pv 0) (Aa (EG rfl (T.own _ (by decide)) Gd) Ab)))) Ab))) Ab))))
      (Ah (An (Fw (K:=K) (BC (K:=K) (pv 1)) (λ _ _ _ _=>(Cp (Bs (pv 1)))) (λ _ _ _ _=>(pv 0)))))))))),?_⟩
    walk_at "w";refine BO ((Same.refl H) _ _ ha) F1.xk F1.k0 ?_;walk_at "w";intro t_row ht_row;have z1:=Ai (o:=HO.tup [V.str "row",V.bl (decide (j=0))]) ht_row;have g_t_row:upd H t_row (HO.tup [V.str "row",V.bl (decide (j=0))]) t_row=_:=Ac;generalize upd H t_row (HO.tup [V.str "row",V.bl (decide (j=0))])=H1 at z1 g_t_row ⊢;have y1:Same H H1:=(Same.refl H).trans z1;walk_at "w";refine BO (y1 _ _ ha) F1.xk F1.k1 ?_;walk_at "w";intro t_word ht_word;have z2:=Ai (o:=HO.tup [V.str "word",V.bl (decide (j=1))]) ht_word;have g_t_word:upd H1 t_word (HO.tup [V.str "word",V.bl (decide (j=1))]) t_word=_:=Ac;generalize upd H1 t_word (HO.tup [V.str "word",V.bl (decide (j=1))])=H2 at z2 g_t_word ⊢;have y2:Same H H2:=y1.trans z2;walk_at "w";intro l0 hl0;have z3:=Ai (o:=HO.lst [V.ref t_row,V.ref t_word]) hl0;have g_l0:upd H2 l0 (HO.lst [V.ref t_row,V.ref t_word]) l0=_:=Ac;generalize upd H2 l0 (HO.lst [V.ref t_row,V.ref t_word])=H3 at z3 g_l0 ⊢;have y3:Same H H3:=y2.trans z3;walk_at "w";refine BO (y3 _ _ ha) F1.xk F1.k2 ?_;walk_at "w";intro t_many ht_many;have z4:=Ai (o:=HO.tup [V.str "many",V.bl (decide (j=2))]) ht_many;have g_t_many:upd H3 t_many (HO.tup [V.str "many",V.bl (decide (j=2))]) t_many=_:=Ac;generalize upd H3 t_many (HO.tup [V.str "many",V.bl (decide (j=2))])=H4 at z4 g_t_many ⊢;have y4:Same H H4:=y3.trans z4;walk_at "w";refine BO (y4 _ _ ha) F1.xk F1.k3 ?_;walk_at "w";intro t_plain ht_plain;have z5:=Ai (o:=HO.tup [V.str "plain",V.bl (decide (j=3))]) ht_plain;have g_t_plain:upd H4 t_plain (HO.tup [V.str "plain",V.bl (decide (j=3))]) t_plain=_:=Ac;generalize upd H4 t_plain (HO.tup [V.str "plain",V.bl (decide (j=3))])=H5 at z5 g_t_plain ⊢;have y5:Same H H5:=y4.trans z5;walk_at "w";intro l1 hl1;have z6:=Ai (o:=HO.lst [V.ref t_many,V.ref t_plain]) hl1;have g_l1:upd H5 l1 (HO.lst [V.ref t_many,V.ref t_plain]) l1=_:=Ac;generalize upd H5 l1 (HO.lst [V.ref t_many,V.ref t_plain])=H6 at z6 g_l1 ⊢;have y6:Same H H6:=y5.trans z6;walk_at "w";refine BK (SqL.of (z6 _ _ (z5 _ _ (z4 _ _ g_l0)))) (SqL.of g_l1) (by simp) λ m1 hm1=> ?_;have z7:=Ai (o:=HO.lst ([V.ref t_row,V.ref t_word]++[V.ref t_many,V.ref t_plain])) hm1;have g_m1:upd H6 m1 (HO.lst ([V.ref t_row,V.ref t_word]++[V.ref t_many,V.ref t_plain])) m1=some (.lst [V.ref t_row,V.ref t_word,V.ref t_many,V.ref t_plain]):=Ac;generalize upd H6 m1 (HO.lst ([V.ref t_row,V.ref t_word]++[V.ref t_many,V.ref t_plain]))=H7 at z7 g_m1 ⊢;have y7:Same H H7:=y6.trans z7;walk_at "w";refine BO (y7 _ _ ha) F1.xk F1.k4 ?_;walk_at "w";intro t_grown ht_grown;have z8:=Ai (o:=HO.tup [V.str "grown",V.bl (decide (j=4))]) ht_grown;have g_t_grown:upd H7 t_grown (HO.tup [V.str "grown",V.bl (decide (j=4))]) t_grown=_:=Ac;generalize upd H7 t_grown (HO.tup [V.str "grown",V.bl (decide (j=4))])=H8 at z8 g_t_grown ⊢;have y8:Same H H8:=y7.trans z8;walk_at "w";refine BO (y8 _ _ ha) F1.xk F1.k5 ?_;walk_at "w";intro t_draft ht_draft;have z9:=Ai (o:=HO.tup [V.str "draft",V.bl (decide (j=5))]) ht_draft;have g_t_draft:upd H8 t_draft (HO.tup [V.str "draft",V.bl (decide (j=5))]) t_draft=_:=Ac;generalize upd H8 t_draft (HO.tup [V.str "draft",V.bl (decide (j=5))])=H9 at z9 g_t_draft ⊢;have y9:Same H H9:=y8.trans z9;walk_at "w";intro l2 hl2;have z10:=Ai (o:=HO.lst [V.ref t_grown,V.ref t_draft]) hl2;have g_l2:upd H9 l2 (HO.lst [V.ref t_grown,V.ref t_draft]) l2=_:=Ac;generalize upd H9 l2 (HO.lst [V.ref t_grown,V.ref t_draft])=H10 at z10 g_l2 ⊢;have y10:Same H H10:=y9.trans z10;walk_at "w";refine BK (SqL.of (z10 _ _ (z9 _ _ (z8 _ _ g_m1)))) (SqL.of g_l2) (by simp) λ m2 hm2=> ?_;have z11:=Ai (o:=HO.lst ([V.ref t_row,V.ref t_word,V.ref t_many,V.ref t_plain]++[V.ref t_grown,V.ref t_draft])) hm2;have g_m2:upd H10 m2 (HO.lst ([V.ref t_row,V.ref t_word,V.ref t_many,V.ref t_plain]++[V.ref t_grown,V.ref t_draft])) m2=some (.lst [V.ref t_row,V.ref t_word,V.ref t_many,V.ref t_plain,V.ref t_grown,V.ref t_draft]):=Ac;generalize upd H10 m2 (HO.lst ([V.ref t_row,V.ref t_word,V.ref t_many,V.ref t_plain]++[V.ref t_grown,V.ref t_draft]))=H11 at z11 g_m2 ⊢;have y11:Same H H11:=y10.trans z11;walk_at "w";refine BO (y11 _ _ ha) F1.xk F1.k6 ?_;walk_at "w";intro t_cloth ht_cloth;have z12:=Ai (o:=HO.tup [V.str "cloth",V.bl (decide (j=6))]) ht_cloth;have g_t_cloth:upd H11 t_cloth (HO.tup [V.str "cloth",V.bl (decide (j=6))]) t_cloth=_:=Ac;generalize upd H11 t_cloth (HO.tup [V.str "cloth",V.bl (decide (j=6))])=H12 at z12 g_t_cloth ⊢;have y12:Same H H12:=y11.trans z12;walk_at "w";refine BO (y12 _ _ ha) F1.xk F1.k7 ?_;walk_at "w";intro t_place ht_place;have z13:=Ai (o:=HO.tup [V.str "place",V.bl (decide (j=7))]) ht_place;have g_t_place:upd H12 t_place (HO.tup [V.str "place",V.bl (decide (j=7))]) t_place=_:=Ac;generalize upd H12 t_place (HO.tup [V.str "place",V.bl (decide (j=7))])=H13 at z13 g_t_place ⊢;have y13:Same H H13:=y12.trans z13;walk_at "w";intro l3 hl3;have z14:=Ai (o:=HO.lst [V.ref t_cloth,V.ref t_place]) hl3;have g_l3:upd H13 l3 (HO.lst [V.ref t_cloth,V.ref t_place]) l3=_:=Ac;generalize upd H13 l3 (HO.lst [V.ref t_cloth,V.ref t_place])=H14 at z14 g_l3 ⊢;have y14:Same H H14:=y13.trans z14;walk_at "w";refine BK (SqL.of (z14 _ _ (z13 _ _ (z12 _ _ g_m2)))) (SqL.of g_l3) (by simp) λ m3 hm3=> ?_;have z15:=Ai (o:=HO.lst ([V.ref t_row,V.ref t_word,V.ref t_many,V.ref t_plain,V.ref t_grown,V.ref t_draft]++[V.ref t_cloth,V.ref t_place])) hm3;have g_m3:upd H14 m3 (HO.lst ([V.ref t_row,V.ref t_word,V.ref t_many,V.ref t_plain,V.ref t_grown,V.ref t_draft]++[V.ref t_cloth,V.ref t_place])) m3=some (.lst [V.ref t_row,V.ref t_word,V.ref t_many,V.ref t_plain,V.ref t_grown,V.ref t_draft,V.ref t_cloth,V.ref t_place]):=Ac;generalize upd H14 m3 (HO.lst ([V.ref t_row,V.ref t_word,V.ref t_many,V.ref t_plain,V.ref t_grown,V.ref t_draft]++[V.ref t_cloth,V.ref t_place]))=H15 at z15 g_m3 ⊢;have y15:Same H H15:=y14.trans z15;walk_at "w";refine Ml (y15 _ _ ha) F1.xk F1.kv ?_;walk_at "w";intro t_other ht_other;have z16:=Ai (o:=HO.tup [V.str "other",V.bl (!true)]) ht_other;have g_t_other:upd H15 t_other (HO.tup [V.str "other",V.bl (!true)]) t_other=some (.tup [V.str "other",V.bl false]):=Ac;generalize upd H15 t_other (HO.tup [V.str "other",V.bl (!true)])=H16 at z16 g_t_other ⊢;have y16:Same H H16:=y15.trans z16;walk_at "w";intro l4 hl4;have z17:=Ai (o:=HO.lst [V.ref t_other]) hl4;have g_l4:upd H16 l4 (HO.lst [V.ref t_other]) l4=_:=Ac;generalize upd H16 l4 (HO.lst [V.ref t_other])=H17 at z17 g_l4 ⊢;have y17:Same H H17:=y16.trans z17;walk_at "w";refine BK (SqL.of (z17 _ _ (z16 _ _ g_m3))) (SqL.of g_l4) (by simp) λ m4 hm4=> ?_;have z18:=Ai (o:=HO.lst ([V.ref t_row,V.ref t_word,V.ref t_many,V.ref t_plain,V.ref t_grown,V.ref t_draft,V.ref t_cloth,V.ref t_place]++[V.ref t_other])) hm4;have g_m4:upd H17 m4 (HO.lst ([V.ref t_row,V.ref t_word,V.ref t_many,V.ref t_plain,V.ref t_grown,V.ref t_draft,V.ref t_cloth,V.ref t_place]++[V.ref t_other])) m4=some (.lst [V.ref t_row,V.ref t_word,V.ref t_many,V.ref t_plain,V.ref t_grown,V.ref t_draft,V.ref t_cloth,V.ref t_place,V.ref t_other]):=Ac;generalize upd H17 m4 (HO.lst ([V.ref t_row,V.ref t_word,V.ref t_many,V.ref t_plain,V.ref t_grown,V.ref t_draft,V.ref t_cloth,V.ref t_place]++[V.ref t_other]))=H18 at z18 g_m4 ⊢;have y18:Same H H18:=y17.trans z18;walk_at "w";refine ⟨m4,rfl,⟨_,SqL.of g_m4⟩,λ D hD=> ?_⟩;have pr:∀ i,i<9->∃ b,[V.ref t_row,V.ref t_word,V.ref t_many,V.ref t_plain,V.ref t_grown,V.ref t_draft,V.ref t_cloth,V.ref t_place,V.ref t_other].getD i V.non= .ref b/\H18 b=some (.tup [([(V.str "row",V.bl (decide (j=0))),(V.str "word",V.bl (decide (j=1))),(V.str "many",V.bl (decide (j=2))),(V.str "plain",V.bl (decide (j=3))),(V.str "grown",V.bl (decide (j=4))),(V.str "draft",V.bl (decide (j=5))),(V.str "cloth",V.bl (decide (j=6))),(V.str "place",V.bl (decide (j=7))),(V.str "other",V.bl false)].getD i (V.non,V.non)).1,([(V.str "row",V.bl (decide (j=0))),(V.str "word",V.bl (decide (j=1))),(V.str "many",V.bl (decide (j=2))),(V.str "plain",V.bl (decide (j=3))),(V.str "grown",V.bl (decide (j=4))),(V.str "draft",V.bl (decide (j=5))),(V.str "cloth",V.bl (decide (j=6))),(V.str "place",V.bl (decide (j=7))),(V.str "other",V.bl false)].getD i (V.non,V.non)).2]):=by
      intro i hi
      match i,hi with
      | 0,_=>exact ⟨t_row,rfl,(z18 _ _ (z17 _ _ (z16 _ _ (z15 _ _ (z14 _ _ (z13 _ _ (z12 _ _ (z11 _ _ (z10 _ _ (z9 _ _ (z8 _ _ (z7 _ _ (z6 _ _ (z5 _ _ (z4 _ _ (z3 _ _ (z2 _ _ g_t_row)))))))))))))))))⟩
      | 1,_=>exact ⟨t_word,rfl,(z18 _ _ (z17 _ _ (z16 _ _ (z15 _ _ (z14 _ _ (z13 _ _ (z12 _ _ (z11 _ _ (z10 _ _ (z9 _ _ (z8 _ _ (z7 _ _ (z6 _ _ (z5 _ _ (z4 _ _ (z3 _ _ g_t_word))))))))))))))))⟩
      | 2,_=>exact ⟨t_many,rfl,(z18 _ _ (z17 _ _ (z16 _ _ (z15 _ _ (z14 _ _ (z13 _ _ (z12 _ _ (z11 _ _ (z10 _ _ (z9 _ _ (z8 _ _ (z7 _ _ (z6 _ _ (z5 _ _ g_t_many))))))))))))))⟩
      | 3,_=>exact ⟨t_plain,rfl,(z18 _ _ (z17 _ _ (z16 _ _ (z15 _ _ (z14 _ _ (z13 _ _ (z12 _ _ (z11 _ _ (z10 _ _ (z9 _ _ (z8 _ _ (z7 _ _ (z6 _ _ g_t_plain)))))))))))))⟩
      | 4,_=>exact ⟨t_grown,rfl,(z18 _ _ (z17 _ _ (z16 _ _ (z15 _ _ (z14 _ _ (z13 _ _ (z12 _ _ (z11 _ _ (z10 _ _ (z9 _ _ g_t_grown))))))))))⟩
      | 5,_=>exact ⟨t_draft,rfl,(z18 _ _ (z17 _ _ (z16 _ _ (z15 _ _ (z14 _ _ (z13 _ _ (z12 _ _ (z11 _ _ (z10 _ _ g_t_draft)))))))))⟩
      | 6,_=>exact ⟨t_cloth,rfl,(z18 _ _ (z17 _ _ (z16 _ _ (z15 _ _ (z14 _ _ (z13 _ _ g_t_cloth))))))⟩
      | 7,_=>exact ⟨t_place,rfl,(z18 _ _ (z17 _ _ (z16 _ _ (z15 _ _ (z14 _ _ g_t_place)))))⟩
      | 8,_=>exact ⟨t_other,rfl,(z18 _ _ (z17 _ _ g_t_other))⟩
    have lt:=F1.lt;refine B8 (m:=0) (p:=λ i=>decide (i=j)) (G:=λ i=> .str (nmK i)) (MH (ps:=[(V.str "row",V.bl (decide (j=0))),(V.str "word",V.bl (decide (j=1))),(V.str "many",V.bl (decide (j=2))),(V.str "plain",V.bl (decide (j=3))),(V.str "grown",V.bl (decide (j=4))),(V.str "draft",V.bl (decide (j=5))),(V.str "cloth",V.bl (decide (j=6))),(V.str "place",V.bl (decide (j=7))),(V.str "other",V.bl false)]) (SqL.of g_m4) pr rfl rfl) hD (by simp) ?_ ?_ ?_
    · intro i H' R hi s kk;have hi9:i<9:=hi
      match i,hi9 with
      | 0,_=>walk_at "w";exact ⟨_,rfl,by have e:decide (j=0)=decide (0=j):=decide_eq_decide.mpr eq_comm;rw [e];exact kk H' (Same.refl _)⟩
      | 1,_=>walk_at "w";exact ⟨_,rfl,by have e:decide (j=1)=decide (1=j):=decide_eq_decide.mpr eq_comm;rw [e];exact kk H' (Same.refl _)⟩
      | 2,_=>walk_at "w";exact ⟨_,rfl,by have e:decide (j=2)=decide (2=j):=decide_eq_decide.mpr eq_comm;rw [e];exact kk H' (Same.refl _)⟩
      | 3,_=>walk_at "w";exact ⟨_,rfl,by have e:decide (j=3)=decide (3=j):=decide_eq_decide.mpr eq_comm;rw [e];exact kk H' (Same.refl _)⟩
      | 4,_=>walk_at "w";exact ⟨_,rfl,by have e:decide (j=4)=decide (4=j):=decide_eq_decide.mpr eq_comm;rw [e];exact kk H' (Same.refl _)⟩
      | 5,_=>walk_at "w";exact ⟨_,rfl,by have e:decide (j=5)=decide (5=j):=decide_eq_decide.mpr eq_comm;rw [e];exact kk H' (Same.refl _)⟩
      | 6,_=>walk_at "w";exact ⟨_,rfl,by have e:decide (j=6)=decide (6=j):=decide_eq_decide.mpr eq_comm;rw [e];exact kk H' (Same.refl _)⟩
      | 7,_=>walk_at "w";exact ⟨_,rfl,by have e:decide (j=7)=decide (7=j):=decide_eq_decide.mpr eq_comm;rw [e];exact kk H' (Same.refl _)⟩
      | 8,_=>walk_at "w";exact ⟨_,rfl,by have e:false=decide (8=j):=(decide_eq_false (by omega)).symm;rw [e];exact kk H' (Same.refl _)⟩
    · intro i H' R hi hp s kk;have hi9:i<9:=hi
      match i,hi9 with
      | 0,_=>walk_at "w";exact kk H' _ (Same.refl _) (.str _)
      | 1,_=>walk_at "w";exact kk H' _ (Same.refl _) (.str _)
      | 2,_=>walk_at "w";exact kk H' _ (Same.refl _) (.str _)
      | 3,_=>walk_at "w";exact kk H' _ (Same.refl _) (.str _)
      | 4,_=>walk_at "w";exact kk H' _ (Same.refl _) (.str _)
      | 5,_=>walk_at "w";exact kk H' _ (Same.refl _) (.str _)
      | 6,_=>walk_at "w";exact kk H' _ (Same.refl _) (.str _)
      | 7,_=>walk_at "w";exact kk H' _ (Same.refl _) (.str _)
      | 8,_=>walk_at "w";exact kk H' _ (Same.refl _) (.str _)
    · intro H' ys s hl r;have e9:=QD j lt;have r:Rp _ _ _ _ (.lst (((List.range 9).filter λ i=>decide (i=j)).map (λ i=>Dt.str (nmK i)))):=r;rw [e9] at r;obtain ⟨b,eb,hb,_⟩:=N8 (zs:=[nmK j]) r;cases eb;exact k H' D (y18.trans s) (y18.free hD) hb
noncomputable def BF (x k:Int):Int:=(x%1000000007+7919*k+13)*(x%1000000007+7919*k+13)%1000000007*48271%2147483647
def CA:Sp:=λ vs H Q _=>∃ x k:Int,vs=[.int x, .int k]/\(0<=k/\k<=1000)/\Q (.int (BF x k)) H
noncomputable abbrev C6:Stmt:=top 64
theorem sc__law_mixed:FnScope ["_law_cell","_law_k"] ["_law_cell","_law_k"] (Af C6):=⟨rfl,rfl,rfl,by decide +kernel,rfl,by decide +kernel,by decide +kernel⟩
theorem HQ {f:Addr} {fd:FuncData} (F:Fun K "_law_mixed" "_law_mixed" C6 f fd) (T:Txt K mg c):FnOk P w K mg base CX0 1 f fd ["_law_cell","_law_k"] CA:=by
  refine F.ok sc__law_mixed (λ vs H Q E h=> ?_) (λ cdv A outer s H vs Q E hr h=> ?_)
  · obtain ⟨x,k,rfl,_⟩:=h;rfl
  · obtain ⟨x,k,rfl,hk,q⟩:=h;refine ⟨_,(Ad (Ao (i:=0) sc__law_mixed.nd rfl (Or.inl rfl) (Ak AG (Ak AG (Ak A8 (pv 0) Ae) (Ak FI Ae (pv 1))) Ae))
      (Ah (An (Ak A8 (Ak FI (Ak A8 (Ak FI (pv 0) (pv 0)) Ae) Ae) Ae)))),?_⟩
    have b1:=Int.emod_nonneg x (show (1000000007:Int)≠0 by decide);have b2:=Int.emod_lt_of_pos x (show (0:Int)<1000000007 by decide);walk_at "w";refine AH (by decide) ?_;walk_at "w";refine AH (.inl ⟨by decide,by decide⟩) ?_;walk_at "w";refine AH (.inl ⟨?_,?_⟩) ?_
    · show -(2 ^ 64)<x%1000000007+7919*k+13;omega
    · show x%1000000007+7919*k+13<2 ^ 64;omega
    walk_at "w";refine AH (by decide) ?_;walk_at "w";refine AH (.inr ⟨by decide,by decide⟩) ?_;walk_at "w";refine AH (by decide) ?_;exact q
noncomputable def Nj (n:Nat) (f:Int):Nat:=max 1 (min 60 (Builtin.Range.rangeSize f (n:Nat) 2).toNat)
def Es (K:PySem.W.Frag):Sp:=λ vs H Q _=>∃ (a:Addr) (ns:List Int) (f:Int),vs=[.ref a, .int f]/\SqL K H a (ns.map V.int)/\ns.length<=63/\0<=f/\f<=1/\∀ H' p (ms:List Int),Same H H'->H p=none->H' p=some (.lst (ms.map V.int))->1<=ms.length->ms.length<=60/\ms.length<=ns.length+1/\ms.length=Nj ns.length f->Q (.ref p) H'
theorem QX {f:Int} {n:Nat} {i:Nat} (f0:0<=f) (h:i<(Builtin.Range.rangeSize f (n:Nat) 2).toNat):f+i*2<n:=by
  unfold Builtin.Range.rangeSize at h;rw [if_pos (by decide)] at h;split at h
  · omega
  · simp at h
noncomputable abbrev C5:Stmt:=top 65
theorem sc__law_cells:FnScope ["_law_script","_law_first","_law_found"] ["_law_script","_law_first"] (Af C5):=⟨rfl,rfl,rfl,by decide +kernel,rfl,by decide +kernel,by decide +kernel⟩
theorem Hu {f:Addr} {fd:FuncData} (F:Fun K "_law_cells" "_law_cells" C5 f fd) (T:Txt K mg c):FnOk P w K mg base CX0 1 f fd ["_law_script","_law_first"] (Es K):=by
  refine F.ok sc__law_cells (λ vs H Q E h=> ?_) (λ cdv A outer s H vs Q E hr h=> ?_)
  · obtain ⟨a,ns,f,rfl,_⟩:=h;rfl
  · obtain ⟨a,ns,f,rfl,sa,hn,f0,f1,k⟩:=h;have hu:=hr.units0;refine ⟨_,(Ad (Ao (i:=2) sc__law_cells.nd rfl (Or.inl rfl) (CV (Qi (K:=K)) (Au (MI rfl (T.own _ (by decide)) (Aa (pv 1) (Aa (Al (Bd (K:=K)) rfl (T.own _ (by decide)) boot_len (Aa (pv 0) Ab)) (Aa Ae Ab)))) (λ _ _ _ _=>Ax) (λ _ _ _ _=>(At (Cl (K:=K)) (pv 1) (pv 0) (λ _ _=>rfl)))) Eo (Ei Ae)))
      (Ah (An (Ak (CQ (K:=K)) (pv 2) (Ak Rw (AS (Aa (pv 1) Ab)) (AJ Qv rfl (T.own _ (by decide)) boot_int (Aa (BN (P3 hu (K:=K)) (pv 2) (AS Ab) (Ay _)) Ab))))))),?_⟩
    walk_at "w";refine AQ sa ?_;walk_at "w";refine ⟨_,_,_,rfl,⟨by omega,by omega⟩,⟨by omega,by rw [List.length_map];omega⟩,⟨by decide,by decide⟩,by decide,λ D hD=> ?_⟩;rw [List.length_map];have hb:∀ i:Nat,i<(Builtin.Range.rangeSize f (ns.length:Nat) 2).toNat->f+i*2<ns.length:=λ i hi=>QX f0 hi;have hsz:(Builtin.Range.rangeSize f (ns.length:Nat) 2).toNat<=63:=by
      have:=MQ f (ns.length:Nat) 2 (by decide);omega
    have hce:Nj ns.length f=max 1 (min 60 (Builtin.Range.rangeSize f (ns.length:Nat) 2).toNat):=rfl;generalize (Builtin.Range.rangeSize f (ns.length:Nat) 2).toNat=n at hb hsz hce ⊢;refine BI (G:=λ i=>ns.getD (f+i*2).toNat 0) (Lm rfl) hD (by omega) ?_ ?_
    · intro i H' R hi s kk;have:=hb i hi;walk_at "w";refine Bk (SqS.same (tp:=false) sa s) (Pd (by omega) (by omega)) ?_;exact kk H' (Same.refl _)
    intro H1 s1 hl1;have hn1:n<=ns.length:=by
      rcases Nat.eq_zero_or_pos n with z | z
      · omega
      · have:=hb (n - 1) (by omega);omega
    have lms:((List.range n).map λ i:Nat=>ns.getD (f+i*2).toNat 0).length<=ns.length/\((List.range n).map λ i:Nat=>ns.getD (f+i*2).toNat 0).length=n:=by simpa using hn1
    generalize (List.range n).map (λ i:Nat=>ns.getD (f+i*2).toNat 0)=ms at hl1 lms;walk_at "w";refine NF (SqL.of hl1) λ q hq=> ?_;rw [KR (by decide), <-List.map_take];have s2:=Ai (o:=HO.lst ((ms.take (60:Int).toNat).map V.int)) hq;have h2:upd H1 q (HO.lst ((ms.take (60:Int).toNat).map V.int)) q=_:=Ac;have s12:=s1.trans s2;generalize upd H1 q (HO.lst ((ms.take (60:Int).toNat).map V.int))=H2 at s12 h2 ⊢;have hms:(ms.take (60:Int).toNat).length<=60/\(ms.take (60:Int).toNat).length<=ns.length/\(ms.take (60:Int).toNat).length=min 60 n:=by rw [List.length_take,lms.2];exact ⟨Nat.min_le_left _ _,Nat.le_trans (Nat.min_le_right _ _) hn1,rfl⟩
    generalize ms.take (60:Int).toNat=ts at h2 hms ⊢;walk_at "w";intro p hp;walk_at "w";have s3:=Ai (o:=HO.lst [V.int f]) hp;have h3:upd H2 p (HO.lst [V.int f]) p=some (.lst [V.int f]):=Ac;have s13:=s12.trans s3;replace h2:=s3 _ _ h2;generalize upd H2 p (HO.lst [V.int f])=H3 at s13 h2 h3 ⊢;intro p4 hp4;walk_at "w";have s4:=Ai (o:=HO.lst []) hp4;have s14:=s13.trans s4;replace h2:=s4 _ _ h2;replace h3:=s4 _ _ h3;have h4:upd H3 p4 (HO.lst []) p4=_:=Ac;generalize upd H3 p4 (HO.lst [])=H4 at s14 h2 h3 h4 ⊢;refine PX (bs:=[]) (SqL.of h2) (SqL.of h4) ?_;walk_at "w";refine ⟨_,rfl,?_⟩;have hb2:(0:Int)<=(if decide (ts=[])=true then 1 else 0)/\(if decide (ts=[])=true then (1:Int) else 0)<=1:=by split <;> decide
    refine RM h3 hb2.1 (by omega) (by simp) λ p5 hp5=> ?_;walk_at "w";have e5:(List.replicate (if decide (ts=[])=true then (1:Int) else 0).toNat [V.int f]).flatten=(if ts=[] then [f] else []).map V.int:=by
      by_cases z:ts=[]
      · simp [z]
      · simp [z]
    rw [e5];have s5:=Ai (o:=HO.lst ((if ts=[] then [f] else []).map V.int)) hp5;have h5:upd H4 p5 (HO.lst ((if ts=[] then [f] else []).map V.int)) p5=_:=Ac;replace h2:=s5 _ _ h2;have s15:=s14.trans s5;generalize upd H4 p5 (HO.lst ((if ts=[] then [f] else []).map V.int))=H5 at s15 h2 h5 ⊢;have hlen:1<=(ts++(if ts=[] then [f] else [])).length/\(ts++(if ts=[] then [f] else [])).length<=60/\(ts++(if ts=[] then [f] else [])).length<=ns.length+1/\(ts++(if ts=[] then [f] else [])).length=Nj ns.length f:=by
      by_cases z:ts=[]
      · rw [z] at hms;simp [z,hce];simp at hms;omega
      · have:1<=ts.length:=by
          cases ts with
          | nil=>exact absurd rfl z
          | cons _ _=>simp
        simp [z];omega
    refine BK (SqL.of h2) (SqL.of h5) (by have:=hlen.2.1;rw [List.length_append] at this;simp only [List.length_map];omega) λ p6 hp6=> ?_;rw [<-List.map_append];exact k _ p6 _ (s15.trans (Ai hp6)) (s15.free hp6) Ac hlen.1 hlen.2
noncomputable def GN (m w:Nat):List Nat:=((List.range w).filter m.testBit).map (· + 1)
theorem F4 (p:Nat->Bool):∀ w,Rise w (((List.range w).filter p).map (· + 1)):=by
  intro w;have key:∀ w,(∀ n∈((List.range w).filter p).map (· + 1),1<=n/\n<=w)/\(((List.range w).filter p).map (· + 1)).Pairwise (· < ·):=by
    intro w;refine ⟨λ n hn=> ?_,?_⟩
    · obtain ⟨k,hk,rfl⟩:=List.mem_map.mp hn;have:=List.mem_range.mp (List.mem_filter.mp hk).1;omega
    · rw [List.pairwise_map];exact ((List.pairwise_lt_range).filter p).imp (λ h=>Nat.succ_lt_succ h)
  obtain ⟨k1,k2⟩:=key w;generalize ((List.range w).filter p).map (· + 1)=ns at k1 k2;intro i hi;have e:ns.getD i 0=ns[i]:=by simp [List.getD_eq_getElem?_getD,hi]
  have m1:=k1 _ (List.getElem_mem hi);rw [e];refine ⟨?_,m1.2⟩;cases i with
  | zero=>simpa using m1.1
  | succ i=>
    have e2:(0::ns).getD (i+1) 0=ns[i]:=by
      show ns.getD i 0=ns[i];simp [List.getD_eq_getElem?_getD,(show i<ns.length by omega)]
    rw [e2];exact (List.pairwise_iff_getElem.mp k2) i (i+1) (by omega) hi (by omega)
def DE:Sp:=λ vs H Q _=>∃ m w:Nat,vs=[nV m,nV w]/\w<=100/\∀ H' p,Same H H'->H p=none->H' p=some (.lst ((GN m w).map nV))->Q (.ref p) H'
theorem OO (m i:Nat):decide ((((m >>> i) &&& 1:Nat):Int)=1)=m.testBit i:=by
  have h:((m >>> i) &&& 1)=(m.testBit i).toNat:=by
    rw [Nat.and_one_is_mod,Nat.shiftRight_eq_div_pow,MM.bit_div]
  rw [h];cases m.testBit i <;> rfl
noncomputable abbrev Cd:Stmt:=top 66
theorem Gj:FnScope ["_law_mask","_law_most"] ["_law_mask","_law_most"] (Af Cd):=⟨rfl,rfl,rfl,by decide +kernel,rfl,by decide +kernel,by decide +kernel⟩
theorem Gh {f:Addr} {fd:FuncData} (F:Fun K "_law_numbers" "_law_numbers" Cd f fd) (T:Txt K mg c):FnOk P w K mg base CX0 1 f fd ["_law_mask","_law_most"] DE:=by
  refine F.ok Gj (λ vs H Q E h=> ?_) (λ cdv A outer s H vs Q E hr h=> ?_)
  · obtain ⟨m,w,rfl,_⟩:=h;rfl
  · obtain ⟨m,w,rfl,hw,k⟩:=h;refine ⟨_,(Ah (An (Au (Bi rfl (T.own _ (by decide)) (Aa (pv 1) Ab)) (λ _ _ _ _=>(Cp (As B0 (Ak Ju (Ak Nu (pv 1) (pv 0)) Ae) Ae (Ay _)))) (λ _ _ _ _=>(Ak AG (pv 0) Ae))))),?_⟩;walk_at "w";refine ⟨_,rfl,by omega,by omega,λ D hD=> ?_⟩;rw [Int.toNat_natCast];refine Du (p:=m.testBit) (G:=λ i=>(i:Int)+1) (Bp rfl) hD (by omega) ?_ ?_ ?_
    · intro i H' R hi s kk;walk_at "w";refine AH (by show (0:Int)<=_;omega) ?_;walk_at "w";have e:((m:Nat):Int) / 2 ^ (((i:Nat):Int)).toNat=((m >>> i:Nat):Int):=by
        rw [Int.toNat_natCast,Nat.shiftRight_eq_div_pow];push_cast;rfl
      rw [e,show (1:Int)=((1:Nat):Int) from rfl,bA];walk_at "w";rw [show (((1:Nat):Int))=(1:Int) from rfl,OO];exact kk H' (Same.refl _)
    · intro i H' R hi hp s kk;walk_at "w";exact kk H' (Same.refl _)
    · intro H' s hl;refine k H' D s hD ?_;rw [hl];unfold GN;rw [List.map_map,List.map_map];rfl
noncomputable abbrev R6 (i:Int):Str:=⟨#[97+i.toNat]⟩
theorem QU:∀ j:Nat,j<26->("abcdefghijklmnopqrstuvwxyz":Str).cps.toList[j]?=some (97+j):=by decide +kernel
theorem Lu {i:Int} (h0:0<=i) (h1:i<26):atI ("abcdefghijklmnopqrstuvwxyz":Str).cps.toList i=some (97+i.toNat):=by
  obtain ⟨j,rfl⟩:∃ j:Nat,i=j:=⟨i.toNat,by omega⟩;rw [Int.toNat_natCast];exact Am (QU j (by omega))
theorem Pf:∀ j:Nat,j<26->((⟨#[97+j]⟩:Str).length == 1&& !(Builtin.Str.occurrences colS ⟨#[97+j]⟩ 0 colS.length 1).isEmpty)=true:=by decide +kernel
theorem MO {i:Int} (h0:0<=i) (h1:i<26):JY (R6 i):=by
  have h:=Pf i.toNat (by omega);simp only [Bool.and_eq_true,beq_iff_eq] at h;exact ⟨h.1,h.2⟩
theorem Kz (s:Nat):(0:Int)<1*2 ^ ((s:Nat):Int).toNat:=by
  rw [Int.toNat_natCast,Fa];have:=Nat.two_pow_pos s;omega
theorem LF (x:Int) (s:Nat):x%(1*2 ^ ((s:Nat):Int).toNat)=(((x%(2 ^ s:Nat)).toNat:Nat):Int):=by
  rw [Int.toNat_natCast,Fa];have hp:=Nat.two_pow_pos s;have:=Int.emod_nonneg x (show ((2 ^ s:Nat):Int)≠0 by omega);omega
def Er (K:PySem.W.Frag):Sp:=λ vs H Q _=>∃ (a:Addr) (ns:List Int) (m:Nat),vs=[.ref a,nV m]/\SqL K H a (ns.map V.int)/\ns.length<=63/\1<=m/\m<=16/\∀ H' p d,Same H H'->H p=none->Rp H' (FN H) 3 (.ref p) (dDr d)->DrOk d->Q (.ref p) H'
noncomputable abbrev Dn:Stmt:=top 67
theorem sc__law_draft:FnScope ["_law_script","_law_most","_law_whole_here","_law_shafts","_law_treadles","_law_letters","_law_ends","_law_picks","_law_ties","_law_treading","_law_warp","_law_weft"] ["_law_script","_law_most"] (Af Dn):=⟨rfl,rfl,rfl,by decide +kernel,rfl,by decide +kernel,by decide +kernel⟩
theorem Io {f:Addr} {fd:FuncData} (F:Fun K "_law_draft" "_law_draft" Dn f fd) (T:Txt K mg c) (c__law_mixed:Aw P w K mg base "_law_mixed" 1 ["_law_cell","_law_k"] CA) (c__law_cells:Aw P w K mg base "_law_cells" 1 ["_law_script","_law_first"] (Es K)) (c__law_numbers:Aw P w K mg base "_law_numbers" 1 ["_law_mask","_law_most"] DE):FnOk P w K mg base CX0 2 f fd ["_law_script","_law_most"] (Er K):=by
  refine F.ok sc__law_draft (λ vs H Q E h=> ?_) (λ cdv A outer s H vs Q E hr h=> ?_)
  · obtain ⟨a,ns,m,rfl,_⟩:=h;rfl
  · obtain ⟨a,ns,m,rfl,sa,hn,m1,m2,k⟩:=h;refine ⟨_,(Ad (Ao (i:=2) sc__law_draft.nd rfl (Or.inr rfl) (Al (Qh (K:=K)) rfl (T.own _ (by decide)) boot_sum (Aa (Fw (K:=K) (Gu (K:=K) rfl (T.own _ (by decide)) (Aa (pv 0) Ab)) (λ _ _ _ _=>Ax) (λ _ _ _ _=>(Ak FI (Ak A8 (pv 1) Ae) (Ak AG (pv 0) Ae)))) Ab)))
      (Ad (Ao (i:=3) sc__law_draft.nd rfl (Or.inr rfl) (Ak AG Ae (Ak A8 (Ag c__law_mixed hr (Aa (pv 2) (Aa Ae Ab))) (pv 1))))
      (Ad (Ao (i:=4) sc__law_draft.nd rfl (Or.inr rfl) (Ak AG Ae (Ak A8 (Ag c__law_mixed hr (Aa (pv 2) (Aa Ae Ab))) (pv 1))))
      (Ad (Ao (i:=5) sc__law_draft.nd rfl (Or.inr rfl) Ap)
      (Ad (Ao (i:=6) sc__law_draft.nd rfl (Or.inl rfl) (Ag c__law_cells hr (Aa (pv 0) (Aa Ae Ab))))
      (Ad (Ao (i:=7) sc__law_draft.nd rfl (Or.inl rfl) (Ag c__law_cells hr (Aa (pv 0) (Aa Ae Ab))))
      (Ad (Cj (i:=8) sc__law_draft.nd rfl (Or.inl rfl) (Bi rfl (T.own _ (by decide)) (Aa (pv 4) Ab)) (λ _ _ _ _=>Ax) (λ _ _ _ _=>(Ag c__law_numbers hr (Aa (Ak A8 (Ag c__law_mixed hr (Aa (pv 2) (Aa (Ak AG Ae (pv 0)) Ab))) (Ak DJ Ae (pv 1))) (Aa (pv 1) Ab)))))
      (Ad (Cj (i:=9) sc__law_draft.nd rfl (Or.inl rfl) (BC (K:=K) (pv 7)) (λ _ _ _ _=>Ax) (λ _ _ _ _=>(Ag c__law_numbers hr (Aa (Ak A8 (pv 0) (Ak DJ Ae (pv 1))) (Aa (pv 1) Ab)))))
      (Ad (A7 (As B0 (Ak A8 (Ag c__law_mixed hr (Aa (pv 2) (Aa Ae Ab))) Ae) Ae (Ay _)) (Ah (Cj (i:=9) sc__law_draft.nd rfl (Or.inl rfl) (BC (K:=K) (pv 7)) (λ _ _ _ _=>Ax) (λ _ _ _ _=>(AS (Aa (Ak AG Ae (Ak A8 (pv 0) (pv 1))) Ab))))) Az)
      (Ad (Cj (i:=10) sc__law_draft.nd rfl (Or.inl rfl) (BC (K:=K) (pv 6)) (λ _ _ _ _=>Ax) (λ _ _ _ _=>(At MY (pv 1) (Ak A8 (Ak GB (pv 0) Ae) (Ak AG Ae (Ak A8 (Ag c__law_mixed hr (Aa (pv 2) (Aa Ae Ab))) Ae))) (λ _ _=>rfl))))
      (Ad (Cj (i:=11) sc__law_draft.nd rfl (Or.inl rfl) (BC (K:=K) (pv 7)) (λ _ _ _ _=>Ax) (λ _ _ _ _=>(At MY (pv 1) (Ak A8 (Ak GB (pv 0) Ae) (Ak AG Ae (Ak A8 (Ag c__law_mixed hr (Aa (pv 2) (Aa Ae Ab))) Ae))) (λ _ _=>rfl))))
      (Ah (An (AB (Aa (pv 3) (Aa (pv 4) (Aa (Au (BC (K:=K) (pv 6)) (λ _ _ _ _=>Ax) (λ _ _ _ _=>(Ak A8 (pv 0) (Ak AG (pv 1) Ae)))) (Aa (pv 8) (Aa (pv 9) (Aa (pv 10) (Aa (pv 11) Ab))))))))))))))))))))),?_⟩
    walk_at "w";refine ⟨a,rfl,⟨_,sa⟩,λ D0 hD0=> ?_⟩;refine BI (G:=λ i=>ns.getD i 0%1000000007*((i:Int)+1)) (Kw sa rfl rfl) hD0 (by rw [List.length_map];omega) ?_ ?_
    · intro i H' R hi s kk;have b1:=Int.emod_nonneg (ns.getD i 0) (show (1000000007:Int)≠0 by decide);have b2:=Int.emod_lt_of_pos (ns.getD i 0) (show (0:Int)<1000000007 by decide);rw [BP hi];walk_at "w";refine AH (by decide) ?_;walk_at "w";refine AH (.inl ⟨by omega,by omega⟩) ?_;exact kk H' (Same.refl _)
    intro H1 s1 hl1;walk_at "w";refine M5 (SqL.of hl1) ?_;generalize ((List.range (ns.map V.int).length).map λ i:Nat=>ns.getD i 0%1000000007*((i:Int)+1)).sum=W;walk_at "w";refine ⟨W,1,rfl,⟨by decide,by decide⟩,?_⟩;walk_at "w";refine AH (by show (0:Int)<(m:Nat);omega) ?_;walk_at "w";obtain ⟨sN,es,sN1,sN2⟩:∃ s:Nat,1+BF W 1%(m:Nat)=(s:Nat)/\1<=s/\s<=16:=by
      have h0:=Int.emod_nonneg (BF W 1) (show ((m:Nat):Int)≠0 by omega);have h1:=Int.emod_lt_of_pos (BF W 1) (show (0:Int)<(m:Nat) by omega);exact ⟨(1+BF W 1%(m:Nat)).toNat,by omega,by omega,by omega⟩
    rw [es];refine ⟨W,2,rfl,⟨by decide,by decide⟩,?_⟩;walk_at "w";refine AH (by show (0:Int)<(m:Nat);omega) ?_;walk_at "w";obtain ⟨tN,et,tN1,tN2⟩:∃ s:Nat,1+BF W 2%(m:Nat)=(s:Nat)/\1<=s/\s<=16:=by
      have h0:=Int.emod_nonneg (BF W 2) (show ((m:Nat):Int)≠0 by omega);have h1:=Int.emod_lt_of_pos (BF W 2) (show (0:Int)<(m:Nat) by omega);exact ⟨(1+BF W 2%(m:Nat)).toNat,by omega,by omega,by omega⟩
    rw [et];refine ⟨a,ns,0,rfl,s1.seq sa,hn,by decide,by decide,λ H2 pE eE s2 hpE hE lE1 lE2=> ?_⟩;walk_at "w";have s02:=s1.trans s2;refine ⟨a,ns,1,rfl,s02.seq sa,hn,by decide,by decide,λ H3 pP eP s3 hpP hP lP1 lP2=> ?_⟩;walk_at "w";have s03:=s02.trans s3;replace hE:=s3 _ _ hE;refine ⟨_,rfl,by omega,by omega,λ D4 hD4=> ?_⟩;rw [Int.toNat_natCast];refine AF (m:=1) (G:=λ i=>dL (GN (BF W (3+(i:Int))%(2 ^ sN:Nat)).toNat sN)) (Bp rfl) hD4 (by omega) ?_ ?_
    · intro i H' R hi s kk;walk_at "w";refine ⟨W,_,rfl,⟨by omega,by omega⟩,?_⟩;walk_at "w";refine AH ⟨by omega,by omega,by decide⟩ ?_;walk_at "w";refine AH (Kz sN) ?_;walk_at "w";rw [LF];exact ⟨_,sN,rfl,by omega,λ H4 p4 s4 hp4 h4=>kk H4 _ s4 (Gb h4 hp4 (by unfold GN;rw [List.length_map];exact Nat.le_trans (List.length_filter_le _ _) (by simp;omega)))⟩
    intro H4 ys4 s4 hl4 r4;rw [JC] at r4;have s04:=s03.trans s4;replace r4:Rp H4 (FN H) 2 (.ref D4) _:=r4.imp λ a ha=>s03.free ha;replace hE:=s4 _ _ hE;replace hP:=s4 _ _ hP;generalize eTI:((List.range tN).map λ i:Nat=>GN (BF W (3+(i:Int))%(2 ^ sN:Nat)).toNat sN)=TI at r4;have lTI:TI.length=tN:=by rw [<-eTI];simp
    have rTI:∀ l∈TI,Rise sN l:=λ l hl=>by
      rw [<-eTI] at hl;obtain ⟨i,_,rfl⟩:=List.mem_map.mp hl;exact F4 _ sN
    walk_at "w";refine ⟨pP,rfl,⟨_,SqL.of hP⟩,λ D5 hD5=> ?_⟩;refine AF (m:=1) (G:=λ i=>dL (GN (eP.getD i 0%(2 ^ tN:Nat)).toNat tN)) (A4 (SqL.of hP) rfl) hD5 (by rw [List.length_map];omega) ?_ ?_
    · intro i H' R hi s kk;rw [BP hi];walk_at "w";refine AH ⟨by omega,by omega,by decide⟩ ?_;walk_at "w";refine AH (Kz tN) ?_;walk_at "w";rw [LF];exact ⟨_,tN,rfl,by omega,λ H4 p4 s4 hp4 h4=>kk H4 _ s4 (Gb h4 hp4 (by unfold GN;rw [List.length_map];exact Nat.le_trans (List.length_filter_le _ _) (by simp;omega)))⟩
    intro H5 ys5 s5 hl5 r5;rw [List.length_map,JC] at r5;have s05:=s04.trans s5;replace r5:Rp H5 (FN H) 2 (.ref D5) _:=r5.imp λ a ha=>s04.free ha;replace r4:=r4.same s5;replace hE:=s5 _ _ hE;replace hP:=s5 _ _ hP;walk_at "v";refine ifJ (λ σ' H6=>∃ v9 TD,σ'=[some (.ref a),some (nV m),some (.int W),some (nV sN),some (nV tN),some (.str "abcdefghijklmnopqrstuvwxyz"),some (.ref pE),some (.ref pP),some (.ref D4),some v9,none,none]/\Same H5 H6/\Rp H6 (FN H) 2 v9 (dLL TD)/\TD.length=eP.length/\∀ l∈TD,Rise tN l) ?_ (λ key=> ?_)
    · rintro σ' H6 ⟨v9,TD,rfl,s6,r9,lTD,rTD⟩;have s06:=s05.trans s6;replace r4:=r4.same s6;replace hE:=s6 _ _ hE;replace hP:=s6 _ _ hP;walk_at "w";refine ⟨pE,rfl,⟨_,SqL.of hE⟩,λ D7 hD7=> ?_⟩;have bm:∀ k:Int,(0:Int)<1+BF W k%26/\1+BF W k%26<=26:=λ k=>by
        have h0:=Int.emod_nonneg (BF W k) (show (26:Int)≠0 by decide);have h1:=Int.emod_lt_of_pos (BF W k) (show (0:Int)<26 by decide);omega
      have bq:∀ (x k:Int),0<=x%(1+BF W k%26)/\x%(1+BF W k%26)<26:=λ x k=>by
        have h:=bm k;have h0:=Int.emod_nonneg x (show (1+BF W k%26)≠0 by omega);have h1:=Int.emod_lt_of_pos x h.1;omega
      refine AF (m:=0) (G:=λ i=> .str (R6 (eE.getD i 0 / 17%(1+BF W 41%26)))) (A4 (SqL.of hE) rfl) hD7 (by rw [List.length_map];omega) ?_ ?_
      · intro i H' R hi s kk;rw [BP hi];walk_at "w";refine AH ⟨by decide,by decide⟩ ?_;walk_at "w";refine ⟨W,41,rfl,⟨by decide,by decide⟩,?_⟩;walk_at "w";refine AH (by decide) ?_;walk_at "w";refine AH (bm 41).1 ?_;have:=bq (eE.getD i 0 / 17) 41;refine Nh (by decide) (Lu this.1 this.2) ?_;exact kk H' _ (Same.refl _) (.str _)
      intro H7 ys7 s7 hl7 r7;rw [List.length_map,NG] at r7;have s07:=s06.trans s7;replace r7:Rp H7 (FN H) 2 (.ref D7) _:=(r7.imp λ a ha=>s06.free ha).up (by decide);replace r4:=r4.same s7;replace r9:=r9.same s7;replace hE:=s7 _ _ hE;replace hP:=s7 _ _ hP;walk_at "w";refine ⟨pP,rfl,⟨_,SqL.of hP⟩,λ D8 hD8=> ?_⟩;refine AF (m:=0) (G:=λ i=> .str (R6 (eP.getD i 0 / 70000%(1+BF W 42%26)))) (A4 (SqL.of hP) rfl) hD8 (by rw [List.length_map];omega) ?_ ?_
      · intro i H' R hi s kk;rw [BP hi];walk_at "w";refine AH ⟨by decide,by decide⟩ ?_;walk_at "w";refine ⟨W,42,rfl,⟨by decide,by decide⟩,?_⟩;walk_at "w";refine AH (by decide) ?_;walk_at "w";refine AH (bm 42).1 ?_;have:=bq (eP.getD i 0 / 70000) 42;refine Nh (by decide) (Lu this.1 this.2) ?_;exact kk H' _ (Same.refl _) (.str _)
      intro H8 ys8 s8 hl8 r8;rw [List.length_map,NG] at r8;have s08:=s07.trans s8;replace r8:Rp H8 (FN H) 2 (.ref D8) _:=(r8.imp λ a ha=>s07.free ha).up (by decide);replace r4:=r4.same s8;replace r9:=r9.same s8;replace r7:=r7.same s8;replace hE:=s8 _ _ hE;walk_at "w";refine ⟨pE,rfl,⟨_,SqL.of hE⟩,λ DA hDA=> ?_⟩;refine AF (m:=0) (G:=λ i=>dN (eE.getD i 0%((sN+1:Nat):Int)).toNat) (A4 (SqL.of hE) rfl) hDA (by rw [List.length_map];omega) ?_ ?_
      · intro i H' R hi s kk;rw [BP hi];walk_at "w";refine AH (by show (0:Int)<_;omega) ?_;have h0:=Int.emod_nonneg (eE.getD i 0) (show ((sN:Nat):Int)+1≠0 by omega);have e:eE.getD i 0%(((sN:Nat):Int)+1)=(((eE.getD i 0%((sN+1:Nat):Int)).toNat:Nat):Int):=by
          rw [show ((sN+1:Nat):Int)=((sN:Nat):Int)+1 by omega];omega
        rw [e];exact kk H' _ (Same.refl _) (.int _)
      intro HA ysA sA hlA rA;rw [List.length_map,Q3] at rA;have s0A:=s08.trans sA;replace rA:Rp HA (FN H) 2 (.ref DA) _:=(rA.imp λ a ha=>s08.free ha).up (by decide);replace r4:=r4.same sA;replace r9:=r9.same sA;replace r7:=r7.same sA;replace r8:=r8.same sA;walk_at "w";intro p hp;have sB:=Ai (o:=HO.tup [nV sN,nV tN, .ref DA, .ref D4,v9, .ref D7, .ref D8]) hp;refine k _ p ⟨sN,tN,_,TI,TD,_,_⟩ (s0A.trans sB) (s0A.free hp) (LP Ac (.int _) (.int _) (rA.same sB) (r4.same sB) (r9.same sB) (r7.same sB) (r8.same sB)) ?_;exact {
        s1:=sN1,s2:=sN2,t1:=tN1,t2:=tN2
        h1:=by simpa using lE1
        h2:=by simpa using lE2.1
        hs:=λ n hn=>by
          obtain ⟨i,_,rfl⟩:=List.mem_map.mp hn;have h0:=Int.emod_nonneg (eE.getD i 0) (show ((sN+1:Nat):Int)≠0 by omega);have h1:=Int.emod_lt_of_pos (eE.getD i 0) (show (0:Int)<((sN+1:Nat):Int) by omega);show _<=sN;omega
        il:=lTI,ir:=rTI
        p1:=by show 1<=TD.length;omega
        p2:=by show TD.length<=60;omega
        pr:=rTD
        wl:=by simp
        wc:=λ z hz=>by
          obtain ⟨i,_,rfl⟩:=List.mem_map.mp hz;exact MO (bq _ 41).1 (bq _ 41).2
        fl:=by simp [lTD]
        fc:=λ z hz=>by
          obtain ⟨i,_,rfl⟩:=List.mem_map.mp hz;exact MO (bq _ 42).1 (bq _ 42).2 }
    · walk_at "w";refine ⟨W,40,rfl,⟨by decide,by decide⟩,?_⟩;walk_at "w";refine AH (by decide) ?_;walk_at "w";refine Dg (λ h0=> ?_) (λ h0=> ?_)
      · walk_at "w";refine ⟨pP,rfl,⟨_,SqL.of hP⟩,λ D6 hD6=> ?_⟩;refine AF (m:=1) (G:=λ i=>dL [(1+eP.getD i 0%(tN:Nat)).toNat]) (A4 (SqL.of hP) rfl) hD6 (by rw [List.length_map];omega) ?_ ?_
        · intro i H' R hi s kk;rw [BP hi];walk_at "w";refine AH (by show (0:Int)<(tN:Nat);omega) ?_;walk_at "w";intro q hq;have h0:=Int.emod_nonneg (eP.getD i 0) (show ((tN:Nat):Int)≠0 by omega);refine kk _ _ (Ai hq) (Gb ?_ hq (by simp));rw [Ac];show some (HO.lst [V.int (1+eP.getD i 0%(tN:Nat))])=some (HO.lst [V.int (((1+eP.getD i 0%(tN:Nat)).toNat:Nat):Int)]);congr 4;omega
        · intro H6 ys6 s6 hl6 r6;rw [List.length_map,JC (λ i=>[(1+eP.getD i 0%(tN:Nat)).toNat])] at r6;refine LD ?_;refine key _ _ ⟨_,_,rfl,s6,r6.imp λ a ha=>s05.free ha,by simp,λ l hl=> ?_⟩;obtain ⟨i,_,rfl⟩:=List.mem_map.mp hl;have h0:=Int.emod_nonneg (eP.getD i 0) (show ((tN:Nat):Int)≠0 by omega);have h1:=Int.emod_lt_of_pos (eP.getD i 0) (show (0:Int)<(tN:Nat) by omega);intro j hj;have hj:j=0:=by simpa using hj
          subst hj;show 0+1<=(1+eP.getD i 0%(tN:Nat)).toNat/\(1+eP.getD i 0%(tN:Nat)).toNat<=tN;omega
      · refine Em ?_;refine key _ _ ⟨_,_,rfl,Same.refl _,r5,by simp,λ l hl=> ?_⟩;obtain ⟨i,_,rfl⟩:=List.mem_map.mp hl;exact F4 _ tN
abbrev Ft:=Str × List Nat
noncomputable def fV (f:Ft):List V:= .str f.1::f.2.map nV
noncomputable def dF (f:Ft):Dt:= .tup (.str f.1::f.2.map dN)
def TF (H:Hp) (v:V) (f:Ft):Prop:=∃ a,v= .ref a/\H a=some (.tup (fV f))/\f.2.length<=10
structure FsAt (H:Hp) (vs:List V) (fs:List Ft):Prop where
  len:vs.length=fs.length
  el:∀ (i:Nat) (v:V) (f:Ft),vs[i]?=some v->fs[i]?=some f->TF H v f
theorem FsAt.keep {H H':Hp} {vs:List V} {fs:List Ft} (h:FsAt H vs fs) (k:∀ a xs,H a=some (.tup xs)->H' a=some (.tup xs)):FsAt H' vs fs:=
  ⟨h.len,λ i v f h1 h2=>let ⟨a,e,ha,l⟩:=h.el i v f h1 h2;⟨a,e,k _ _ ha,l⟩⟩
theorem FsAt.same {H H':Hp} {vs:List V} {fs:List Ft} (h:FsAt H vs fs) (s:Same H H'):FsAt H' vs fs:=h.keep λ a xs e=>s a _ e
theorem FsAt.put {H:Hp} {vs:List V} {fs:List Ft} {p:Addr} {o:HO} {us:List V} (h:FsAt H vs fs) (hp:H p=some (.lst us)):FsAt (upd H p o) vs fs:=h.keep λ a xs e=>by
  rw [Aj (λ z=>by rw [z,hp] at e;cases e)];exact e
theorem FsAt.nil (H:Hp):FsAt H [] []:=⟨rfl,λ i v f h1 h2=>by cases h1⟩
theorem FsAt.app {H:Hp} {vs us:List V} {fs gs:List Ft} (h:FsAt H vs fs) (h2:FsAt H us gs):FsAt H (vs++us) (fs++gs):=by
  refine ⟨by rw [List.length_append,List.length_append,h.len,h2.len],λ i v f e1 e2=> ?_⟩;rcases Nat.lt_or_ge i vs.length with z | z
  · rw [List.getElem?_append_left z] at e1;rw [List.getElem?_append_left (by rw [<-h.len];exact z)] at e2;exact h.el i v f e1 e2
  · rw [List.getElem?_append_right z] at e1;rw [List.getElem?_append_right (by rw [<-h.len];exact z), <-h.len] at e2;exact h2.el _ v f e1 e2
theorem FY {H:Hp} {F:Addr->Prop} {n:Nat} {a:Addr} {f:Ft} (h:H a=some (.tup (fV f))) (l:f.2.length<=10):Rp H F (n+1) (.ref a) (dF f):=by
  refine .tup h (by unfold fV;simp;omega) (by unfold fV;simp) λ i v d h1 h2=> ?_;cases i with
  | zero=>cases h1;cases h2;exact .str _
  | succ i=>exact FR (f:=nV) (g:=dN) (λ k _=> .int _) i v d h1 h2
theorem Xg {H:Hp} {F:Addr->Prop} {n:Nat} {v:V} {f:Ft} (r:Rp H F n v (dF f)) (l:f.2.length<=10):TF H v f:=by
  unfold dF at r;obtain ⟨m,a,vs,rfl,rfl,ha,hl,hb,el⟩:=BX r;have e:vs=fV f:=by
    refine List.ext_getElem? λ i=> ?_;rcases Nat.lt_or_ge i vs.length with z | z
    · have hi:i<(Dt.str f.1::f.2.map dN).length:=by omega
      have h0:=el i hi;have hv:vs[i]?=some (vs.getD i .non):=by rw [List.getD_eq_getElem?_getD,List.getElem?_eq_getElem z];rfl
      rw [hv];cases i with
      | zero=>
        generalize vs.getD 0 .non=y at h0 ⊢;cases h0;rfl
      | succ i=>
        have hi':i<f.2.length:=by simpa using hi
        have e1:(Dt.str f.1::f.2.map dN).getD (i+1) .non=dN (f.2.getD i 0):=by
          rw [List.getD_eq_getElem?_getD,List.getElem?_cons_succ,List.getElem?_map,List.getElem?_eq_getElem hi',List.getD_eq_getElem?_getD,List.getElem?_eq_getElem hi'];rfl
        rw [e1] at h0;generalize vs.getD (i+1) .non=y at h0 ⊢;cases h0;show _=(V.str f.1::f.2.map nV)[i+1]?;rw [List.getElem?_cons_succ,List.getElem?_map,List.getElem?_eq_getElem hi',List.getD_eq_getElem?_getD,List.getElem?_eq_getElem hi'];rfl
    · rw [List.getElem?_eq_none z,List.getElem?_eq_none (by unfold fV;simp at hl ⊢;omega)]
  exact ⟨a,rfl,e▸ha,l⟩
theorem F2 {H:Hp} {F:Addr->Prop} {n:Nat} {p:Addr} {fs:List Ft} {vs:List V} (r:Rp H F n (.ref p) (.lst (fs.map dF))) (hp:H p=some (.lst vs)) (l:∀ f∈fs,f.2.length<=10):FsAt H vs fs/\vs.length<=100000:=by
  obtain ⟨m,a,vs',rfl,e,ha,hf,hl,hb,el⟩:=BG r;cases e;rw [hp] at ha;cases ha;rw [List.length_map] at hl;refine ⟨⟨hl,λ i v f h1 h2=> ?_⟩,hb⟩;have hi:i<fs.length:=(List.getElem?_eq_some_iff.mp h2).1;have r1:=el i (by simpa using hi);rw [List.getD_eq_getElem?_getD,h1,List.getD_eq_getElem?_getD,List.getElem?_map,h2] at r1;exact Xg r1 (l f (List.mem_of_getElem? h2))
noncomputable def Br (lo hi:Nat) (ns:List Nat):List Nat:=((List.range (hi+1 - lo)).map (lo+ ·)).filter λ s=> !decide (s∈ns)
theorem IU {H:Hp} {Q:VK} {tp:Bool} {p:Addr} {s:Nat} {ns:List Nat} (c:SqS tp K H p (ns.map nV)) (h:Q (.bl (!decide (s∈ns))) H):rIn K true (nV s) (.ref p) H Q:=by
  refine ⟨p,_,rfl,?_,rfl,Ku ns,by rw [Lp];exact h⟩;cases tp with
  | false=>exact .inl c
  | true=>exact .inr c
def Ew (K:PySem.W.Frag):Sp:=λ vs H Q _=>∃ tp a,∃ ns:List Nat,∃ lo hi:Nat,vs=[.ref a,nV lo,nV hi]/\SqS tp K H a (ns.map nV)/\lo<=1/\hi<=16/\∀ H' p,Same H H'->H p=none->H' p=some (.lst ((Br lo hi ns).map nV))->Q (.ref p) H'
noncomputable abbrev Dk:Stmt:=top 38
theorem HW:FnScope ["left_out","least","most"] ["left_out","least","most"] (Af Dk):=⟨rfl,rfl,rfl,by decide +kernel,rfl,by decide +kernel,by decide +kernel⟩
theorem HK {f:Addr} {fd:FuncData} (F:Fun K "shafts_but" "shafts_but" Dk f fd) (T:Txt K mg c):FnOk P w K mg base CX0 1 f fd ["left_out","least","most"] (Ew K):=by
  refine F.ok HW (λ vs H Q E h=> ?_) (λ cdv A outer s H vs Q E hr h=> ?_)
  · obtain ⟨tp,a,ns,lo,hi,rfl,_⟩:=h;rfl
  · obtain ⟨tp,a,ns,lo,hi,rfl,sa,h1,h2,k⟩:=h;refine ⟨_,(Ah (An (Au (CN rfl (T.own _ (by decide)) (Aa (pv 1) (Aa (Ak AG (pv 2) Ae) Ab))) (λ _ _ _ _=>(Cp (As (LS (K:=K)) (pv 0) (pv 1) (by with_unfolding_all rfl)))) (λ _ _ _ _=>(pv 0))))),?_⟩;walk_at "w";refine ⟨_,_,rfl,⟨by omega,by omega,by omega,by omega⟩,λ D hD=> ?_⟩;rw [show (((hi:Nat):Int)+1 - (lo:Nat)).toNat=hi+1 - lo by omega];refine Du (p:=λ i=> !decide (lo+i∈ns)) (G:=λ i=>((lo+i:Nat):Int)) (CM rfl) hD (by omega) ?_ ?_ ?_
    · intro i H' R hi' s kk;rw [show ((lo:Nat):Int)+(i:Nat)=((lo+i:Nat):Int) by omega];walk_at "w";refine IU (tp:=tp) (SqS.same sa s) ?_;exact ⟨_,rfl,kk H' (Same.refl _)⟩
    · intro i H' R hi' hp s kk;rw [show ((lo:Nat):Int)+(i:Nat)=((lo+i:Nat):Int) by omega];walk_at "w";exact kk H' (Same.refl _)
    · intro H' s hl;refine k H' D s hD ?_;rw [hl];unfold Br;rw [List.filter_map,List.map_map,List.map_map];rfl
noncomputable def A5 (z:Str) (m:Nat):List Ft:=(List.range m).map λ i=>(z,[i+1])
def DY:Sp:=λ vs H Q _=>∃ (z:Str) (m:Nat),vs=[.str z,nV m]/\m<=60/\∀ H' p ws,Same H H'->H p=none->H' p=some (.lst ws)->FsAt H' ws (A5 z m)->Q (.ref p) H'
noncomputable abbrev Cy:Stmt:=top 56
theorem Hh:FnScope ["kind","most"] ["kind","most"] (Af Cy):=⟨rfl,rfl,rfl,by decide +kernel,rfl,by decide +kernel,by decide +kernel⟩
theorem Ha {f:Addr} {fd:FuncData} (F:Fun K "lone_faults" "lone_faults" Cy f fd) (T:Txt K mg c):FnOk P w K mg base CX0 1 f fd ["kind","most"] DY:=by
  refine F.ok Hh (λ vs H Q E h=> ?_) (λ cdv A outer s H vs Q E hr h=> ?_)
  · obtain ⟨z,m,rfl,_⟩:=h;rfl
  · obtain ⟨z,m,rfl,hm,k⟩:=h;refine ⟨_,(Ah (An (Au (CN rfl (T.own _ (by decide)) (Aa Ae (Aa (Ak AG (pv 1) Ae) Ab))) (λ _ _ _ _=>Ax) (λ _ _ _ _=>(AB (Aa (pv 1) (Aa (pv 0) Ab))))))),?_⟩;walk_at "w";refine ⟨_,_,rfl,⟨by decide,by decide,by omega,by omega⟩,λ D hD=> ?_⟩;rw [show (((m:Nat):Int)+1 - 1).toNat=m by omega];refine AF (m:=1) (G:=λ i=>dF (z,[i+1])) (CM rfl) hD (by omega) ?_ ?_
    · intro i H' R hi s kk;rw [show (1:Int)+(i:Nat)=((i+1:Nat):Int) by omega];walk_at "w";intro q hq;exact kk _ _ (Ai hq) (FY (f:=(z,[i+1])) Ac (by simp))
    · intro H' ys s hl r;have e:(List.range m).map (λ i=>dF (z,[i+1]))=(A5 z m).map dF:=by unfold A5;rw [List.map_map];rfl
      rw [e] at r;refine k H' D ys s hD hl (F2 r hl λ f hf=> ?_).1;obtain ⟨i,_,rfl⟩:=List.mem_map.mp hf;simp
noncomputable def shF (z:Str) (xss:List (List Nat)):Nat->List Ft
  | 0=>[]
  | i+1=>shF z xss i++(xss.getD i []).map λ s=>(z,[i+1,s])
def LsAt (tp:Bool) (K:PySem.W.Frag) (H:Hp) (a:Addr) (xss:List (List Nat)):Prop:=∃ vs,SqS tp K H a vs/\vs.length=xss.length/\∀ i,i<xss.length->∃ b,vs.getD i .non= .ref b/\SqS tp K H b ((xss.getD i []).map nV)/\(xss.getD i []).length<=17
theorem Dw {z:Str} {xss:List (List Nat)} (h:∀ i,i<xss.length->(xss.getD i []).length<=17):∀ i,i<=xss.length->(shF z xss i).length<=17*i
  | 0,_=>by simp [shF]
  | i+1,hi=>by
    have:=Dw (z:=z) h i (by omega);have:=h i (by omega);show (shF z xss i++(xss.getD i []).map λ s=>((z,[i+1,s]):Ft)).length<=_;rw [List.length_append,List.length_map];omega
def DD (K:PySem.W.Frag):Sp:=λ vs H Q _=>∃ z:Str,∃ tp a xss,vs=[.str z, .ref a]/\LsAt tp K H a xss/\xss.length<=60/\∀ H' p ws,Same H H'->H p=none->H' p=some (.lst ws)->FsAt H' ws (shF z xss xss.length)->Q (.ref p) H'
noncomputable abbrev Ck:Stmt:=top 57
theorem sc_shaft_faults:FnScope ["kind","lists","faults","number","shafts"] ["kind","lists"] (Af Ck):=⟨rfl,rfl,rfl,by decide +kernel,rfl,by decide +kernel,by decide +kernel⟩
theorem Gk {f:Addr} {fd:FuncData} (F:Fun K "shaft_faults" "shaft_faults" Ck f fd) (T:Txt K mg c):FnOk P w K mg base CX0 1 f fd ["kind","lists"] (DD K):=by
  refine F.ok sc_shaft_faults (λ vs H Q E h=> ?_) (λ cdv A outer s H vs Q E hr h=> ?_)
  · obtain ⟨z,tp,a,xss,rfl,_⟩:=h;rfl
  · obtain ⟨z,tp,a,xss,rfl,⟨vs,sa,lv,el⟩,hx,k⟩:=h;refine ⟨_,(Ad (Ao (i:=2) sc_shaft_faults.nd rfl (Or.inl rfl) (AS Ab))
      (Ad (BW PassesOwn.never rfl (KC (K:=K) rfl (T.own _ (by decide)) (Aa (pv 1) Ab)) (GG (K:=K) rfl (A2 (AO (i:=3) sc_shaft_faults.nd rfl (Or.inr rfl)) (A2 (AO (i:=4) sc_shaft_faults.nd rfl (Or.inl rfl)) En))) (Ah (AT (IK (K:=K) PySem.F.plainAttrs_list PySem.F.slot_list_extend PySem.F.type_list_extend Ej (pv 2) (Aa (Au (L4 (K:=K) (pv 4)) (λ _ _ _ _=>Ax) (λ _ _ _ _=>(AB (Aa (pv 1) (Aa (pv 2) (Aa (pv 0) Ab)))))) Ab)))))
      (Ah (An (pv 2))))),?_⟩
    walk_at "w";intro q hq;walk_at "w";have s1:=Ai (o:=HO.lst []) hq;refine ⟨tp,a,rfl,⟨_,SqS.same sa s1⟩,EZ (H0:=H) (Kf sa) (λ i σ H3=>∃ y u ws,σ=[some (.str z),some (.ref a),some (.ref q),y,u]/\Same H H3/\H3 q=some (.lst ws)/\FsAt H3 ws (shF z xss i)) ⟨_,_,[],rfl,s1,Ac,FsAt.nil _⟩ (λ i σ H3 ⟨_,_,_,_,s,_⟩=>s) ?_ ?_⟩
    · rintro i σ H' H3 hi ⟨y,u,ws,rfl,s',hw,fw⟩ s3;have hi':i<xss.length:=by omega
      have sH:=s'.trans s3;obtain ⟨b,eb,hb,lb⟩:=el i hi';rw [eb];walk_at "w";refine tyL (SqL.of (s3 _ _ hw)) ?_;walk_at "w";refine ⟨tp,b,rfl,⟨_,SqS.same hb sH⟩,λ D hD=> ?_⟩;refine AF (m:=1) (G:=λ j=>dF (z,[i+1,(xss.getD i []).getD j 0])) (NW (SqS.same hb sH) rfl) hD (by rw [List.length_map];omega) ?_ ?_
      · intro j H4 R hj s4 kk;rw [Bb hj];walk_at "w";intro t ht;exact kk _ _ (Ai ht) (FY (f:=(z,[i+1,(xss.getD i []).getD j 0])) Ac (by simp))
      · intro H4 ys s4 hl r;rw [List.length_map] at r;have e:(List.range (xss.getD i []).length).map (λ j=>dF (z,[i+1,(xss.getD i []).getD j 0]))=((xss.getD i []).map λ s=>((z,[i+1,s]):Ft)).map dF:=by
          rw [List.map_map];exact AI (λ s=>dF (z,[i+1,s])) (xss.getD i []) 0
        rw [e] at r;have fy:=(F2 r hl λ f hf=>by
          obtain ⟨i,_,rfl⟩:=List.mem_map.mp hf;simp).1
        have hq4:=s4 _ _ (s3 _ _ hw);have fw4:=fw.same (s3.trans s4);have lw:=fw.len;have ly:=fy.len;have:=Dw (z:=z) (xss:=xss) (λ i hi=>let ⟨_,_,_,l⟩:=el i hi;l) i (by omega);walk_at "w";refine Jy hq4 hl (by rw [List.length_map] at ly;omega) ?_;walk_at "w";refine ⟨_,_,_,rfl,?_,Ac,(fw4.app fy).put hq4⟩;exact λ b' o e=>by
          rw [Aj (λ w=>by rw [w,hq] at e;cases e)];exact s4 _ _ (sH _ _ e)
    · rintro σ H3 ⟨y,u,ws,rfl,s3,hw,fw⟩;walk_at "w";rw [lv] at fw;exact k H3 q ws s3 hq hw fw
noncomputable def BU (d:Dr):List Ft:=A5 "up" d.sh++A5 "down" d.sh++A5 "broken" d.th.length++shF "loose" d.ti d.ti.length++shF "tied" (d.ti.map (Br 1 d.sh)) d.ti.length++shF "drawn" (d.th.map λ k=>Br 0 d.sh [k]) d.th.length
theorem Qq {H:Hp} {F:Addr->Prop} {n:Nat} {D:Addr} {xss:List (List Nat)} (r:Rp H F n (.ref D) (.lst (xss.map dL))) (l:∀ xs∈xss,xs.length<=17):LsAt false K H D xss:=by
  obtain ⟨m,a,vs,rfl,e,ha,hf,hl,hb,el⟩:=BG r;cases e;rw [List.length_map] at hl;refine ⟨vs,SqL.of ha,hl,λ i hi=> ?_⟩;have r1:=el i (by simpa using hi);rw [AM dL xss i .non [] hi] at r1;obtain ⟨b,eb,hb1,_,_⟩:=CO r1;exact ⟨b,eb,SqL.of hb1,l _ (AA (y:=[]) hi)⟩
theorem Va {H:Hp} {F:Addr->Prop} {n:Nat} {D:Addr} {xss:List (List Nat)} (r:Rp H F n (.ref D) (dTT xss)) (l:∀ xs∈xss,xs.length<=17):LsAt true K H D xss:=by
  obtain ⟨m,a,vs,rfl,e,ha,hl,hb,el⟩:=BX r;cases e;rw [List.length_map] at hl;refine ⟨vs,SqT.of ha,hl,λ i hi=> ?_⟩;have r1:=el i (by simpa using hi);rw [AM dT xss i .non [] hi] at r1;obtain ⟨b,eb,hb1,_⟩:=Dx r1;exact ⟨b,eb,SqT.of hb1,l _ (AA (y:=[]) hi)⟩
theorem LsAt.same {tp:Bool} {H H':Hp} {a:Addr} {xss:List (List Nat)} (h:LsAt tp K H a xss) (s:Same H H'):LsAt tp K H' a xss:=by
  obtain ⟨vs,h1,h2,h3⟩:=h;refine ⟨vs,SqS.same h1 s,h2,λ i hi=> ?_⟩;obtain ⟨b,e,h4,h5⟩:=h3 i hi;exact ⟨b,e,SqS.same h4 s,h5⟩
theorem Ct (lo hi:Nat) (ns:List Nat):(Br lo hi ns).length<=hi+1 - lo:=by
  unfold Br;refine Nat.le_trans (List.length_filter_le _ _) ?_;simp
theorem Jv {sh:Nat} {xs:List Nat} (r:Rise sh xs):∀ i,i<xs.length->i+1<=xs.getD i 0
  | 0,hi=>by have:=(r 0 hi).1;simpa using this
  | i+1,hi=>by
    have h0:=Jv r i (by omega);have h1:=(r (i+1) hi).1;have e:(0::xs).getD (i+1) 0=xs.getD i 0:=rfl;rw [e] at h1;omega
theorem Hd {sh:Nat} {xs:List Nat} (r:Rise sh xs):xs.length<=sh:=by
  rcases Nat.eq_zero_or_pos xs.length with z | z
  · omega
  · have h0:=Jv r (xs.length - 1) (by omega);have h1:=(r (xs.length - 1) (by omega)).2;omega
theorem Ld {H H1 H2:Hp} {q p:Addr} {w u:List V} {fs gs:List Ft} (s:Same H H1) (hq:H q=none) (g:H1 q=some (.lst w)) (f:FsAt H1 w fs) (s2:Same H1 H2) (f2:FsAt H2 u gs):
    Same H (upd H2 q (.lst (w++u)))/\upd H2 q (.lst (w++u)) q=some (.lst (w++u))/\FsAt (upd H2 q (.lst (w++u))) (w++u) (fs++gs):=by
  refine ⟨λ b o e=> ?_,Ac,((f.same s2).app f2).put (s2 _ _ g)⟩;rw [Aj (λ z=>by rw [z,hq] at e;cases e)];exact s2 _ _ (s _ _ e)
def EF (c:Cs):Sp:=λ vs H Q _=>∃ x d,vs=[.ref x]/\DrAt c.Draft H x d/\DrOk d/\∀ H' p ws,Same H H'->H p=none->H' p=some (.lst ws)->FsAt H' ws (BU d)->ws.length<=5000->Q (.ref p) H'
noncomputable abbrev Dq:Stmt:=top 58
theorem sc_all_faults:FnScope ["draft","shafts","faults"] ["draft"] (Af Dq):=⟨rfl,rfl,rfl,by decide +kernel,rfl,by decide +kernel,by decide +kernel⟩
theorem HJ {f:Addr} {fd:FuncData} (F:Fun K "all_faults" "all_faults" Dq f fd) (T:Txt K mg c) (c_lone_faults:Aw P w K mg base "lone_faults" 1 ["kind","most"] DY) (c_shaft_faults:Aw P w K mg base "shaft_faults" 1 ["kind","lists"] (DD K)) (c_shafts_but:Aw P w K mg base "shafts_but" 1 ["left_out","least","most"] (Ew K)) (d_Draft_ends:BE P w K mg base c.Draft "ends" 1 ["self"] (Cw c)):FnOk P w K mg base CX0 2 f fd ["draft"] (EF c):=by
  refine F.ok sc_all_faults (λ vs H Q E h=> ?_) (λ cdv A outer s H vs Q E hr h=> ?_)
  · obtain ⟨x,d,rfl,_⟩:=h;rfl
  · obtain ⟨x,d,rfl,dr,ok,k⟩:=h;have dr0:=dr;obtain ⟨dx,v1,v2,v3,v4,v5,h0,h1,h2,h3,h4,h5⟩:=dr;obtain ⟨a1,rfl,e1,b1⟩:=Dx h1;have s2:=ok.s2;have th2:=ok.h2;have til:=ok.il;have t2:=ok.t2;have lti:∀ xs∈d.ti,xs.length<=17:=λ xs hx=>by have:=Hd (ok.ir xs hx);omega
    refine ⟨_,(Ad (Ao (i:=1) sc_all_faults.nd rfl (Or.inr rfl) (AV (K:=K) (pv 0) rfl))
      (Ad (Ao (i:=2) sc_all_faults.nd rfl (Or.inl rfl) (Ak (CQ (K:=K)) (Ak (CQ (K:=K)) (Ag c_lone_faults hr (Aa (CH T.k_UP) (Aa (pv 1) Ab))) (Ag c_lone_faults hr (Aa (CH T.k_DOWN) (Aa (pv 1) Ab)))) (Ag c_lone_faults hr (Aa (CH T.k_BROKEN) (Aa (Bj (pv 0) d_Draft_ends hr) Ab)))))
      (Ad (AT (IK (K:=K) PySem.F.plainAttrs_list PySem.F.slot_list_extend PySem.F.type_list_extend Ej (pv 2) (Aa (Ag c_shaft_faults hr (Aa (CH T.k_LOOSE) (Aa (AV (K:=K) (pv 0) rfl) Ab))) Ab)))
      (Ad (AT (IK (K:=K) PySem.F.plainAttrs_list PySem.F.slot_list_extend PySem.F.type_list_extend Ej (pv 2) (Aa (Ag c_shaft_faults hr (Aa (CH T.k_TIED) (Aa (Au (II (K:=K) (AV (K:=K) (pv 0) rfl)) (λ _ _ _ _=>Ax) (λ _ _ _ _=>(Ag c_shafts_but hr (Aa (pv 0) (Aa Ae (Aa (pv 1) Ab)))))) Ab))) Ab)))
      (Ad (AT (IK (K:=K) PySem.F.plainAttrs_list PySem.F.slot_list_extend PySem.F.type_list_extend Ej (pv 2) (Aa (Ag c_shaft_faults hr (Aa (CH T.k_DRAWN) (Aa (Au (II (K:=K) (AV (K:=K) (pv 0) rfl)) (λ _ _ _ _=>Ax) (λ _ _ _ _=>(Ag c_shafts_but hr (Aa (AS (Aa (pv 0) Ab)) (Aa Ae (Aa (pv 1) Ab)))))) Ab))) Ab)))
      (Ah (An (pv 2)))))))),?_⟩
    walk_at "w";refine ⟨_,_,_,_,_,rfl,h0,T.kd_Draft.cl,T.na_Draft_shafts,rfl,?_⟩;walk_at "w";refine ⟨_,d.sh,rfl,by omega,λ H1 q1 w1 s1 hq1 g1 f1=> ?_⟩;walk_at "w";refine ⟨_,d.sh,rfl,by omega,λ H2 q2 w2 s2' hq2 g2 f2=> ?_⟩;walk_at "w";have l1:=f1.len;have l2:=f2.len;have n1:(A5 "up" d.sh).length=d.sh:=by simp [A5]
    have n2:(A5 "down" d.sh).length=d.sh:=by simp [A5]
    refine BK (SqL.of (s2' _ _ g1)) (SqL.of g2) (by omega) λ q3 hq3=> ?_;have s3:=Ai (o:=HO.lst (w1++w2)) hq3;have g3:upd H2 q3 (HO.lst (w1++w2)) q3=_:=Ac;generalize upd H2 q3 (HO.lst (w1++w2))=H3 at s3 g3 ⊢;have f3:=(f1.same (s2'.trans s3)).app (f2.same s3);have s03:=s1.trans (s2'.trans s3);walk_at "w";refine ⟨_,_,_,rfl,s03 _ _ h0,rfl,?_⟩;walk_at "w";refine ⟨x,d,rfl,dr0.same s03,?_⟩;walk_at "w";refine ⟨_,d.th.length,rfl,by omega,λ H4 q4 w4 s4 hq4 g4 f4=> ?_⟩;have l4:=f4.len;have n4:(A5 "broken" d.th.length).length=d.th.length:=by simp [A5]
    have l3:=f3.len;rw [List.length_append] at l3;refine BK (SqL.of (s4 _ _ g3)) (SqL.of g4) (by rw [List.length_append];omega) λ q hq5=> ?_;have s5:=Ai (o:=HO.lst (w1++w2++w4)) hq5;have g5:upd H4 q (HO.lst (w1++w2++w4)) q=_:=Ac;generalize upd H4 q (HO.lst (w1++w2++w4))=H5 at s5 g5 ⊢;have f5:=(f3.same (s4.trans s5)).app (f4.same s5);have s05:=s03.trans (s4.trans s5);have hq:=(s03.trans s4).free hq5;have l5:(w1++w2++w4).length<=92:=by rw [List.length_append,List.length_append];omega
    generalize w1++w2++w4=w5 at g5 f5 l5;clear f1 f2 f3 f4 g1 g2 g3 g4 l1 l2 l3 l4 n1 n2 n4 s1 s2' s3 s4 s5 hq1 hq2 hq3 hq4 hq5;walk_at "w";refine tyL (SqL.of g5) ?_;walk_at "w";refine ⟨_,_,_,_,_,rfl,s05 _ _ h0,T.kd_Draft.cl,T.na_Draft_ties,rfl,?_⟩;walk_at "w";obtain ⟨m2,a2,vs2,em2,ev2,ha2,hl2,hb2,el2⟩:=BX h2;cases em2;rw [List.length_map] at hl2;subst ev2;refine ⟨_,true,a2,d.ti,rfl,(Va h2 lti).same s05,by omega,λ H6 q6 w6 s6 hq6 g6 f6=> ?_⟩;walk_at "w";have l6:w6.length<=272:=by
      have:=Dw (z:="loose") (xss:=d.ti) (λ i hi=>lti _ (AA hi)) d.ti.length (Nat.le_refl _);rw [f6.len];omega
    refine Jy (s6 _ _ g5) g6 (by omega) ?_;obtain ⟨s07,g7,f7⟩:=Ld (p:=q6) s05 hq g5 f5 s6 f6;generalize upd H6 q (HO.lst (w5++w6))=H7 at s07 g7 f7 ⊢;have l7:(w5++w6).length<=364:=by rw [List.length_append];omega
    generalize w5++w6=w7 at g7 f7 l7;clear f5 f6 g5 g6 l5 l6 s6 s05;walk_at "w";refine tyL (SqL.of g7) ?_;walk_at "w";refine ⟨_,_,_,_,_,rfl,s07 _ _ h0,T.kd_Draft.cl,T.na_Draft_ties,rfl,?_⟩;walk_at "w";refine ⟨a2,rfl,⟨_,SqT.of (s07 _ _ ha2)⟩,λ D8 hD8=> ?_⟩;refine AF (m:=1) (G:=λ i=>dL (Br 1 d.sh (d.ti.getD i []))) (Dp (SqT.of (s07 _ _ ha2)) rfl) hD8 (by omega) ?_ ?_
    · intro i H' R hi s kk;have hi':i<d.ti.length:=by omega
      have r:=el2 i (by simpa using hi');rw [AM dT d.ti i .non [] hi'] at r;obtain ⟨b,eb,hb3,hb4⟩:=Dx r;rw [eb];walk_at "w";exact ⟨true,b,_,1,d.sh,rfl,SqT.of (s _ _ (s07 _ _ hb3)),Nat.le_refl _,s2,λ H3 p s3 hp h3=>kk H3 _ s3 (Gb h3 hp (by have:=Ct 1 d.sh (d.ti.getD i []);omega))⟩
    intro H8 ys8 s8 hl8 r8;have e8:(List.range vs2.length).map (λ i=>dL (Br 1 d.sh (d.ti.getD i [])))=(d.ti.map (Br 1 d.sh)).map dL:=by
      rw [hl2,List.map_map];exact AI (λ xs=>dL (Br 1 d.sh xs)) d.ti []
    rw [e8] at r8;walk_at "w";refine ⟨_,false,D8,_,rfl,Qq r8 (λ xs hx=> ?_),by rw [List.length_map];omega,λ H9 q9 w9 s9 hq9 g9 f9=> ?_⟩
    · obtain ⟨ys,_,rfl⟩:=List.mem_map.mp hx;have:=Ct 1 d.sh ys;omega
    rw [List.length_map] at f9;walk_at "w";have l9:w9.length<=272:=by
      have:=Dw (z:="tied") (xss:=d.ti.map (Br 1 d.sh)) (λ i hi=>by
        obtain ⟨ys,_,e⟩:=List.mem_map.mp (AA (y:=[]) hi);rw [<-e];have:=Ct 1 d.sh ys;omega) d.ti.length (by simp)
      rw [f9.len];omega
    refine Jy (s9 _ _ (s8 _ _ g7)) g9 (by omega) ?_;obtain ⟨s0A,gA,fA⟩:=Ld (p:=q9) s07 hq g7 f7 (s8.trans s9) f9;generalize upd H9 q (HO.lst (w7++w9))=HA at s0A gA fA ⊢;have lA:(w7++w9).length<=636:=by rw [List.length_append];omega
    generalize w7++w9=wA at gA fA lA;clear f7 f9 g7 g9 l7 l9 s8 s9 s07;walk_at "w";refine tyL (SqL.of gA) ?_;walk_at "w";refine ⟨_,_,_,_,_,rfl,s0A _ _ h0,T.kd_Draft.cl,T.na_Draft_threading,rfl,?_⟩;walk_at "w";refine ⟨a1,rfl,⟨_,SqT.of (s0A _ _ e1)⟩,λ DB hDB=> ?_⟩;refine AF (m:=1) (G:=λ i=>dL (Br 0 d.sh [d.th.getD i 0])) (Dp (SqT.of (s0A _ _ e1)) rfl) hDB (by rw [List.length_map];omega) ?_ ?_
    · intro i H' R hi s kk;rw [Bb hi];walk_at "w";intro t ht;walk_at "w";have st:=Ai (o:=HO.lst [nV (d.th.getD i 0)]) ht;have gt:upd H' t (HO.lst [nV (d.th.getD i 0)]) t=some (.lst ([d.th.getD i 0].map nV)):=Ac;generalize upd H' t (HO.lst [nV (d.th.getD i 0)])=Ht at st gt ⊢;exact ⟨false,t,[d.th.getD i 0],0,d.sh,rfl,SqL.of gt,by decide,s2,λ H3 p s3 hp h3=>kk H3 _ (st.trans s3) (Gb h3 (st.free hp) (by have:=Ct 0 d.sh [d.th.getD i 0];omega))⟩
    intro HB ysB sB hlB rB;have eB:(List.range (d.th.map nV).length).map (λ i=>dL (Br 0 d.sh [d.th.getD i 0]))=(d.th.map λ k=>Br 0 d.sh [k]).map dL:=by
      rw [List.length_map,List.map_map];exact AI (λ k=>dL (Br 0 d.sh [k])) d.th 0
    rw [eB] at rB;walk_at "w";refine ⟨_,false,DB,_,rfl,Qq rB (λ xs hx=> ?_),by rw [List.length_map];omega,λ HC qC wC sC hqC gC fC=> ?_⟩
    · obtain ⟨ys,_,rfl⟩:=List.mem_map.mp hx;have:=Ct 0 d.sh [ys];omega
    rw [List.length_map] at fC;walk_at "w";have lC:wC.length<=1020:=by
      have:=Dw (z:="drawn") (xss:=d.th.map λ k=>Br 0 d.sh [k]) (λ i hi=>by
        obtain ⟨ys,_,e⟩:=List.mem_map.mp (AA (y:=[]) hi);rw [<-e];have:=Ct 0 d.sh [ys];omega) d.th.length (by simp)
      rw [fC.len];omega
    refine Jy (sC _ _ (sB _ _ gA)) gC (by omega) ?_;obtain ⟨s0D,gD,fD⟩:=Ld (p:=qC) s0A hq gA fA (sB.trans sC) fC;generalize upd HC q (HO.lst (wA++wC))=HD at s0D gD fD ⊢;walk_at "w";exact k HD q _ s0D hq gD fD (by rw [List.length_append];omega)
noncomputable def dI (z:Str) (ks:List Int):Dt:= .tup (.str z::ks.map Dt.int)
inductive IsF (K:PySem.W.Frag) (H:Hp) (d:Dr):V->Bool->Prop
  | kind {v:V} {t:Value} (ty:TyOf K H v t) (h:PySem.W.kitOne K t (.type "tuple")=some false):IsF K H d v false
  | first {t:Addr} {w:V} {ws:List V} {ty:Value} (ht:H t=some (.tup (w::ws))) (t1:TyOf K H w ty) (h:PySem.W.kitOne K ty (.type "str")=some false):IsF K H d (.ref t) false
  | rest {t:Addr} {z:Str} {ws:List V} (ht:H t=some (.tup (.str z::ws))) (l:ws.length<=100) (ty:∀ w∈ws,Ty K H w) (h:ws.all FP=false):IsF K H d (.ref t) false
  | all {t:Addr} {z:Str} {ks:List Int} (ht:H t=some (.tup (.str z::ks.map V.int))) (l:ks.length<=100):IsF K H d (.ref t) (inX (.d (dI z ks)) ((BU d).map dF))
theorem FsAt.item {H:Hp} {vs:List V} {fs:List Ft} (h:FsAt H vs fs):vs.length=(fs.map dF).length/\∀ (i:Nat) (v:V) (d:Dt),vs[i]?=some v->(fs.map dF)[i]?=some d->Rp H FT 1 v d:=by
  refine ⟨by rw [List.length_map,h.len],λ i v d h1 h2=> ?_⟩;rw [List.getElem?_map] at h2;cases hf:fs[i]? with
  | none=>rw [hf] at h2;cases h2
  | some g=>
    rw [hf] at h2;cases h2;obtain ⟨a,rfl,ha,hl⟩:=h.el i v g h1 hf;exact FY ha hl
theorem Zd {H:Hp} {F:Addr->Prop} {n:Nat} {a:Addr} {z:Str} {ks:List Int} (h:H a=some (.tup (.str z::ks.map V.int))) (l:ks.length<=100):Rp H F (n+1) (.ref a) (dI z ks):=by
  refine .tup h (by simp;omega) (by simp) λ i v d h1 h2=> ?_;cases i with
  | zero=>cases h1;cases h2;exact .str _
  | succ i=>exact FR (f:=V.int) (g:=Dt.int) (λ k _=> .int _) i v d h1 h2
def F5 (K:PySem.W.Frag) (c:Cs):Sp:=λ vs H Q _=>∃ x d v b,vs=[.ref x,v]/\DrAt c.Draft H x d/\DrOk d/\IsF K H d v b/\∀ H',Same H H'->Q (.bl b) H'
noncomputable abbrev ER:Stmt:=top 59
theorem Kn:FnScope ["draft","thing"] ["draft","thing"] (Af ER):=⟨rfl,rfl,rfl,by decide +kernel,rfl,by decide +kernel,by decide +kernel⟩
theorem J8 {f:Addr} {fd:FuncData} (F:Fun K "is_fault" "is_fault" ER f fd) (T:Txt K mg c) (c_is_whole:Aw P w K mg base "is_whole" 1 ["thing"] (DR K)) (c_all_faults:Aw P w K mg base "all_faults" 2 ["draft"] (EF c)):FnOk P w K mg base CX0 3 f fd ["draft","thing"] (F5 K c):=by
  refine F.ok Kn (λ vs H Q E h=> ?_) (λ cdv A outer s H vs Q E hr h=> ?_)
  · obtain ⟨x,d,v,b,rfl,_⟩:=h;rfl
  · obtain ⟨x,d,v,b,rfl,dr,ok,hf,k⟩:=h;refine ⟨_,(Ad (A7 (PW.pt (IC (Cn (Bs (Al (CY (K:=K)) rfl (T.own _ (by decide)) boot_isinstance (Aa (pv 1) (Aa (EG rfl (T.own _ (by decide)) A0) Ab))))) (IC (As B0 (Al (Bd (K:=K)) rfl (T.own _ (by decide)) boot_len (Aa (pv 1) Ab)) Ae (Ay _)) (GZ (Cn (Bs (Al (CY (K:=K)) rfl (T.own _ (by decide)) boot_isinstance (Aa (At (AE (K:=K)) (pv 1) Ae (λ _ _=>rfl)) (Aa (EG rfl (T.own _ (by decide)) boot_str) Ab))))))))) (Ah (An ED)) Az)
      (Ah (An (De (Al (JU (K:=K)) rfl (T.own _ (by decide)) CT (Aa (Au (II (K:=K) (CV (P9 (K:=K)) (pv 1) (Ei Ae) Eo)) (λ _ _ _ _=>Ax) (λ _ _ _ _=>(Ag c_is_whole (hr.mono (by decide)) (Aa (pv 0) Ab)))) Ab)) (EJ (BN (R8 hr.units) (pv 1) (Ag c_all_faults hr (Aa (pv 0) Ab)) (by with_unfolding_all rfl))))))),?_⟩
    walk_at "w";cases hf with
    | kind ty h=>
      refine A1 ty h ?_;walk_at "w";exact k H (Same.refl _)
    | first ht t1 h=>
      refine A1 (.tup ht) (kb (b:=true) (by decide +kernel)) ?_;walk_at "w";refine Fp (SqT.of ht) ?_;walk_at "w";refine Dg (λ z=> ?_) (λ _=> ?_)
      · exact absurd z (by simp;omega)
      walk_at "w";refine Ar (SqT.of ht) (Am (j:=0) rfl) ?_;walk_at "w";refine A1 t1 h ?_;walk_at "w";exact k H (Same.refl _)
    | @rest t z ws ht l ty h=>
      refine A1 (.tup ht) (kb (b:=true) (by decide +kernel)) ?_;walk_at "w";refine Fp (SqT.of ht) ?_;walk_at "w";refine Dg (λ z=> ?_) (λ _=> ?_)
      · exact absurd z (by simp;omega)
      walk_at "w";refine Ar (v:= .str z) (SqT.of ht) (Am (j:=0) rfl) ?_;walk_at "w";refine A1 (.str z) (kb (b:=true) (by decide +kernel)) ?_;walk_at "w";refine Lj (SqT.of ht) λ H1 p s1 hp=> ?_;rw [GJ (by decide)] at hp;have hp:SqT K H1 p ws:=hp;walk_at "w";refine ⟨p,rfl,⟨_,hp⟩,λ D hD=> ?_⟩;refine CP (G:=λ i=>FP (ws.getD i .non)) (Dp hp rfl) hD (by omega) ?_ ?_
      · intro i H' R hi s kk;walk_at "w";exact ⟨_,rfl,(ty _ (AA hi)).same' (s1.trans s),kk H' (Same.refl _)⟩
      · intro H' s hl;walk_at "w";refine FE (SqL.of hl) ?_;have e:((List.range ws.length).map λ i=>FP (ws.getD i .non)).all id=false:=by
          rw [AI FP ws .non,List.all_map, <-h];rfl
        rw [e];walk_at "w";exact k H' (s1.trans s)
    | @all t z ks ht l=>
      refine A1 (.tup ht) (kb (b:=true) (by decide +kernel)) ?_;walk_at "w";refine Fp (SqT.of ht) ?_;walk_at "w";refine Dg (λ z=> ?_) (λ _=> ?_)
      · exact absurd z (by simp;omega)
      walk_at "w";refine Ar (v:= .str z) (SqT.of ht) (Am (j:=0) rfl) ?_;walk_at "w";refine A1 (.str z) (kb (b:=true) (by decide +kernel)) ?_;walk_at "w";refine Lj (SqT.of ht) λ H1 p s1 hp=> ?_;rw [GJ (by decide)] at hp;have hp:SqT K H1 p (ks.map V.int):=hp;walk_at "w";refine ⟨p,rfl,⟨_,hp⟩,λ D hD=> ?_⟩;refine CP (G:=λ i=>true) (Dp hp rfl) hD (by rw [List.length_map];omega) ?_ ?_
      · intro i H' R hi s kk;rw [BP hi];walk_at "w";exact ⟨_,rfl,⟨_, .int _⟩,kk H' (Same.refl _)⟩
      · intro H' s hl;walk_at "w";refine FE (SqL.of hl) ?_;have e:((List.range (ks.map V.int).length).map λ _=>true).all id=true:=by simp
        rw [e];walk_at "w";have s2:=s1.trans s;refine ⟨x,d,rfl,dr.same s2,ok,λ H3 q ws s3 hq g3 f3 l3=> ?_⟩;have it:=f3.item;refine ⟨q,ws,(BU d).map dF,1, .d (dI z ks),rfl, .inl g3,by decide,it.1,it.2, .d (Zd (s3 _ _ (s2 _ _ ht)) l),trivial,?_⟩;exact k H3 (s2.trans s3)
def E9 (c:Cs):Sp:=λ vs H Q _=>∃ v d,vs=[v]/\Rp H FT 3 v (dDr d)/\DrOk d/\∀ H' x,Same H H'->H x=none->DrAt c.Draft H' x d->Q (.ref x) H'
noncomputable abbrev DP:Stmt:=top 68
theorem Js:FnScope ["_law_told"] ["_law_told"] (Af DP):=⟨rfl,rfl,rfl,by decide +kernel,rfl,by decide +kernel,by decide +kernel⟩
theorem Jh {f:Addr} {fd:FuncData} (F:Fun K "_law_made" "_law_made" DP f fd) (T:Txt K mg c) (m_Draft:J9 P w K mg base "Draft" c.Draft 6 ["self","shafts","treadles","threading","ties","treading","warp","weft"] (Bz c)):FnOk P w K mg base CX0 8 f fd ["_law_told"] (E9 c):=by
  refine F.ok Js (λ vs H Q E h=> ?_) (λ cdv A outer s H vs Q E hr h=> ?_)
  · obtain ⟨v,d,rfl,_⟩:=h;rfl
  · obtain ⟨v,d,rfl,rv,ok,k⟩:=h;obtain ⟨m,a,v0,v1,v2,v3,v4,v5,v6,em,rfl,ha,q0,q1,q2,q3,q4,q5,q6⟩:=Gy rv;cases em;cases q0;cases q1;obtain ⟨b2,rfl,e2,_,_⟩:=CO q2;obtain ⟨b5,rfl,e5,_,_⟩:=N8 q5;obtain ⟨b6,rfl,e6,_,_⟩:=N8 q6;refine ⟨_,(Ah (An (J4 m_Draft hr (Aa (At (AE (K:=K)) (pv 0) Ae (λ _ _=>rfl)) (Aa (At (AE (K:=K)) (pv 0) Ae (λ _ _=>rfl)) (Aa (At (AE (K:=K)) (pv 0) Ae (λ _ _=>rfl)) (Aa (At (AE (K:=K)) (pv 0) Ae (λ _ _=>rfl)) (Aa (At (AE (K:=K)) (pv 0) Ae (λ _ _=>rfl)) (Aa (At (AE (K:=K)) (pv 0) Ae (λ _ _=>rfl)) (Aa (At (AE (K:=K)) (pv 0) Ae (λ _ _=>rfl)) Ab)))))))))),?_⟩;walk_at "w";refine Ar (SqT.of ha) (Am (j:=0) rfl) ?_;walk_at "w";refine Ar (SqT.of ha) (Am (j:=1) rfl) ?_;walk_at "w";refine Ar (SqT.of ha) (Am (j:=2) rfl) ?_;walk_at "w";refine Ar (SqT.of ha) (Am (j:=3) rfl) ?_;walk_at "w";refine Ar (SqT.of ha) (Am (j:=4) rfl) ?_;walk_at "w";refine Ar (SqT.of ha) (Am (j:=5) rfl) ?_;walk_at "w";refine Ar (SqT.of ha) (Am (j:=6) rfl) ?_;walk_at "w";exact PV ⟨_,_,_,_,_,rfl,e2,q3.any,q4.any,e5,e6⟩ ok λ H2 x s2 hx D2=>k H2 x s2 hx D2
theorem GI:∀ {xs ys:List Nat},xs.Pairwise (· < ·)->ys.Pairwise (· < ·)->(∀ a,a∈xs↔a∈ys)->xs=ys
  | [],[],_,_,_=>rfl
  | [],y::ys,_,_,h=>by have:=(h y).mpr (List.mem_cons_self ..);cases this
  | x::xs,[],_,_,h=>by have:=(h x).mp (List.mem_cons_self ..);cases this
  | x::xs,y::ys,hx,hy,h=>by
    have px:=List.pairwise_cons.mp hx;have py:=List.pairwise_cons.mp hy;have e:x=y:=by
      have h1:=List.mem_cons.mp ((h x).mp (List.mem_cons_self ..));have h2:=List.mem_cons.mp ((h y).mpr (List.mem_cons_self ..));rcases h1 with h1 | h1
      · exact h1
      · rcases h2 with h2 | h2
        · exact h2.symm
        · have:=py.1 x h1;have:=px.1 y h2;omega
    subst e;rw [GI px.2 py.2 λ a=> ?_];constructor
    · intro ha;rcases List.mem_cons.mp ((h a).mp (List.mem_cons_of_mem _ ha)) with e | e
      · have:=px.1 a ha;omega
      · exact e
    · intro ha;rcases List.mem_cons.mp ((h a).mpr (List.mem_cons_of_mem _ ha)) with e | e
      · have:=py.1 a ha;omega
      · exact e
theorem Ls {sh:Nat} {xs:List Nat} (r:Rise sh xs):∀ j i,i<j->j<xs.length->xs.getD i 0<xs.getD j 0
  | 0,i,h,_=>by omega
  | j+1,i,h,hj=>by
    have h1:=(r (j+1) hj).1;have e:(0::xs).getD (j+1) 0=xs.getD j 0:=rfl;rw [e] at h1;rcases Nat.lt_or_ge i j with z | z
    · have:=Ls r j i z (by omega);omega
    · have:i=j:=by omega
      subst this;omega
theorem Pp {sh:Nat} {xs:List Nat} (r:Rise sh xs):xs.Pairwise (· < ·):=by
  rw [List.pairwise_iff_getElem];intro i j hi hj h;have:=Ls r j i h hj;rw [Eg hi,Eg hj] at this;exact this
theorem Mf (n:Nat):((List.range n).map (1+ ·)).Pairwise (· < ·):=List.Pairwise.map _ (λ a b h=>by omega) List.pairwise_lt_range
theorem Pe {sh:Nat} {xs:List Nat} (r:Rise sh xs):((List.range sh).map (1+ ·)).filter (λ s=>decide (s∈xs))=xs:=by
  refine GI ((Mf sh).filter _) (Pp r) λ a=> ?_;rw [List.mem_filter,decide_eq_true_eq];refine ⟨λ h=>h.2,λ h=>⟨?_,h⟩⟩;obtain ⟨i,hi,rfl⟩:=List.getElem_of_mem h;have h1:=(r i hi).2;have h2:=Jv r i hi;rw [Eg hi] at h1 h2;exact List.mem_map.mpr ⟨xs[i] - 1,List.mem_range.mpr (by omega),by omega⟩
noncomputable def prF (z:Str) (sh:Nat) (p:Nat->Nat->Bool) (m:Nat):List Ft:=((List.range m).filter λ k=>p (k / sh) (1+k%sh)).map λ k=>(z,[1+k / sh,1+k%sh])
theorem Ka (z:Str) {sh:Nat} (h:1<=sh) (p:Nat->Nat->Bool) (i:Nat):prF z sh p ((i+1)*sh)=prF z sh p (i*sh)++(((List.range sh).map (1+ ·)).filter λ s=>p i s).map λ s=>(z,[i+1,s]):=by
  unfold prF;rw [Nat.succ_mul,List.range_add,List.filter_append,List.map_append,List.filter_map,List.filter_map,List.map_map,List.map_map];congr 1;have hd:∀ j,j<sh->(i*sh+j) / sh=i/\(i*sh+j)%sh=j:=λ j hj=>by
    rw [Nat.mul_comm i sh];exact ⟨by rw [Nat.mul_add_div h,Nat.div_eq_of_lt hj,Nat.add_zero],by rw [Nat.mul_add_mod,Nat.mod_eq_of_lt hj]⟩
  have e1:(List.range sh).filter ((λ k=>p (k / sh) (1+k%sh))∘λ x=>i*sh+x)=(List.range sh).filter ((λ s=>p i s)∘λ x=>1+x):=by
    refine List.filter_congr λ j hj=> ?_;have:=hd j (List.mem_range.mp hj);show p ((i*sh+j) / sh) (1+(i*sh+j)%sh)=p i (1+j);rw [this.1,this.2]
  rw [e1];refine List.map_congr_left λ j hj=> ?_;have:=hd j (List.mem_range.mp (List.mem_filter.mp hj).1);show (z,[1+(i*sh+j) / sh,1+(i*sh+j)%sh])=(z,[i+1,1+j]);rw [this.1,this.2,Nat.add_comm 1 i]
theorem GX {d:Dr} (ok:DrOk d):∀ i,i<=d.ti.length->prF "loose" d.sh (λ t s=>decide (s∈d.ti.getD t [])) (i*d.sh)=shF "loose" d.ti i
  | 0,_=>by simp [prF,shF]
  | i+1,hi=>by
    rw [Ka _ ok.s1,GX ok i (by omega),Pe (ok.ir _ (AA (by omega)))];rfl
theorem JG {d:Dr} (ok:DrOk d):∀ i,i<=d.ti.length->prF "tied" d.sh (λ t s=> !decide (s∈d.ti.getD t [])) (i*d.sh)=shF "tied" (d.ti.map (Br 1 d.sh)) i
  | 0,_=>by simp [prF,shF]
  | i+1,hi=>by
    rw [Ka _ ok.s1,JG ok i (by omega)];show _=shF "tied" (d.ti.map (Br 1 d.sh)) i++((d.ti.map (Br 1 d.sh)).getD i []).map _;rw [AM (Br 1 d.sh) d.ti i [] [] (by omega)];unfold Br;rw [show d.sh+1 - 1=d.sh by omega]
def B9:Sp:=λ vs H Q _=>∃ v d,vs=[v]/\Rp H FT 3 v (dDr d)/\DrOk d/\∀ H' p ws,Same H H'->H p=none->H' p=some (.lst ws)->FsAt H' ws (BU d)->ws.length<=5000->Q (.ref p) H'
noncomputable abbrev Bw:Stmt:=top 71
theorem sc__law_all_faults:FnScope ["_law_told","_law_shafts","_law_treadles","_law_threading","_law_ties","_law_shaft","_law_found","_law_end","_law_pairs"] ["_law_told"] (Af Bw):=⟨rfl,rfl,rfl,by decide +kernel,rfl,by decide +kernel,by decide +kernel⟩
theorem EX {f:Addr} {fd:FuncData} (F:Fun K "_law_all_faults" "_law_all_faults" Bw f fd) (T:Txt K mg c):FnOk P w K mg base CX0 1 f fd ["_law_told"] B9:=by
  refine F.ok sc__law_all_faults (λ vs H Q E h=> ?_) (λ cdv A outer s H vs Q E hr h=> ?_)
  · obtain ⟨v,d,rfl,_⟩:=h;rfl
  · obtain ⟨v,d,rfl,rv,ok,k⟩:=h;obtain ⟨m,a,v0,v1,v2,v3,v4,v5,v6,em,rfl,ha,q0,q1,q2,q3,q4,q5,q6⟩:=Gy rv;cases em;cases q0;cases q1;obtain ⟨b2,rfl,e2,_,_⟩:=CO q2;have s1:=ok.s1;have s2:=ok.s2;have th2:=ok.h2;have til:=ok.il;have t2:=ok.t2;refine ⟨_,(Ad (Jo (CV (P9 (K:=K)) (pv 0) Eo (Ei Ae)) (GG (K:=K) rfl (A2 (AO (i:=1) sc__law_all_faults.nd rfl (Or.inr rfl)) (A2 (AO (i:=2) sc__law_all_faults.nd rfl (Or.inl rfl)) (A2 (AO (i:=3) sc__law_all_faults.nd rfl (Or.inl rfl)) (A2 (AO (i:=4) sc__law_all_faults.nd rfl (Or.inr rfl)) En))))))
      (Ad (Ao (i:=6) sc__law_all_faults.nd rfl (Or.inl rfl) (Ak (CQ (K:=K)) (Au (Bi rfl (T.own _ (by decide)) (Aa (pv 1) Ab)) (λ _ _ _ _=>Ax) (λ _ _ _ _=>(AB (Aa Ap (Aa (Ak AG (pv 0) Ae) Ab))))) (Au (Bi rfl (T.own _ (by decide)) (Aa (pv 1) Ab)) (λ _ _ _ _=>Ax) (λ _ _ _ _=>(AB (Aa Ap (Aa (Ak AG (pv 0) Ae) Ab)))))))
      (Ad (Ao (i:=6) sc__law_all_faults.nd rfl (Or.inl rfl) (Ak (CQ (K:=K)) (pv 6) (Au (Bi rfl (T.own _ (by decide)) (Aa (Al (Bd (K:=K)) rfl (T.own _ (by decide)) boot_len (Aa (pv 3) Ab)) Ab)) (λ _ _ _ _=>Ax) (λ _ _ _ _=>(AB (Aa Ap (Aa (Ak AG (pv 0) Ae) Ab)))))))
      (Ad (Cj (i:=8) sc__law_all_faults.nd rfl (Or.inl rfl) (Bi rfl (T.own _ (by decide)) (Aa (Ak FI (pv 2) (pv 1)) Ab)) (λ _ _ _ _=>Ax) (λ _ _ _ _=>(AB (Aa (Ak AG Ae (Ak GB (pv 0) (pv 1))) (Aa (Ak AG Ae (Ak A8 (pv 0) (pv 1))) Ab)))))
      (Ad (Ao (i:=6) sc__law_all_faults.nd rfl (Or.inl rfl) (Ak (CQ (K:=K)) (pv 6) (Au (BC (K:=K) (pv 8)) (λ _ _ _ _=>(Cp (As (Pz (K:=K)) (At (AE (K:=K)) (pv 0) Ae (λ _ _=>rfl)) (At (Cl (K:=K)) (pv 1) (Ak Ce (At (AE (K:=K)) (pv 0) Ae (λ _ _=>rfl)) Ae) (λ _ _=>rfl)) (by with_unfolding_all rfl)))) (λ _ _ _ _=>(Ak (NI (K:=K)) (AB (Aa Ap Ab)) (pv 0))))))
      (Ad (Ao (i:=6) sc__law_all_faults.nd rfl (Or.inl rfl) (Ak (CQ (K:=K)) (pv 6) (Au (BC (K:=K) (pv 8)) (λ _ _ _ _=>(Cp (As (LS (K:=K)) (At (AE (K:=K)) (pv 0) Ae (λ _ _=>rfl)) (At (Cl (K:=K)) (pv 1) (Ak Ce (At (AE (K:=K)) (pv 0) Ae (λ _ _=>rfl)) Ae) (λ _ _=>rfl)) (by with_unfolding_all rfl)))) (λ _ _ _ _=>(Ak (NI (K:=K)) (AB (Aa Ap Ab)) (pv 0))))))
      (Ad (BW PassesOwn.never rfl (Gu (K:=K) rfl (T.own _ (by decide)) (Aa (pv 3) Ab)) (GG (K:=K) rfl (A2 (AO (i:=7) sc__law_all_faults.nd rfl (Or.inr rfl)) (A2 (AO (i:=5) sc__law_all_faults.nd rfl (Or.inr rfl)) En))) (Ah (Ao (i:=6) sc__law_all_faults.nd rfl (Or.inl rfl) (Ak (CQ (K:=K)) (pv 6) (Au (Bi rfl (T.own _ (by decide)) (Aa (Ak AG (pv 1) Ae) Ab)) (λ _ _ _ _=>(Cp (As Lr (pv 0) (pv 2) (Ay _)))) (λ _ _ _ _=>(AB (Aa Ap (Aa (Ak AG (pv 1) Ae) (Aa (pv 0) Ab))))))))))
      (Ah (An (pv 6)))))))))),?_⟩
    walk_at "w";refine Lj (SqT.of ha) λ H1 p s01 hp=> ?_;rw [KR (by decide)] at hp;have hp:SqT K H1 p [nV d.sh,nV d.tr, .ref b2,v3]:=hp;walk_at "w";refine Oq hp rfl ?_;walk_at "w";refine ⟨_,rfl,by omega,by omega,λ D2 hD2=> ?_⟩;rw [Int.toNat_natCast];refine AF (m:=1) (G:=λ i=>dF ("up",[i+1])) (Bp rfl) hD2 (by omega) ?_ ?_
    · intro i H' R hi s kk;walk_at "w";intro q hq;exact kk _ _ (Ai hq) (FY (f:=("up",[i+1])) Ac (by simp))
    intro H2 w2 s12 g2 r2;have f2:FsAt H2 w2 (A5 "up" d.sh):=(F2 (by unfold A5;rw [List.map_map];exact r2) g2 λ f hf=>by
      obtain ⟨i,_,rfl⟩:=List.mem_map.mp hf;simp).1
    have s02:=s01.trans s12;walk_at "w";refine ⟨_,rfl,by omega,by omega,λ D3 hD3=> ?_⟩;rw [Int.toNat_natCast];refine AF (m:=1) (G:=λ i=>dF ("down",[i+1])) (Bp rfl) hD3 (by omega) ?_ ?_
    · intro i H' R hi s kk;walk_at "w";intro q hq;exact kk _ _ (Ai hq) (FY (f:=("down",[i+1])) Ac (by simp))
    intro H3 w3 s23 g3 r3;have f3:FsAt H3 w3 (A5 "down" d.sh):=(F2 (by unfold A5;rw [List.map_map];exact r3) g3 λ f hf=>by
      obtain ⟨i,_,rfl⟩:=List.mem_map.mp hf;simp).1
    have s03:=s02.trans s23;have l2:=f2.len;have l3:=f3.len;have n2:(A5 "up" d.sh).length=d.sh:=by simp [A5]
    have n3:(A5 "down" d.sh).length=d.sh:=by simp [A5]
    refine BK (SqL.of (s23 _ _ g2)) (SqL.of g3) (by omega) λ q4 hq4=> ?_;have s34:=Ai (o:=HO.lst (w2++w3)) hq4;have g4:upd H3 q4 (HO.lst (w2++w3)) q4=_:=Ac;generalize upd H3 q4 (HO.lst (w2++w3))=H4 at s34 g4 ⊢;have f4:=(f2.same (s23.trans s34)).app (f3.same s34);have l4:(w2++w3).length<=32:=by rw [List.length_append];omega
    generalize w2++w3=w4 at g4 f4 l4;have s04:=s03.trans s34;walk_at "w";refine AQ (SqL.of (s04 _ _ e2)) ?_;rw [List.length_map];walk_at "w";refine ⟨_,rfl,by omega,by omega,λ D5 hD5=> ?_⟩;rw [Int.toNat_natCast];refine AF (m:=1) (G:=λ i=>dF ("broken",[i+1])) (Bp rfl) hD5 (by omega) ?_ ?_
    · intro i H' R hi s kk;walk_at "w";intro q hq;exact kk _ _ (Ai hq) (FY (f:=("broken",[i+1])) Ac (by simp))
    intro H5 w5 s45 g5 r5;have f5:FsAt H5 w5 (A5 "broken" d.th.length):=(F2 (by unfold A5;rw [List.map_map];exact r5) g5 λ f hf=>by
      obtain ⟨i,_,rfl⟩:=List.mem_map.mp hf;simp).1
    have s05:=s04.trans s45;have l5:w5.length=d.th.length:=by rw [f5.len];simp [A5]
    refine BK (SqL.of (s45 _ _ g4)) (SqL.of g5) (by omega) λ q6 hq6=> ?_;have s56:=Ai (o:=HO.lst (w4++w5)) hq6;have g6:upd H5 q6 (HO.lst (w4++w5)) q6=_:=Ac;generalize upd H5 q6 (HO.lst (w4++w5))=H6 at s56 g6 ⊢;have f6:=(f4.same (s45.trans s56)).app (f5.same s56);have l6:(w4++w5).length<=92:=by rw [List.length_append];omega
    generalize w4++w5=w6 at g6 f6 l6;have s06:=s05.trans s56;clear f2 f3 f4 f5 g2 g3 g4 g5 l2 l3 l4 l5 n2 n3 r2 r3 r5;walk_at "w";refine AH (.inl ⟨by omega,by omega⟩) ?_;have hm:((d.tr:Nat):Int)*((d.sh:Nat):Int)=((d.tr*d.sh:Nat):Int):=by push_cast;rfl
    have hmul:d.tr*d.sh<=256:=Nat.mul_le_mul t2 s2;rw [hm];walk_at "w";refine ⟨_,rfl,by omega,by omega,λ D7 hD7=> ?_⟩;rw [Int.toNat_natCast];refine AF (m:=1) (G:=λ i=>dT [1+i / d.sh,1+i%d.sh]) (Bp rfl) hD7 (by omega) ?_ ?_
    · intro i H' R hi s kk;walk_at "w";refine AH ⟨by omega,by omega⟩ ?_;walk_at "w";refine AH (by omega) ?_;walk_at "w";intro q hq;have c1:(1:Int)+(i:Nat) / (d.sh:Nat)=((1+i / d.sh:Nat):Int):=by push_cast;rfl
      have c2:(1:Int)+(i:Nat)%(d.sh:Nat)=((1+i%d.sh:Nat):Int):=by push_cast;rfl
      rw [c1,c2];exact kk _ _ (Ai hq) (Mh (ns:=[1+i / d.sh,1+i%d.sh]) Ac (by simp))
    intro H7 w7 s67 g7 r7;have s07:=s06.trans s67;obtain ⟨m7,a7,vs7,em7,ea7,ha7,hf7,hl7,hb7,el7⟩:=BG r7;cases em7;cases ea7;rw [g7] at ha7;cases ha7;rw [List.length_map,List.length_range] at hl7;have pr:∀ i,i<w7.length->∃ b,w7.getD i .non= .ref b/\H7 b=some (.tup [nV (1+i / d.sh),nV (1+i%d.sh)]):=λ i hi=>by
      have r1:=el7 i (by simp;omega);rw [MB (λ i=>dT [1+i / d.sh,1+i%d.sh]) (by omega)] at r1;obtain ⟨b,eb,hb,_⟩:=Dx r1;exact ⟨b,eb,hb⟩
    obtain ⟨m3,a3,vs3,em3,ea3,ha3,hf3,hl3,hb3,el3⟩:=BG q3;cases em3;subst ea3;rw [List.length_map] at hl3;have ti:∀ j,j<d.ti.length->∃ b,vs3.getD j .non= .ref b/\H b=some (.lst ((d.ti.getD j []).map nV)):=λ j hj=>by
      have r1:=el3 j (by simpa using hj);rw [AM dL d.ti j .non [] hj] at r1;obtain ⟨b,eb,hb,_,_⟩:=CO r1;exact ⟨b,eb,hb⟩
    have hdiv:∀ i,i<d.tr*d.sh->i / d.sh<d.ti.length:=λ i hi=>by
      rw [til,Nat.div_lt_iff_lt_mul s1];exact hi
    walk_at "w";refine ⟨D7,rfl,⟨_,SqL.of g7⟩,λ D8 hD8=> ?_⟩;refine B8 (m:=1) (p:=λ i=>decide (1+i%d.sh∈d.ti.getD (i / d.sh) [])) (G:=λ i=>dF ("loose",[1+i / d.sh,1+i%d.sh])) (A4 (SqL.of g7) rfl) hD8 (by omega) ?_ ?_ ?_
    · intro i H' R hi s kk;obtain ⟨b,eb,hb⟩:=pr i hi;obtain ⟨bt,et,ht⟩:=ti _ (hdiv i (by omega));rw [eb];walk_at "w";refine Ar (v:=nV (1+i%d.sh)) (SqT.of (s _ _ hb)) (Am (j:=1) rfl) ?_;walk_at "w";refine Ar (v:=nV (1+i / d.sh)) (SqT.of (s _ _ hb)) (Am (j:=0) rfl) ?_;walk_at "w";refine Bk (SqL.of (s _ _ (s07 _ _ ha3))) (Fd (j:=i / d.sh) (by omega) (by have:=hdiv i (by omega);omega)) ?_;rw [et];refine MP (tp:=false) (SqL.of (s _ _ (s07 _ _ ht))) ?_;exact ⟨_,rfl,kk H' (Same.refl _)⟩
    · intro i H' R hi hp s kk;obtain ⟨b,eb,hb⟩:=pr i hi;rw [eb];walk_at "w";intro q hq;have sq:=Ai (o:=HO.tup [V.str "loose"]) hq;have gq:upd H' q (HO.tup [V.str "loose"]) q=_:=Ac;generalize upd H' q (HO.tup [V.str "loose"])=Hq at sq gq ⊢;walk_at "w";refine LQ (SqT.of gq) (SqT.of (sq _ _ (s _ _ hb))) (by simp) (by simp) (by simp) λ t ht=> ?_;exact kk _ _ (sq.trans (Ai ht)) (FY (f:=("loose",[1+i / d.sh,1+i%d.sh])) Ac (by simp))
    intro H8 w8 s78 g8 r8;have lti:∀ xs∈d.ti,xs.length<=17:=λ xs hx=>by have:=Hd (ok.ir xs hx);omega
    have f8:FsAt H8 w8 (shF "loose" d.ti d.ti.length):=by
      rw [hl7] at r8;have e:((List.range (d.tr*d.sh)).filter λ i=>decide (1+i%d.sh∈d.ti.getD (i / d.sh) [])).map (λ i=>dF ("loose",[1+i / d.sh,1+i%d.sh]))=(shF "loose" d.ti d.ti.length).map dF:=by
        rw [<-GX ok d.ti.length (Nat.le_refl _),til];unfold prF;rw [List.map_map];rfl
      rw [e] at r8;refine (F2 r8 g8 λ f hf=> ?_).1;rw [<-GX ok d.ti.length (Nat.le_refl _)] at hf;obtain ⟨i,_,rfl⟩:=List.mem_map.mp hf;simp
    have l8:w8.length<=272:=by
      have:=Dw (z:="loose") (xss:=d.ti) (λ i hi=>lti _ (AA hi)) d.ti.length (Nat.le_refl _);rw [f8.len];omega
    walk_at "w";refine BK (SqL.of (s78 _ _ (s67 _ _ g6))) (SqL.of g8) (by omega) λ q9 hq9=> ?_;have s89:=Ai (o:=HO.lst (w6++w8)) hq9;have g9:upd H8 q9 (HO.lst (w6++w8)) q9=_:=Ac;generalize upd H8 q9 (HO.lst (w6++w8))=H9 at s89 g9 ⊢;have f9:=(f6.same (s67.trans (s78.trans s89))).app (f8.same s89);have l9:(w6++w8).length<=364:=by rw [List.length_append];omega
    generalize w6++w8=w9 at g9 f9 l9;have s79:=s78.trans s89;have s09:=s07.trans s79;clear f6 f8 g6 g8 l6 l8 r8;walk_at "w";have g79:=s79 _ _ g7;refine ⟨D7,rfl,⟨_,SqL.of g79⟩,λ DA hDA=> ?_⟩;refine B8 (m:=1) (p:=λ i=> !decide (1+i%d.sh∈d.ti.getD (i / d.sh) [])) (G:=λ i=>dF ("tied",[1+i / d.sh,1+i%d.sh])) (A4 (SqL.of g79) rfl) hDA (by omega) ?_ ?_ ?_
    · intro i H' R hi s kk;obtain ⟨b,eb,hb⟩:=pr i hi;obtain ⟨bt,et,ht⟩:=ti _ (hdiv i (by omega));rw [eb];walk_at "w";refine Ar (v:=nV (1+i%d.sh)) (SqT.of (s _ _ (s79 _ _ hb))) (Am (j:=1) rfl) ?_;walk_at "w";refine Ar (v:=nV (1+i / d.sh)) (SqT.of (s _ _ (s79 _ _ hb))) (Am (j:=0) rfl) ?_;walk_at "w";refine Bk (SqL.of (s _ _ (s09 _ _ ha3))) (Fd (j:=i / d.sh) (by omega) (by have:=hdiv i (by omega);omega)) ?_;rw [et];refine IU (tp:=false) (SqL.of (s _ _ (s09 _ _ ht))) ?_;exact ⟨_,rfl,kk H' (Same.refl _)⟩
    · intro i H' R hi hp s kk;obtain ⟨b,eb,hb⟩:=pr i hi;rw [eb];walk_at "w";intro q hq;have sq:=Ai (o:=HO.tup [V.str "tied"]) hq;have gq:upd H' q (HO.tup [V.str "tied"]) q=_:=Ac;generalize upd H' q (HO.tup [V.str "tied"])=Hq at sq gq ⊢;walk_at "w";refine LQ (SqT.of gq) (SqT.of (sq _ _ (s _ _ (s79 _ _ hb)))) (by simp) (by simp) (by simp) λ t ht=> ?_;exact kk _ _ (sq.trans (Ai ht)) (FY (f:=("tied",[1+i / d.sh,1+i%d.sh])) Ac (by simp))
    intro HA wA s9A gA rA;have fA:FsAt HA wA (shF "tied" (d.ti.map (Br 1 d.sh)) d.ti.length):=by
      rw [hl7] at rA;have e:((List.range (d.tr*d.sh)).filter λ i=> !decide (1+i%d.sh∈d.ti.getD (i / d.sh) [])).map (λ i=>dF ("tied",[1+i / d.sh,1+i%d.sh]))=(shF "tied" (d.ti.map (Br 1 d.sh)) d.ti.length).map dF:=by
        rw [<-JG ok d.ti.length (Nat.le_refl _),til];unfold prF;rw [List.map_map];rfl
      rw [e] at rA;refine (F2 rA gA λ f hf=> ?_).1;rw [<-JG ok d.ti.length (Nat.le_refl _)] at hf;obtain ⟨i,_,rfl⟩:=List.mem_map.mp hf;simp
    have lA:wA.length<=272:=by
      have:=Dw (z:="tied") (xss:=d.ti.map (Br 1 d.sh)) (λ i hi=>by
        obtain ⟨ys,_,e⟩:=List.mem_map.mp (AA (y:=[]) hi);rw [<-e];have:=Ct 1 d.sh ys;omega) d.ti.length (by simp)
      rw [fA.len];omega
    walk_at "w";refine BK (SqL.of (s9A _ _ g9)) (SqL.of gA) (by omega) λ qB hqB=> ?_;have sAB:=Ai (o:=HO.lst (w9++wA)) hqB;have gB:upd HA qB (HO.lst (w9++wA)) qB=_:=Ac;generalize upd HA qB (HO.lst (w9++wA))=HB at sAB gB ⊢;have fB:=(f9.same (s9A.trans sAB)).app (fA.same sAB);have lB:(w9++wA).length<=636:=by rw [List.length_append];omega
    generalize w9++wA=wB at gB fB lB;have s0B:=s09.trans (s9A.trans sAB);have hqB0:=(s09.trans s9A).free hqB;clear f9 fA g9 gA lA l9 rA;walk_at "w";have e2B:=s0B _ _ e2;generalize eb:A5 "up" d.sh++A5 "down" d.sh++A5 "broken" d.th.length++shF "loose" d.ti d.ti.length++shF "tied" (d.ti.map (Br 1 d.sh)) d.ti.length=bs at fB;refine ⟨b2,rfl,⟨_,SqL.of e2B⟩,Cq (LO (SqL.of e2B)) (λ i σ H3=>∃ q ws y z u,σ=[some (.ref a),some (nV d.sh),some (nV d.tr),some (.ref b2),some (.ref a3),y,some (.ref q),z,u]/\Same HB H3/\H q=none/\H3 q=some (.lst ws)/\FsAt H3 ws (bs++shF "drawn" (d.th.map λ k=>Br 0 d.sh [k]) i)/\ws.length<=636+17*i)
      ⟨_,_,_,_,_,rfl,Same.refl _,hqB0,gB,by simpa [shF] using fB,by omega⟩ (λ i σ H3 ⟨_,_,_,_,_,_,s,_⟩=>s) ?_ ?_⟩
    · rintro i σ H' H3 hi ⟨q,ws,y,z,u,rfl,s',hq0,hw,fw,lw⟩ s3;have hi':i<d.th.length:=by simpa using hi
      have sH:=s'.trans s3;rw [Bb hi];walk_at "w";refine ⟨_,rfl,by omega,by omega,λ DC hDC=> ?_⟩;rw [show (((d.sh:Nat):Int)+1).toNat=d.sh+1 by omega];refine B8 (m:=1) (p:=λ o=> !decide (o∈[d.th.getD i 0])) (G:=λ o=>dF ("drawn",[i+1,o])) (Bp rfl) hDC (by omega) ?_ ?_ ?_
      · intro o H4 R ho s4 kk;walk_at "w";have e:(!decide (((o:Nat):Int)=((d.th.getD i 0:Nat):Int)))= !decide (o∈[d.th.getD i 0]):=by
          congr 1;rw [decide_eq_decide,List.mem_singleton];omega
        rw [e]
        first | exact ⟨_,rfl,kk H4 (Same.refl _)⟩ | exact kk H4 (Same.refl _)
      · intro o H4 R ho hp s4 kk;walk_at "w";intro t ht;exact kk _ _ (Ai ht) (FY (f:=("drawn",[i+1,o])) Ac (by simp))
      intro HC wC s3C gC rC;have e:((List.range (d.sh+1)).filter λ o=> !decide (o∈[d.th.getD i 0])).map (λ o=>dF ("drawn",[i+1,o]))=(((d.th.map λ k=>Br 0 d.sh [k]).getD i []).map λ s=>(("drawn",[i+1,s]):Ft)).map dF:=by
        rw [AM (λ k=>Br 0 d.sh [k]) d.th i [] 0 hi'];unfold Br;rw [List.map_map,show ((List.range (d.sh+1 - 0)).map λ x=>0+x)=List.range (d.sh+1) by simp];rfl
      rw [e] at rC;have fC:=(F2 rC gC λ f hf=>by
        obtain ⟨i,_,rfl⟩:=List.mem_map.mp hf;simp).1
      have lC:wC.length<=17:=by
        rw [fC.len,List.length_map,AM (λ k=>Br 0 d.sh [k]) d.th i [] 0 hi'];have:=Ct 0 d.sh [d.th.getD i 0];omega
      walk_at "w";refine BK (SqL.of (s3C _ _ (s3 _ _ hw))) (SqL.of gC) (by omega) λ qD hqD=> ?_;have sCD:=Ai (o:=HO.lst (ws++wC)) hqD;have gD:upd HC qD (HO.lst (ws++wC)) qD=_:=Ac;generalize upd HC qD (HO.lst (ws++wC))=HD at sCD gD ⊢;have fD:=(fw.same (s3.trans (s3C.trans sCD))).app (fC.same sCD);walk_at "w";refine ⟨_,_,_,_,_,rfl,sH.trans (s3C.trans sCD),(s0B.trans (sH.trans s3C)).free hqD,gD,?_,by rw [List.length_append];omega⟩;rw [List.append_assoc] at fD;exact fD
    · rintro σ H3 ⟨q,ws,y,z,u,rfl,s3,hq0,hw,fw,lw⟩;walk_at "w";rw [List.length_map] at fw lw;subst eb;exact k H3 q ws (s0B.trans s3) hq0 hw fw (by omega)
inductive FK (d:Dr):Ft->Prop
  | up {s:Nat}:1<=s->s<=d.sh->FK d ("up",[s])
  | down {s:Nat}:1<=s->s<=d.sh->FK d ("down",[s])
  | broken {e:Nat}:1<=e->e<=d.th.length->FK d ("broken",[e])
  | loose {t s:Nat}:1<=t->t<=d.ti.length->1<=s->s<=d.sh->s∈d.ti.getD (t - 1) []->FK d ("loose",[t,s])
  | tied {t s:Nat}:1<=t->t<=d.ti.length->1<=s->s<=d.sh->s∉d.ti.getD (t - 1) []->FK d ("tied",[t,s])
  | drawn {e s:Nat}:1<=e->e<=d.th.length->s<=d.sh->FK d ("drawn",[e,s])
theorem Gz {z:Str} {xss:List (List Nat)} {f:Ft}:∀ {i:Nat},f∈shF z xss i->∃ j,j<i/\∃ s,s∈xss.getD j []/\f=(z,[j+1,s])
  | 0,h=>by cases h
  | i+1,h=>by
    rcases List.mem_append.mp h with h | h
    · obtain ⟨j,hj,r⟩:=Gz h;exact ⟨j,by omega,r⟩
    · obtain ⟨s,hs,rfl⟩:=List.mem_map.mp h;exact ⟨i,by omega,s,hs,rfl⟩
theorem Hn {z:Str} {m:Nat} {f:Ft} (h:f∈A5 z m):∃ j,j<m/\f=(z,[j+1]):=by
  obtain ⟨j,hj,rfl⟩:=List.mem_map.mp h;exact ⟨j,List.mem_range.mp hj,rfl⟩
theorem LR {lo hi s:Nat} {ns:List Nat} (h:s∈Br lo hi ns):lo<=s/\s<=hi/\s∉ns:=by
  obtain ⟨h1,h2⟩:=List.mem_filter.mp h;obtain ⟨j,hj,rfl⟩:=List.mem_map.mp h1;have:=List.mem_range.mp hj;exact ⟨by omega,by omega,by simpa using h2⟩
theorem IR {α:Type} {l:List α} {g:α->List Nat} {j:Nat} {a:α} (h:j<l.length):(l.map g).getD j []=g (l.getD j a):=by
  rw [List.getD_eq_getElem?_getD,List.getElem?_map,List.getElem?_eq_getElem h,List.getD_eq_getElem?_getD,List.getElem?_eq_getElem h];rfl
theorem GS {d:Dr} (ok:DrOk d) {f:Ft} (h:f∈BU d):FK d f:=by
  unfold BU at h;simp only [List.mem_append] at h;have sub:∀ {j s:Nat},j<d.ti.length->s∈d.ti.getD j []->1<=s/\s<=d.sh:=λ {j s} hj hs=>by
    have hm:d.ti.getD j []∈d.ti:=by
      rw [List.getD_eq_getElem?_getD,List.getElem?_eq_getElem hj];exact List.getElem_mem hj
    exact Rise.le (ok.ir _ hm) s hs
  rcases h with ((((h | h) | h) | h) | h) | h
  · obtain ⟨j,hj,rfl⟩:=Hn h;exact .up (by omega) (by omega)
  · obtain ⟨j,hj,rfl⟩:=Hn h;exact .down (by omega) (by omega)
  · obtain ⟨j,hj,rfl⟩:=Hn h;exact .broken (by omega) (by omega)
  · obtain ⟨j,hj,s,hs,rfl⟩:=Gz h;obtain ⟨s1,s2⟩:=sub hj hs;exact .loose (by omega) (by omega) s1 s2 (by rw [Nat.add_sub_cancel];exact hs)
  · obtain ⟨j,hj,s,hs,rfl⟩:=Gz h;rw [IR (a:=[]) hj] at hs;obtain ⟨s1,s2,s3⟩:=LR hs;exact .tied (by omega) (by omega) s1 s2 (by rw [Nat.add_sub_cancel];exact s3)
  · obtain ⟨j,hj,s,hs,rfl⟩:=Gz h;rw [IR (a:=0) hj] at hs;obtain ⟨s1,s2,s3⟩:=LR hs;exact .drawn (by omega) (by omega) s2
noncomputable abbrev sU:Str:="up"
noncomputable abbrev sD:Str:="down"
noncomputable abbrev sB:Str:="broken"
noncomputable abbrev sL:Str:="loose"
noncomputable abbrev sT:Str:="tied"
noncomputable abbrev sW:Str:="drawn"
noncomputable def FL (d:Dr) (f:Ft) (t s:Nat):Bool:=if f=(sL,[t,s]) then false else if f=(sT,[t,s]) then true else decide (s∈d.ti.getD (t - 1) [])
noncomputable def thF (d:Dr) (f:Ft) (e:Nat):Nat:=if f=(sB,[e+1]) then 0 else if f.1=sW/\f.2.getD 0 0=e+1 then f.2.getD 1 0 else d.th.getD e 0
noncomputable def JL (d:Dr) (f:Ft) (p s:Nat):Bool:=if f=(sD,[s]) then false else if f=(sU,[s]) then true else (d.td.getD p []).any λ t=>FL d f t s
noncomputable def upF (d:Dr) (f:Ft) (p e:Nat):Bool:=decide (0<thF d f e)&&JL d f p (thF d f e)
noncomputable def Jw (d:Dr) (f:Ft) (p:Nat):Nat:=MM.ofB (upF d f p) d.th.length
theorem FK.broken_of {d:Dr} {f:Ft} (h:FK d f) (z:f.1=sB):∃ e,f=(sB,[e])/\1<=e/\e<=d.th.length:=by
  cases h <;> first | (dsimp only at z;exact absurd z (by decide +kernel)) | exact ⟨_,rfl,by assumption,by assumption⟩
theorem FK.drawn_of {d:Dr} {f:Ft} (h:FK d f) (z:f.1=sW):∃ e s,f=(sW,[e,s])/\1<=e/\e<=d.th.length/\s<=d.sh:=by
  cases h <;> first | (dsimp only at z;exact absurd z (by decide +kernel)) | exact ⟨_,_,rfl,by assumption,by assumption,by assumption⟩
theorem FK.down_of {d:Dr} {f:Ft} (h:FK d f) (z:f.1=sD):∃ s,f=(sD,[s])/\1<=s/\s<=d.sh:=by
  cases h <;> first | (dsimp only at z;exact absurd z (by decide +kernel)) | exact ⟨_,rfl,by assumption,by assumption⟩
theorem FK.up_of {d:Dr} {f:Ft} (h:FK d f) (z:f.1=sU):∃ s,f=(sU,[s])/\1<=s/\s<=d.sh:=by
  cases h <;> first | (dsimp only at z;exact absurd z (by decide +kernel)) | exact ⟨_,rfl,by assumption,by assumption⟩
theorem FK.loose_of {d:Dr} {f:Ft} (h:FK d f) (z:f.1=sL):∃ t s,f=(sL,[t,s])/\1<=t/\t<=d.ti.length/\1<=s/\s<=d.sh/\s∈d.ti.getD (t - 1) []:=by
  cases h <;> first | (dsimp only at z;exact absurd z (by decide +kernel)) | exact ⟨_,_,rfl,by assumption,by assumption,by assumption,by assumption,by assumption⟩
theorem FK.tied_of {d:Dr} {f:Ft} (h:FK d f) (z:f.1=sT):∃ t s,f=(sT,[t,s])/\1<=t/\t<=d.ti.length/\1<=s/\s<=d.sh/\s∉d.ti.getD (t - 1) []:=by
  cases h <;> first | (dsimp only at z;exact absurd z (by decide +kernel)) | exact ⟨_,_,rfl,by assumption,by assumption,by assumption,by assumption,by assumption⟩
theorem map_set {n k v:Nat} {g:Nat->Nat} (hk:k<n):((List.range n).map g).set k v=(List.range n).map λ e=>if e=k then v else g e:=by
  refine List.ext_getElem (by simp) λ i h1 h2=> ?_;rw [List.getElem_set];simp only [List.getElem_map,List.getElem_range];by_cases z:k=i
  · rw [if_pos z,if_pos z.symm]
  · rw [if_neg z,if_neg (Ne.symm z)]
theorem Oe (th:List Nat):(List.range th.length).map (λ e=>th.getD e 0)=th:=by
  have:=AI (λ x=>x) th 0;simpa using this
theorem J5 (f:Ft):atI (fV f) 0=some (.str f.1):=by
  unfold fV atI ixN;rw [if_pos (by omega),if_pos (by rw [List.length_cons];omega)];rfl
noncomputable def nF:Ft:=(("none":Str),[])
noncomputable def fW:Ft->List V
  | (_,[])=>[.non]
  | (z,n::ns)=> .str z::(n::ns).map nV
noncomputable def f0V:Ft->V
  | (_,[])=> .non
  | (z,_::_)=> .str z
def FKn (d:Dr) (f:Ft):Prop:=FK d f\/f=nF
theorem T6 {d:Dr} {f:Ft} (h:FK d f):fW f=fV f:=by cases h <;> rfl
theorem IG (f:Ft):atI (fW f) 0=some (f0V f):=by
  obtain ⟨z,ns⟩:=f;cases ns with
  | nil=>rfl
  | cons n ns=>
    unfold fW atI ixN;rw [if_pos (by omega),if_pos (by rw [List.length_cons];omega)];rfl
theorem Gn (x y:Str):decide (V.str x=V.str y)=decide (x=y):=by
  rw [decide_eq_decide];exact ⟨λ h=>by injection h,λ h=>by rw [h]⟩
theorem He {d:Dr} {f:Ft} {z:Str} {H:Hp} {Q:VK} (fk:FKn d f) (hz:("none":Str)≠z) (h:Q (.bl (decide (f.1=z))) H):rEq (f0V f) (.str z) H Q:=by
  rcases fk with fk | rfl
  · cases fk <;> exact ⟨rfl,by rw [show f0V _=V.str _ from rfl,Gn];exact h⟩
  · refine ⟨rfl,?_⟩;have e:decide (nF.1=z)=false:=decide_eq_false hz;rw [e] at h;exact h
theorem FKn.broken_of {d:Dr} {f:Ft} (h:FKn d f) (z:f.1=sB):∃ e,f=(sB,[e])/\1<=e/\e<=d.th.length:=h.elim (λ h=>h.broken_of z) λ h=>by subst h;exact absurd z (by decide +kernel)
theorem FKn.drawn_of {d:Dr} {f:Ft} (h:FKn d f) (z:f.1=sW):∃ e s,f=(sW,[e,s])/\1<=e/\e<=d.th.length/\s<=d.sh:=h.elim (λ h=>h.drawn_of z) λ h=>by subst h;exact absurd z (by decide +kernel)
theorem FKn.down_of {d:Dr} {f:Ft} (h:FKn d f) (z:f.1=sD):∃ s,f=(sD,[s])/\1<=s/\s<=d.sh:=h.elim (λ h=>h.down_of z) λ h=>by subst h;exact absurd z (by decide +kernel)
theorem FKn.up_of {d:Dr} {f:Ft} (h:FKn d f) (z:f.1=sU):∃ s,f=(sU,[s])/\1<=s/\s<=d.sh:=h.elim (λ h=>h.up_of z) λ h=>by subst h;exact absurd z (by decide +kernel)
theorem FKn.loose_of {d:Dr} {f:Ft} (h:FKn d f) (z:f.1=sL):∃ t s,f=(sL,[t,s])/\1<=t/\t<=d.ti.length/\1<=s/\s<=d.sh/\s∈d.ti.getD (t - 1) []:=h.elim (λ h=>h.loose_of z) λ h=>by subst h;exact absurd z (by decide +kernel)
theorem FKn.tied_of {d:Dr} {f:Ft} (h:FKn d f) (z:f.1=sT):∃ t s,f=(sT,[t,s])/\1<=t/\t<=d.ti.length/\1<=s/\s<=d.sh/\s∉d.ti.getD (t - 1) []:=h.elim (λ h=>h.tied_of z) λ h=>by subst h;exact absurd z (by decide +kernel)
def Cu (c:Cs):Sp:=λ vs H Q _=>∃ x d a f,vs=[.ref x, .ref a]/\DrAt c.Draft H x d/\DrOk d/\H a=some (.tup (fW f))/\FKn d f/\∀ H' l,Same H H'->H l=none->H' l=some (.lst (((List.range d.th.length).map (thF d f)).map nV))->Q (.ref l) H'
theorem Go {xs:List Nat} {k v:Nat}:(xs.map nV).set k (nV v)=(xs.set k v).map nV:=by rw [List.map_set]
noncomputable abbrev BJ:Stmt:=top 51
theorem sc_threading_with:FnScope ["draft","fault","threading"] ["draft","fault"] (Af BJ):=⟨rfl,rfl,rfl,by decide +kernel,rfl,by decide +kernel,by decide +kernel⟩
theorem Fx {f:Addr} {fd:FuncData} (F:Fun K "threading_with" "threading_with" BJ f fd) (T:Txt K mg c):FnOk P w K mg base CX0 1 f fd ["draft","fault"] (Cu c):=by
  refine F.ok sc_threading_with (λ vs H Q E h=> ?_) (λ cdv A outer s H vs Q E hr h=> ?_)
  · obtain ⟨x,d,a,f,rfl,_⟩:=h;rfl
  · obtain ⟨x,d,a,f,rfl,⟨dx,v1,v2,v3,v4,v5,hx,r1,r2,r3,r4,r5⟩,ok,ha,fk,k⟩:=h;obtain ⟨b1,rfl,g1,_⟩:=Dx r1;have lth:=ok.h2;refine ⟨_,(Ad (Ao (i:=2) sc_threading_with.nd rfl (Or.inl rfl) (AJ (ET (K:=K)) rfl (T.own _ (by decide)) A6 (Aa (AV (K:=K) (pv 0) rfl) Ab)))
      (Ad (A7 (As B0 (At (AE (K:=K)) (pv 1) Ae (λ _ _=>rfl)) (CH T.k_BROKEN) (Ay _)) (Ah (Jo Ae (KK (pv 2) (Ak Ce (At (AE (K:=K)) (pv 1) Ae (λ _ _=>rfl)) Ae) E4))) Az)
      (Ad (A7 (As B0 (At (AE (K:=K)) (pv 1) Ae (λ _ _=>rfl)) (CH T.k_DRAWN) (Ay _)) (Ah (Jo (At (AE (K:=K)) (pv 1) Ae (λ _ _=>rfl)) (KK (pv 2) (Ak Ce (At (AE (K:=K)) (pv 1) Ae (λ _ _=>rfl)) Ae) E4))) Az)
      (Ah (An (pv 2)))))),?_⟩
    walk_at "w";refine ⟨_,_,_,_,_,rfl,hx,T.kd_Draft.cl,T.na_Draft_threading,rfl,?_⟩;walk_at "w";refine Bt (SqT.of g1) λ l hl=> ?_;have s1:=Ai (o:=HO.lst (d.th.map nV)) hl;have gl:upd H l (HO.lst (d.th.map nV)) l=some (.lst (((List.range d.th.length).map λ e=>d.th.getD e 0).map nV)):=by rw [Ac,Oe]
    generalize upd H l (HO.lst (d.th.map nV))=H1 at s1 gl ⊢;have ha1:=s1 _ _ ha;have fin:∀ (g:Nat->Nat),(∀ e,g e=thF d f e)->∀ (xs:List V),xs=((List.range d.th.length).map g).map nV->Q (.ref l) (upd H1 l (.lst xs)):=λ g hg xs e=>by
      refine k _ l (λ b o e=> ?_) hl (by rw [Ac,e,List.map_congr_left λ e _=>hg e]);rw [Aj (λ z=>by rw [z,hl] at e;cases e)];exact s1 _ _ e
    walk_at "w";refine Ar (SqT.of ha1) (IG f) ?_;walk_at "w";refine He fk (by decide +kernel) ?_;walk_at "w";refine Dg (λ hb=> ?_) (λ hb=> ?_)
    · obtain ⟨e,rfl,e1,e2⟩:=fk.broken_of hb;walk_at "w";refine Jm ?_;walk_at "w";refine Ar (SqT.of ha1) (show atI (fW (sB,[e])) 1=some (nV e) from rfl) ?_;walk_at "w";rw [show ((e:Nat):Int) - 1=((e - 1:Nat):Int) by omega];refine ⟨l,_,_,e - 1,rfl,rfl,gl,Jr (by simp;omega),?_⟩;have e3:(((List.range d.th.length).map λ e=>d.th.getD e 0).map nV).set (e - 1) (V.int 0)=(((List.range d.th.length).map λ k=>if k=e - 1 then 0 else d.th.getD k 0).map nV):=by
        rw [show V.int 0=nV 0 from rfl,Go,map_set (by omega)]
      rw [e3];have ha2:upd H1 l (HO.lst (((List.range d.th.length).map λ k=>if k=e - 1 then 0 else d.th.getD k 0).map nV)) a=some (.tup (fW (sB,[e]))):=by
        rw [Aj (λ z=>by rw [z,hl] at ha;cases ha)];exact ha1
      walk_at "w";refine Ar (SqT.of ha2) (IG _) ?_;walk_at "w";refine He fk (by decide +kernel) ?_;walk_at "w";refine Dg (λ hw=>absurd (show sB=sW from hw) (by decide +kernel)) (λ _=> ?_);walk_at "w";refine fin _ (λ k=> ?_) _ rfl;unfold thF;by_cases z:k=e - 1
      · rw [if_pos z,if_pos (by rw [z,show e - 1+1=e by omega])]
      · rw [if_neg z,if_neg (λ q=>z (by injection q with _ q;injection q with q;omega)),if_neg (λ q=>absurd (show sB=sW from q.1) (by decide +kernel))]
    · walk_at "w";refine Ar (SqT.of ha1) (IG f) ?_;walk_at "w";refine He fk (by decide +kernel) ?_;walk_at "w";refine Dg (λ hw=> ?_) (λ hw=> ?_)
      · obtain ⟨e,s,rfl,e1,e2,s2⟩:=fk.drawn_of hw;walk_at "w";refine Ar (SqT.of ha1) (show atI (fW (sW,[e,s])) 2=some (nV s) from rfl) ?_;walk_at "w";refine Jm ?_;walk_at "w";refine Ar (SqT.of ha1) (show atI (fW (sW,[e,s])) 1=some (nV e) from rfl) ?_;walk_at "w";rw [show ((e:Nat):Int) - 1=((e - 1:Nat):Int) by omega];refine ⟨l,_,_,e - 1,rfl,rfl,gl,Jr (by simp;omega),?_⟩;walk_at "w";refine fin (λ k=>if k=e - 1 then s else d.th.getD k 0) (λ k=> ?_) _ (by rw [Go,map_set (by omega)]);unfold thF;have n1:¬ ((sW,[e,s]):Ft)=(sB,[k+1]):=λ q=>absurd (show sW=sB from congrArg Prod.fst q) (by decide +kernel);rw [if_neg n1];by_cases z:k=e - 1
        · rw [if_pos z,if_pos ⟨rfl,by rw [z];show e=_;omega⟩];rfl
        · rw [if_neg z,if_neg (λ q=>z (by have:e=k+1:=q.2;omega))]
      · walk_at "w";have e0:H1=upd H1 l (.lst (((List.range d.th.length).map λ e=>d.th.getD e 0).map nV)):=by
          funext b;by_cases z:b=l
          · rw [z,Ac];exact gl
          · rw [Aj z]
        rw [e0];refine fin _ (λ k=> ?_) _ rfl;unfold thF;rw [if_neg (λ q=>hb (by rw [q])),if_neg (λ q=>hw q.1)]
noncomputable def tmF (d:Dr) (f:Ft) (t:Nat):Nat:=MM.ofB (λ i=>FL d f (t+1) (i+1)) d.sh
theorem JR {ns:List Nat} (h:∀ n∈ns,1<=n) (i:Nat):(MM.mOf ns).testBit i=decide (i+1∈ns):=by
  rw [MM.mOf_bit,Bool.eq_iff_iff,List.any_eq_true,decide_eq_true_eq];constructor
  · rintro ⟨n,hn,e⟩;have e:n - 1=i:=of_decide_eq_true e;have:=h n hn;rw [<-e,show n - 1+1=n by omega];exact hn
  · exact λ hn=>⟨_,hn,decide_eq_true (by omega)⟩
theorem OC {d:Dr} (ok:DrOk d) {t:Nat} (ht:t<d.ti.length):MM.mOf (d.ti.getD t [])=MM.ofB (λ i=>decide (i+1∈d.ti.getD t [])) d.sh:=by
  have hm:=(ok.ir _ (AA (y:=[]) ht)).le;refine MM.eq_ofB ?_ λ i _=>JR (λ n hn=>(hm n hn).1) i;refine Nat.lt_pow_two_of_testBit _ λ i hi=> ?_;rw [JR (λ n hn=>(hm n hn).1)];exact decide_eq_false λ q=>by have:=(hm _ q).2;omega
theorem OA {d:Dr} {g g':Nat->Bool} {s:Nat} (h1:1<=s) (h2:s<=d.sh) (h:∀ i,i<d.sh->g' i=if i+1=s then !g i else g i):MM.ofB g d.sh ^^^ 2 ^ (s - 1)=MM.ofB g' d.sh:=by
  refine Nat.eq_of_testBit_eq λ i=> ?_;rw [Nat.testBit_xor,MM.ofB_bit,MM.ofB_bit,Nat.testBit_two_pow];by_cases hi:i<d.sh
  · rw [decide_eq_true hi,Bool.true_and,Bool.true_and,h i hi];by_cases z:i+1=s
    · rw [if_pos z,decide_eq_true (by omega)];cases g i <;> rfl
    · rw [if_neg z,decide_eq_false (by omega)];cases g i <;> rfl
  · rw [decide_eq_false hi,Bool.false_and,Bool.false_and,decide_eq_false (by omega)];rfl
def E3 (c:Cs):Sp:=λ vs H Q _=>∃ x d a f,vs=[.ref x, .ref a]/\DrAt c.Draft H x d/\DrOk d/\H a=some (.tup (fW f))/\FKn d f/\∀ H' l,Same H H'->H l=none->H' l=some (.lst (((List.range d.ti.length).map (tmF d f)).map nV))->Q (.ref l) H'
theorem RD (f:Ft):Bf (f0V f)=true:=by
  obtain ⟨z,ns⟩:=f;cases ns <;> rfl
theorem N7 (z a b:Str):inV (.str z) [.str a, .str b]=(decide (a=z)||decide (b=z)):=by
  unfold inV;show (decide (a=z)||(decide (b=z)||false))=_;rw [Bool.or_false]
theorem OK {d:Dr} {f:Ft} (fk:FKn d f):inV (f0V f) [.str sL, .str sT]=(decide (sL=f.1)||decide (sT=f.1)):=by
  rcases fk with fk | rfl
  · rw [show f0V f= .str f.1 from by cases fk <;> rfl,N7]
  · decide +kernel
noncomputable abbrev Eb:Stmt:=top 52
theorem sc_ties_with:FnScope ["draft","fault","ties"] ["draft","fault"] (Af Eb):=⟨rfl,rfl,rfl,by decide +kernel,rfl,by decide +kernel,by decide +kernel⟩
theorem JN {f:Addr} {fd:FuncData} (F:Fun K "ties_with" "ties_with" Eb f fd) (T:Txt K mg c) (c_mask_of:Aw P w K mg base "mask_of" 2 ["numbers"] (ES K)) (c_bit_of:Aw P w K mg base "bit_of" 1 ["number"] Eh):FnOk P w K mg base CX0 3 f fd ["draft","fault"] (E3 c):=by
  refine F.ok sc_ties_with (λ vs H Q E h=> ?_) (λ cdv A outer s H vs Q E hr h=> ?_)
  · obtain ⟨x,d,a,f,rfl,_⟩:=h;rfl
  · obtain ⟨x,d,a,f,rfl,⟨dx,v1,v2,v3,v4,v5,hx,h1,h2,h3,h4,h5⟩,ok,ha,fk,k⟩:=h;obtain ⟨m2,a2,vs2,em2,rfl,e2,l2,b2,el2⟩:=BX h2;cases em2;rw [List.length_map] at l2;have t2:=ok.t2;have il:=ok.il;refine ⟨_,(Ad (Cj (i:=2) sc_ties_with.nd rfl (Or.inl rfl) (II (K:=K) (AV (K:=K) (pv 0) rfl)) (λ _ _ _ _=>Ax) (λ _ _ _ _=>(Ag c_mask_of hr (Aa (pv 0) Ab))))
      (Ad (A7 (As (Pz (K:=K)) (At (AE (K:=K)) (pv 1) Ae (λ _ _=>rfl)) (AB (Aa (CH T.k_LOOSE) (Aa (CH T.k_TIED) Ab))) (by with_unfolding_all rfl)) (Ah (Ot (pv 2) (Ak Ce (At (AE (K:=K)) (pv 1) Ae (λ _ _=>rfl)) Ae) (QG (K:=K)) (Ag c_bit_of (hr.mono (by decide)) (Aa (At (AE (K:=K)) (pv 1) Ae (λ _ _=>rfl)) Ab)) OL E4)) Az)
      (Ah (An (pv 2))))),?_⟩
    walk_at "w";refine ⟨_,_,_,_,_,rfl,hx,T.kd_Draft.cl,T.na_Draft_ties,rfl,?_⟩;walk_at "w";refine ⟨a2,rfl,⟨_,SqT.of e2⟩,λ D hD=> ?_⟩;refine BI (G:=λ i=>((MM.ofB (λ j=>decide (j+1∈d.ti.getD i [])) d.sh:Nat):Int)) (Dp (SqT.of e2) rfl) hD b2 ?_ ?_
    · intro i H' R hi s kk;have hi':i<d.ti.length:=by omega
      have r:=el2 i (by simpa using hi');rw [AM dT d.ti i .non [] hi'] at r;obtain ⟨b,eb,hb3,hb4⟩:=Dx r;rw [eb];rw [<-OC ok hi'] at kk;walk_at "w";have hm:=(ok.ir _ (AA (y:=[]) hi')).le;exact ⟨true,b,_,rfl,SqT.of (s _ _ hb3),λ n hn=>⟨(hm n hn).1,by have:=hm n hn;have:=ok.s2;omega⟩,λ H3 s3=>kk H3 s3⟩
    intro H1 s1 gl;rw [Jf,l2] at gl;have ha1:=s1 _ _ ha;have fin:∀ (g:Nat->Nat),(∀ t,t<d.ti.length->g t=tmF d f t)->∀ (H2:Hp) (xs:List V),Same H1 H2->xs=((List.range d.ti.length).map g).map nV->Q (.ref D) (upd H2 D (.lst xs)):=λ g hg H2 xs s2 e=>by
      refine k _ D (λ b o e=> ?_) hD (by rw [Ac,e,List.map_congr_left λ e he=>hg e (List.mem_range.mp he)]);rw [Aj (λ z=>by rw [z,hD] at e;cases e)];exact s2 _ _ (s1 _ _ e)
    walk_at "w";refine Ar (SqT.of ha1) (IG f) ?_;walk_at "w";intro p hp;have z2:=Ai (o:=HO.tup [.str sL, .str sT]) hp;have gp:upd H1 p (HO.tup [.str sL, .str sT]) p=_:=Ac;generalize upd H1 p (HO.tup [.str sL, .str sT])=H2 at z2 gp ⊢;walk_at "w";refine ⟨p,_,rfl, .inr (SqT.of gp),RD f,rfl,?_⟩;rw [if_neg (by decide),OK fk];walk_at "w";have key:∀ (t s:Nat),f.2=[t,s]->(f.1=sL/\s∈d.ti.getD (t - 1) []\/f.1=sT/\s∉d.ti.getD (t - 1) [])->1<=t->t<=d.ti.length->1<=s->s<=d.sh->∀ u,u<d.ti.length->(if u=t - 1 then MM.ofB (λ j=>decide (j+1∈d.ti.getD u [])) d.sh ^^^ 2 ^ (s - 1) else MM.ofB (λ j=>decide (j+1∈d.ti.getD u [])) d.sh)=tmF d f u:=λ t s ef hk t1 t2 s1 s2 u hu=>by
      unfold tmF;by_cases z:u=t - 1
      · rw [if_pos z];refine OA s1 s2 λ i hi=> ?_;unfold FL;by_cases y:i+1=s
        · rw [if_pos y];rcases hk with ⟨q1,q2⟩ | ⟨q1,q2⟩
          · rw [if_pos (by rw [show f=(f.1,f.2) from rfl,ef,q1,show t=u+1 by omega,y])];rw [<-z] at q2;rw [y,decide_eq_true q2];rfl
          · rw [if_neg (λ q=>absurd (show sL=sT by rw [<-q1,q]) (by decide +kernel)),if_pos (by rw [show f=(f.1,f.2) from rfl,ef,q1,show t=u+1 by omega,y])];rw [<-z] at q2;rw [y,decide_eq_false q2];rfl
        · have ne:∀ w:Str,¬ f=(w,[u+1,i+1]):=λ w q=>y (by
            have q2:f.2=[u+1,i+1]:=by rw [q]
            rw [ef] at q2;injection q2 with _ q2;injection q2 with q2;exact q2.symm)
          rw [if_neg y,if_neg (ne _),if_neg (ne _),Nat.add_sub_cancel]
      · rw [if_neg z];refine MM.ofB_congr λ i hi=> ?_;unfold FL;have ne:∀ w:Str,¬ f=(w,[u+1,i+1]):=λ w q=>z (by
          have q2:f.2=[u+1,i+1]:=by rw [q]
          rw [ef] at q2;injection q2 with q2;omega)
        rw [if_neg (ne _),if_neg (ne _),Nat.add_sub_cancel]
    have gl2:=z2 _ _ gl;have ha2:=z2 _ _ ha1;refine JZ (λ hc=> ?_) (λ hc=> ?_)
    · obtain ⟨t,s,ef,hk,t1,tl,s1',s2'⟩:∃ t s:Nat,f.2=[t,s]/\(f.1=sL/\s∈d.ti.getD (t - 1) []\/f.1=sT/\s∉d.ti.getD (t - 1) [])/\1<=t/\t<=d.ti.length/\1<=s/\s<=d.sh:=by
        rcases Bool.or_eq_true_iff.mp hc with q | q
        · obtain ⟨t,s,rfl,a1,a2,a3,a4,a5⟩:=fk.loose_of (of_decide_eq_true q).symm;exact ⟨t,s,rfl, .inl ⟨rfl,a5⟩,a1,a2,a3,a4⟩
        · obtain ⟨t,s,rfl,a1,a2,a3,a4,a5⟩:=fk.tied_of (of_decide_eq_true q).symm;exact ⟨t,s,rfl, .inr ⟨rfl,a5⟩,a1,a2,a3,a4⟩
      have at1:atI (fW f) 1=some (nV t):=by rw [show f=(f.1,f.2) from rfl,ef];rfl
      have at2:atI (fW f) 2=some (nV s):=by rw [show f=(f.1,f.2) from rfl,ef];rfl
      refine O7 ?_;walk_at "w";refine Ar (SqT.of ha2) at1 ?_;walk_at "w";rw [show ((t:Nat):Int) - 1=((t - 1:Nat):Int) by omega];refine Bk (SqL.of gl2) (v:=nV (MM.ofB (λ j=>decide (j+1∈d.ti.getD (t - 1) [])) d.sh)) (Am (j:=t - 1) ?_) ?_
      · rw [List.getElem?_map,List.getElem?_map,List.getElem?_range (by omega)];rfl
      walk_at "w";refine Ar (SqT.of ha2) at2 ?_;walk_at "w";refine ⟨s,rfl,s1',by have:=ok.s2;omega,?_⟩;walk_at "w";rw [bX];refine ⟨D,_,_,t - 1,rfl,rfl,gl2,Jr (by simp;omega),?_⟩;walk_at "w";refine fin _ (key t s ef hk t1 tl s1' s2') _ _ z2 ?_;rw [show V.int (((MM.ofB (λ j=>decide (j+1∈d.ti.getD (t - 1) [])) d.sh ^^^ 2 ^ (s - 1):Nat):Int))=nV (MM.ofB (λ j=>decide (j+1∈d.ti.getD (t - 1) [])) d.sh ^^^ 2 ^ (s - 1)) from rfl,Go,map_set (by omega)];refine congrArg (List.map nV) (List.map_congr_left λ u hu=> ?_);by_cases z:u=t - 1
      · rw [if_pos z,if_pos z,z]
      · rw [if_neg z,if_neg z]
    · walk_at "w";have e0:H2=upd H2 D (.lst (((List.range d.ti.length).map λ i=>MM.ofB (λ j=>decide (j+1∈d.ti.getD i [])) d.sh).map nV)):=by
        funext b;by_cases z:b=D
        · rw [z,Ac];exact gl2
        · rw [Aj z]
      rw [e0];refine fin _ (λ t ht=>MM.ofB_congr λ i hi=> ?_) _ _ z2 rfl;rw [Bool.or_eq_false_iff] at hc;unfold FL;rw [if_neg (λ q=>absurd (show sL=f.1 by rw [q]) (of_decide_eq_false hc.1)),if_neg (λ q=>absurd (show sT=f.1 by rw [q]) (of_decide_eq_false hc.2)),Nat.add_sub_cancel]
noncomputable def cdF (d:Dr) (f:Ft) (i:Nat):Nat:=if f=(sD,[i+1]) then 0 else JK ((List.range d.th.length).map (thF d f)) (i+1)
def Dy (c:Cs):Sp:=λ vs H Q _=>∃ x d a f,vs=[.ref x, .ref a]/\DrAt c.Draft H x d/\DrOk d/\H a=some (.tup (fW f))/\FKn d f/\∀ H' l,Same H H'->H l=none->H' l=some (.lst (((List.range d.sh).map (cdF d f)).map nV))->Q (.ref l) H'
noncomputable abbrev Cc:Stmt:=top 53
theorem sc_carried_with:FnScope ["draft","fault","carried"] ["draft","fault"] (Af Cc):=⟨rfl,rfl,rfl,by decide +kernel,rfl,by decide +kernel,by decide +kernel⟩
theorem Gg {f:Addr} {fd:FuncData} (F:Fun K "carried_with" "carried_with" Cc f fd) (T:Txt K mg c) (c_shaft_ends:Aw P w K mg base "shaft_ends" 4 ["threading","shafts"] (Ey K)) (c_threading_with:Aw P w K mg base "threading_with" 1 ["draft","fault"] (Cu c)):FnOk P w K mg base CX0 5 f fd ["draft","fault"] (Dy c):=by
  refine F.ok sc_carried_with (λ vs H Q E h=> ?_) (λ cdv A outer s H vs Q E hr h=> ?_)
  · obtain ⟨x,d,a,f,rfl,_⟩:=h;rfl
  · obtain ⟨x,d,a,f,rfl,D0,ok,ha,fk,k⟩:=h;have n2:=ok.h2;have sh2:=ok.s2;refine ⟨_,(Ad (Ao (i:=2) sc_carried_with.nd rfl (Or.inl rfl) (Ag c_shaft_ends hr (Aa (Ag c_threading_with (hr.mono (by decide)) (Aa (pv 0) (Aa (pv 1) Ab))) (Aa (AV (K:=K) (pv 0) rfl) Ab))))
      (Ad (A7 (As B0 (At (AE (K:=K)) (pv 1) Ae (λ _ _=>rfl)) (CH T.k_DOWN) (Ay _)) (Ah (Jo Ae (KK (pv 2) (Ak Ce (At (AE (K:=K)) (pv 1) Ae (λ _ _=>rfl)) Ae) E4))) Az)
      (Ah (An (pv 2))))),?_⟩
    walk_at "w";refine ⟨x,d,a,f,rfl,D0,ok,ha,fk,λ H1 l s1 hl gl=> ?_⟩;obtain ⟨dx,v1,v2,v3,v4,v5,hx,r1,r2,r3,r4,r5⟩:=D0.same s1;walk_at "w";refine ⟨_,_,_,_,_,rfl,hx,T.kd_Draft.cl,T.na_Draft_shafts,rfl,?_⟩;walk_at "w";refine ⟨l,false,_,d.sh,rfl,SqL.of gl,by simp;omega,by omega,λ H2 q s2 hq gq=> ?_⟩;have ha2:=s2 _ _ (s1 _ _ ha);have s12:=s1.trans s2;have fq:H q=none:=s1.free hq;have fin:∀ (g:Nat->Nat),(∀ t,t<d.sh->g t=cdF d f t)->∀ xs:List V,xs=((List.range d.sh).map g).map nV->Q (.ref q) (upd H2 q (.lst xs)):=λ g hg xs e=>by
      refine k _ q (λ b o e=> ?_) fq (by rw [Ac,e,List.map_congr_left λ e he=>hg e (List.mem_range.mp he)]);rw [Aj (λ z=>by rw [z,fq] at e;cases e)];exact s12 _ _ e
    walk_at "w";refine Ar (SqT.of ha2) (IG f) ?_;walk_at "w";refine He fk (by decide +kernel) ?_;walk_at "w";refine Dg (λ hb=> ?_) (λ hb=> ?_)
    · obtain ⟨s,rfl,e1,e2⟩:=fk.down_of hb;walk_at "w";refine Jm ?_;walk_at "w";refine Ar (SqT.of ha2) (show atI (fW (sD,[s])) 1=some (nV s) from rfl) ?_;walk_at "w";rw [show ((s:Nat):Int) - 1=((s - 1:Nat):Int) by omega];refine ⟨q,_,_,s - 1,rfl,rfl,gq,Jr (by simp;omega),?_⟩;walk_at "w";refine fin _ (λ t ht=> ?_) _ (by rw [show V.int 0=nV 0 from rfl,Go,map_set (by omega)]);unfold cdF;by_cases z:t=s - 1
      · rw [if_pos z,if_pos (by rw [z,show s - 1+1=s by omega])]
      · rw [if_neg z,if_neg (λ q=>z (by injection q with _ q;injection q with q;omega))]
    · walk_at "w";have e0:H2=upd H2 q (.lst (((List.range d.sh).map λ i=>JK ((List.range d.th.length).map (thF d f)) (i+1)).map nV)):=by
        funext b;by_cases z:b=q
        · rw [z,Ac];exact gq
        · rw [Aj z]
      rw [e0];refine fin _ (λ t ht=> ?_) _ rfl;unfold cdF;rw [if_neg (λ q=>hb (by rw [q]))]
noncomputable def aF (d:Dr) (f:Ft):Nat:=if f.1=sU then JK d.th (f.2.getD 0 0) else 0
def GearAt (C:Addr) (H:Hp) (x:Addr) (d:Dr) (f:Ft):Prop:=∃ dx t1 t2,H x=some (.ins C dx [("tied", .ref t1),("carried", .ref t2),("always_up",nV (aF d f))])/\H t1=some (.lst (((List.range d.ti.length).map (tmF d f)).map nV))/\H t2=some (.lst (((List.range d.sh).map (cdF d f)).map nV))
theorem GearAt.same {C:Addr} {H H':Hp} {x:Addr} {d:Dr} {f:Ft} (h:GearAt C H x d f) (s:Same H H'):GearAt C H' x d f:=by
  obtain ⟨dx,t1,t2,a,b,c⟩:=h;exact ⟨dx,t1,t2,s _ _ a,s _ _ b,s _ _ c⟩
theorem DrAt.ins {C C':Addr} {H:Hp} {x y:Addr} {d:Dr} {dx':Addr} {fs:List (Str × V)} {o:HO} (h:DrAt C H y d) (hx:H x=some (.ins C' dx' fs)) (ne:y≠x):DrAt C (upd H x o) y d:=by
  obtain ⟨dx,v1,v2,v3,v4,v5,h0,h1,h2,h3,h4,h5⟩:=h;exact ⟨dx,v1,v2,v3,v4,v5,by rw [Aj ne];exact h0,h1.ins hx,h2.ins hx,h3.ins hx,h4.ins hx,h5.ins hx⟩
def FvA (d:Dr) (H:Hp) (v:V) (f:Ft):Prop:=(∃ a,v= .ref a/\H a=some (.tup (fV f))/\FK d f)\/(v= .non/\f=nF)
theorem FvA.same {d:Dr} {H H':Hp} {v:V} {f:Ft} (h:FvA d H v f) (s:Same H H'):FvA d H' v f:=by
  rcases h with ⟨a,e,h,k⟩ | h
  · exact .inl ⟨a,e,s _ _ h,k⟩
  · exact .inr h
theorem FvA.fk {d:Dr} {H:Hp} {v:V} {f:Ft} (h:FvA d H v f):FKn d f:=by
  rcases h with ⟨a,e,h,k⟩ | ⟨_,h⟩
  · exact .inl k
  · exact .inr h
def CU (c:Cs):Sp:=λ vs H Q _=>∃ (x dx y:Addr) (v:V) (d:Dr) (f:Ft),vs=[.ref x, .ref y,v]/\H x=some (.ins c.Gear dx [])/\DrAt c.Draft H y d/\DrOk d/\FvA d H v f/\
  ∀ H',(∀ b o,H b=some o->b≠x->H' b=some o)->GearAt c.Gear H' x d f->Q .non H'
noncomputable abbrev BV:Stmt:=Aq (top 54) 0
theorem sc_Gear___init__:FnScope ["self","draft","fault","told"] ["self","draft","fault"] (Af BV):=⟨rfl,rfl,rfl,by decide +kernel,rfl,by decide +kernel,by decide +kernel⟩
theorem FS {f:Addr} {fd:FuncData} (F:Fun K "__init__" "Gear.__init__" BV f fd) (T:Txt K mg c) (c_ties_with:Aw P w K mg base "ties_with" 3 ["draft","fault"] (E3 c)) (c_carried_with:Aw P w K mg base "carried_with" 5 ["draft","fault"] (Dy c)) (c_ends_through:Aw P w K mg base "ends_through" 3 ["threading","shaft"] (BY K)):FnOk P w K mg base CX0 6 f fd ["self","draft","fault"] (CU c):=by
  refine F.ok sc_Gear___init__ (λ vs H Q E h=> ?_) (λ cdv A outer s H vs Q E hr h=> ?_)
  · obtain ⟨x,dx,y,v,d,f,rfl,_⟩:=h;rfl
  · obtain ⟨x,dx,y,v,d,f,rfl,hx,D0,ok,fv,k⟩:=h;have n2:=ok.h2;have fk:=fv.fk;have nyx:y≠x:=λ z=>by
      obtain ⟨dx',v1,v2,v3,v4,v5,h0,_⟩:=id D0;rw [z,hx] at h0;injection h0 with h0;injection h0 with _ _ e;cases e
    refine ⟨_,(Ad (Ao (i:=3) sc_Gear___init__.nd rfl (Or.inl rfl) (GQ (As Gq (pv 2) Cv (Ay _)) (pv 2) (AB (Aa Cv Ab))))
      (Ad (Bm (pv 0) (Ag c_ties_with (hr.mono (by decide)) (Aa (pv 1) (Aa (pv 3) Ab))) rfl)
      (Ad (Bm (pv 0) (Ag c_carried_with hr (Aa (pv 1) (Aa (pv 3) Ab))) rfl)
      (Ah (Bm (pv 0) (GQ (As B0 (At (AE (K:=K)) (pv 3) Ae (λ _ _=>rfl)) (CH T.k_UP) (Ay _)) (Ag c_ends_through (hr.mono (by decide)) (Aa (AV (K:=K) (pv 1) rfl) (Aa (At (AE (K:=K)) (pv 3) Ae (λ _ _=>rfl)) Ab))) Ae) rfl))))),?_⟩
    walk_at "w";refine ⟨rfl,?_⟩;walk_at "w";refine ifE (λ u H'=>∃ a,u= .ref a/\Same H H'/\H' a=some (.tup (fW f))) ?_ (λ R hR=> ?_)
    case refine_2=>
      rcases fv with ⟨a,rfl,ha,fk'⟩ | ⟨rfl,rfl⟩
      · rw [show (!decide (V.ref a=V.non))=true by rw [decide_eq_false (by intro z;cases z)];rfl];refine Kj ?_;walk_at "w";exact hR _ _ ⟨a,rfl,Same.refl _,by rw [T6 fk'];exact ha⟩
      · rw [show (!decide (V.non=V.non))=false by simp];refine Fh ?_;walk_at "w";intro p hp;exact hR _ _ ⟨p,rfl,Ai hp,Ac⟩
    rintro u Hb ⟨a,rfl,sb,ha⟩;replace hx:=sb _ _ hx;replace D0:=D0.same sb;have kb:=k;replace k:∀ H',(∀ b o,Hb b=some o->b≠x->H' b=some o)->GearAt c.Gear H' x d f->Q .non H':=λ H' kp g=>kb H' (λ b o e n=>kp b o (sb _ _ e) n) g;have nax:a≠x:=Ee ha hx (by intro z;cases z);walk_at "w";refine ⟨y,d,a,f,rfl,D0,ok,ha,fk,λ H1 l1 s1 hl1 gl1=> ?_⟩;walk_at "w";refine Be (s1 _ _ hx) T.kd_Gear.cl T.na_Gear_tied (by decide) ?_;rw [show AR ("tied":Str) (V.ref l1) []=([("tied", .ref l1)]:List (Str × V)) from rfl];have D1:=(D0.same s1).ins (o:=HO.ins c.Gear dx [("tied", .ref l1)]) (s1 _ _ hx) nyx;have nlx:l1≠x:=λ z=>by rw [z,hx] at hl1;cases hl1
    have kp1:∀ b o,b≠x->H1 b=some o->upd H1 x (HO.ins c.Gear dx [("tied", .ref l1)]) b=some o:=λ b o h e=>by rw [Aj h];exact e
    have gx1:upd H1 x (HO.ins c.Gear dx [("tied", .ref l1)]) x=_:=Ac;walk_at "w";generalize upd H1 x (HO.ins c.Gear dx [("tied", .ref l1)])=H2 at D1 kp1 gx1 ⊢;refine ⟨y,d,a,f,rfl,D1,ok,kp1 _ _ nax (s1 _ _ ha),fk,λ H3 l2 s3 hl2 gl2=> ?_⟩;walk_at "w";refine Be (s3 _ _ gx1) T.kd_Gear.cl T.na_Gear_carried (by show 1<1000;decide) ?_;rw [show AR ("carried":Str) (V.ref l2) ([("tied", .ref l1)]:List (Str × V))=([("tied", .ref l1),("carried", .ref l2)]:List (Str × V)) from rfl];have D3:=(D1.same s3).ins (o:=HO.ins c.Gear dx [("tied", .ref l1),("carried", .ref l2)]) (s3 _ _ gx1) nyx;have nl2x:l2≠x:=λ z=>by rw [z,gx1] at hl2;cases hl2
    have kp3:∀ b o,b≠x->H3 b=some o->upd H3 x (HO.ins c.Gear dx [("tied", .ref l1),("carried", .ref l2)]) b=some o:=λ b o h e=>by rw [Aj h];exact e
    have gx3:upd H3 x (HO.ins c.Gear dx [("tied", .ref l1),("carried", .ref l2)]) x=_:=Ac;have ha3:=kp3 _ _ nax (s3 _ _ (kp1 _ _ nax (s1 _ _ ha)));have g1':=kp3 _ _ nlx (s3 _ _ (kp1 _ _ nlx gl1));have g2':=kp3 _ _ nl2x gl2;have kp:∀ b o,Hb b=some o->b≠x->upd H3 x (HO.ins c.Gear dx [("tied", .ref l1),("carried", .ref l2)]) b=some o:=λ b o e h=>kp3 _ _ h (s3 _ _ (kp1 _ _ h (s1 _ _ e)));walk_at "w";generalize upd H3 x (HO.ins c.Gear dx [("tied", .ref l1),("carried", .ref l2)])=H4 at D3 gx3 ha3 g1' g2' kp ⊢;refine Ar (SqT.of ha3) (IG f) ?_;walk_at "w";refine He fk (by decide +kernel) ?_;walk_at "w";have fin:∀ H5,Same H4 H5->GearAt c.Gear (upd H5 x (HO.ins c.Gear dx [("tied", .ref l1),("carried", .ref l2),("always_up",nV (aF d f))])) x d f/\∀ b o,Hb b=some o->b≠x->(upd H5 x (HO.ins c.Gear dx [("tied", .ref l1),("carried", .ref l2),("always_up",nV (aF d f))])) b=some o:=λ H5 s5=>
      ⟨⟨dx,l1,l2,Ac,by rw [Aj nlx];exact s5 _ _ g1',by rw [Aj nl2x];exact s5 _ _ g2'⟩,λ b o e h=>by rw [Aj h];exact s5 _ _ (kp b o e h)⟩
    refine Dg (λ hu=> ?_) (λ hu=> ?_)
    · obtain ⟨s,rfl,e1,e2⟩:=fk.up_of hu;obtain ⟨dx',v1,v2,v3,v4,v5,hy,r1,_⟩:=id D3;obtain ⟨b1,rfl,g1,_⟩:=Dx r1;walk_at "w";refine ⟨_,_,_,_,_,rfl,hy,T.kd_Draft.cl,T.na_Draft_threading,rfl,?_⟩;walk_at "w";refine Ar (SqT.of ha3) (show atI (fW (sU,[s])) 1=some (nV s) from rfl) ?_;walk_at "w";refine ⟨b1,true,d.th,s,rfl,SqT.of g1,by omega,λ H5 s5=> ?_⟩;walk_at "w";refine Be (s5 _ _ gx3) T.kd_Gear.cl T.na_Gear_always_up (by show 2<1000;decide) ?_;have ea:aF d (sU,[s])=JK d.th s:=if_pos rfl;obtain ⟨f1,f2⟩:=fin H5 s5;walk_at "w";rw [ea] at f1 f2;exact k _ f2 f1
    · walk_at "w";refine Be gx3 T.kd_Gear.cl T.na_Gear_always_up (by show 2<1000;decide) ?_;have ea:aF d f=0:=if_neg hu;obtain ⟨f1,f2⟩:=fin H4 (Same.refl _);walk_at "w";rw [ea] at f1 f2;exact k _ f2 f1
theorem Vg {d:Dr} (ok:DrOk d) {f:Ft} (fk:FKn d f) {e:Nat} (he:e<d.th.length):thF d f e<=d.sh:=by
  unfold thF;split
  · exact Nat.zero_le _
  · split
    · rename_i h
      obtain ⟨e',s,rfl,_,_,h3⟩:=fk.drawn_of h.1;exact h3
    · exact ok.hs _ (AA he)
theorem Fv {n i:Nat} {g:Nat->Nat} (h:i<n):((List.range n).map g).getD i 0=g i:=by
  rw [List.getD_eq_getElem?_getD,List.getElem?_map,List.getElem?_range h];rfl
theorem P0 {d:Dr} {s e:Nat}:thF d (sU,[s]) e=d.th.getD e 0:=by
  unfold thF;rw [if_neg (λ q=>absurd (show sU=sB from congrArg Prod.fst q) (by decide +kernel)),if_neg (λ q=>absurd (show sU=sW from q.1) (by decide +kernel))]
theorem MT {d:Dr} (ok:DrOk d) {f:Ft} (fk:FKn d f) {p:Nat} (hp:p<d.td.length):aF d f ||| RP ((List.range d.sh).map (cdF d f)) (MM.uOf ((d.td.getD p []).map λ k=>((List.range d.ti.length).map (tmF d f)).getD (k - 1) 0))=Jw d f p:=by
  have hR:=ok.pr _ (AA (y:=[]) hp);have hk:=hR.le;have il:=ok.il;have lth:((List.range d.th.length).map (thF d f)).length=d.th.length:=by simp
  have liftB:∀ s,1<=s->(MM.uOf ((d.td.getD p []).map λ k=>((List.range d.ti.length).map (tmF d f)).getD (k - 1) 0)).testBit (s - 1)=(decide (s<=d.sh)&&(d.td.getD p []).any λ t=>FL d f t s):=λ s h1=>by
    rw [MM.uOf_bit,List.any_map];have e:(d.td.getD p []).any ((λ m=>m.testBit (s - 1))∘λ k=>((List.range d.ti.length).map (tmF d f)).getD (k - 1) 0)=(d.td.getD p []).any λ t=>decide (s<=d.sh)&&FL d f t s:=by
      rw [Bool.eq_iff_iff,List.any_eq_true,List.any_eq_true];have one:∀ t∈d.td.getD p [],(((List.range d.ti.length).map (tmF d f)).getD (t - 1) 0).testBit (s - 1)=(decide (s<=d.sh)&&FL d f t s):=λ t ht=>by
        obtain ⟨t1,t2⟩:=hk t ht;rw [Fv (by omega)];unfold tmF;rw [MM.ofB_bit,show t - 1+1=t by omega,show s - 1+1=s by omega];congr 1;exact decide_eq_decide.mpr (by omega)
      exact ⟨λ ⟨t,ht,h⟩=>⟨t,ht,by rw [<-one t ht];exact h⟩,λ ⟨t,ht,h⟩=>⟨t,ht,by show (((List.range d.ti.length).map (tmF d f)).getD (t - 1) 0).testBit (s - 1)=true;rw [one t ht];exact h⟩⟩
    rw [e];cases hq:decide (s<=d.sh) with
    | true=>simp
    | false=>simp
  have cdB:∀ s e,1<=s->s<=d.sh->(((List.range d.sh).map (cdF d f)).getD (s - 1) 0).testBit e=(decide (e<d.th.length)&&(!decide (f=(sD,[s]))&&decide (thF d f e=s))):=λ s e h1 h2=>by
    rw [Fv (by omega)];unfold cdF;rw [show s - 1+1=s by omega];split
    · rename_i q
      rw [Nat.zero_testBit,decide_eq_true q];simp
    · rename_i q
      unfold JK;rw [MM.ofB_bit,lth,decide_eq_false q];by_cases z:e<d.th.length
      · rw [Fv z];rfl
      · rw [decide_eq_false z];rfl
  refine Nat.eq_of_testBit_eq λ e=> ?_;unfold Jw;rw [Nat.testBit_or,MM.ofB_bit];unfold RP;rw [MM.uOf_bit,List.any_map];have aB:(aF d f).testBit e=(decide (e<d.th.length)&&(decide (f.1=sU)&&decide (d.th.getD e 0=f.2.getD 0 0))):=by
    unfold aF;split
    · rename_i q
      unfold JK;rw [MM.ofB_bit,decide_eq_true q,Bool.true_and]
    · rename_i q
      rw [Nat.zero_testBit,decide_eq_false q];simp
  rw [aB,Bool.eq_iff_iff];simp only [Bool.or_eq_true,Bool.and_eq_true,decide_eq_true_eq,List.any_eq_true,Function.comp];constructor
  · rintro (⟨he,h1,h2⟩ | ⟨s,hs,h⟩)
    · obtain ⟨s,rfl,s1,s2⟩:=fk.up_of h1;refine ⟨he,?_⟩;unfold upF JL;have h2:d.th.getD e 0=s:=h2;rw [P0,h2,decide_eq_true (by omega),if_neg (λ q=>absurd (show sU=sD from congrArg Prod.fst q) (by decide +kernel)),if_pos rfl];rfl
    · obtain ⟨s1,hb⟩:=(MM.nOf_mem _ _).mp hs;rw [liftB s s1,Bool.and_eq_true,decide_eq_true_eq] at hb;rw [cdB s e s1 hb.1] at h;simp only [Bool.and_eq_true,decide_eq_true_eq,Bool.not_eq_true',decide_eq_false_iff_not] at h;obtain ⟨he,hd,ht⟩:=h;refine ⟨he,?_⟩;unfold upF JL;rw [ht,decide_eq_true (by omega),if_neg hd,Bool.true_and];split
      · rfl
      · exact hb.2
  · rintro ⟨he,h⟩;unfold upF JL at h;rw [Bool.and_eq_true,decide_eq_true_eq] at h;obtain ⟨h0,h⟩:=h;have hle:=Vg ok fk he;split at h
    · cases h
    · rename_i hd
      split at h
      · rename_i hu
        obtain ⟨s,rfl,_,_⟩:=fk.up_of (show f.1=sU by rw [hu]);rw [P0] at hu;injection hu with _ hu;injection hu with hu;exact .inl ⟨he,rfl,hu.symm⟩
      · refine .inr ⟨thF d f e,(MM.nOf_mem _ _).mpr ⟨h0,?_⟩,?_⟩
        · rw [liftB _ h0,decide_eq_true hle,Bool.true_and];exact h
        · rw [cdB _ e h0 hle,decide_eq_true he,decide_eq_false hd,decide_eq_true rfl];rfl
def DW (K:PySem.W.Frag) (c:Cs):Sp:=λ vs H Q _=>∃ x d f,∃ (a:Addr) (p:Nat),vs=[.ref x, .ref a]/\GearAt c.Gear H x d f/\DrOk d/\FKn d f/\p<d.td.length/\SqT K H a ((d.td.getD p []).map nV)/\∀ H',Same H H'->Q (nV (Jw d f p)) H'
noncomputable abbrev CG:Stmt:=Aq (top 54) 1
theorem GP:FnScope ["self","treadles"] ["self","treadles"] (Af CG):=⟨rfl,rfl,rfl,by decide +kernel,rfl,by decide +kernel,by decide +kernel⟩
theorem GT {f:Addr} {fd:FuncData} (F:Fun K "row_of" "Gear.row_of" CG f fd) (T:Txt K mg c) (c_row_by:Aw P w K mg base "row_by" 4 ["carried","lift"] (IM K)) (c_lift_by:Aw P w K mg base "lift_by" 2 ["ties","treadles"] (GU K)):FnOk P w K mg base CX0 5 f fd ["self","treadles"] (DW K c):=by
  refine F.ok GP (λ vs H Q E h=> ?_) (λ cdv A outer s H vs Q E hr h=> ?_)
  · obtain ⟨x,d,f,a,p,rfl,_⟩:=h;rfl
  · obtain ⟨x,d,f,a,p,rfl,⟨dx,t1,t2,gx,g1,g2⟩,ok,fk,hp,ha,k⟩:=h;have hR:=ok.pr _ (AA (y:=[]) hp);have il:=ok.il;have t2':=ok.t2;have sh2:=ok.s2;refine ⟨_,(Ah (An (Ak Oh (AV (K:=K) (pv 0) rfl) (Ag c_row_by hr (Aa (AV (K:=K) (pv 0) rfl) (Aa (Ag c_lift_by (hr.mono (by decide)) (Aa (AV (K:=K) (pv 0) rfl) (Aa (pv 1) Ab))) Ab)))))),?_⟩;walk_at "w";refine ⟨_,_,_,_,_,rfl,gx,T.kd_Gear.cl,T.na_Gear_always_up,rfl,?_⟩;walk_at "w";refine ⟨_,_,_,_,_,rfl,gx,T.kd_Gear.cl,T.na_Gear_carried,rfl,?_⟩;walk_at "w";refine ⟨_,_,_,_,_,rfl,gx,T.kd_Gear.cl,T.na_Gear_tied,rfl,?_⟩;walk_at "w";refine ⟨t1,a,true,_,_,rfl,SqL.of g1,ha,by have:=hR.len;omega,λ n hn=>⟨(hR.le n hn).1,by have:=(hR.le n hn).2;simp;omega⟩,λ H1 s1=> ?_⟩;walk_at "w";refine ⟨t2,_,_,rfl,SqL.of (s1 _ _ g2),?_,by simp;omega,λ H2 s2=> ?_⟩
    · rw [List.length_map,List.length_range];refine Nat.lt_pow_two_of_testBit _ λ i hi=> ?_;rw [MM.uOf_bit,List.any_map,List.any_eq_false];intro t ht;obtain ⟨u1,u2⟩:=hR.le t ht;show ¬ (((List.range d.ti.length).map (tmF d f)).getD (t - 1) 0).testBit i=true;rw [Fv (by omega)];unfold tmF;rw [MM.ofB_bit,decide_eq_false (by omega)];simp
    · walk_at "w";rw [bO,MT ok fk hp];exact k H2 (s1.trans s2)
def FN (d:Dr) (f:Ft):Prop:=FK d f\/f=(("none":Str),([]:List Nat))
theorem FN.up_of {d:Dr} {f:Ft} (h:FN d f) (z:f.1=sU):∃ s,f=(sU,[s])/\1<=s/\s<=d.sh:=by
  rcases h with h | rfl
  · exact h.up_of z
  · exact absurd z (by decide +kernel)
theorem FN.down_of {d:Dr} {f:Ft} (h:FN d f) (z:f.1=sD):∃ s,f=(sD,[s])/\1<=s/\s<=d.sh:=by
  rcases h with h | rfl
  · exact h.down_of z
  · exact absurd z (by decide +kernel)
theorem FN.drawn_of {d:Dr} {f:Ft} (h:FN d f) (z:f.1=sW):∃ e s,f=(sW,[e,s])/\1<=e/\e<=d.th.length/\s<=d.sh:=by
  rcases h with h | rfl
  · exact h.drawn_of z
  · exact absurd z (by decide +kernel)
theorem FN.len {d:Dr} {f:Ft} (h:FN d f):f.2.length<=10:=by
  rcases h with h | rfl
  · cases h <;> simp
  · simp
theorem Jl (s:Nat):(1:Int)*2 ^ ((s:Nat):Int).toNat=((2 ^ s:Nat):Int):=by
  rw [Int.one_mul,Int.toNat_natCast];simp
theorem PP (m s:Nat):((m:Nat):Int) / 2 ^ ((s:Nat):Int).toNat=((m >>> s:Nat):Int):=by
  rw [Int.toNat_natCast,Nat.shiftRight_eq_div_pow];push_cast;rfl
def Ev (K:PySem.W.Frag):Sp:=λ vs H Q _=>∃ (a:Addr) (ns:List Int),vs=[.ref a]/\SqL K H a (ns.map V.int)/\ns.length<=63/\∀ H' W,Same H H'->Q (.int W) H'
noncomputable abbrev Do:Stmt:=top 70
theorem Ij:FnScope ["_law_script"] ["_law_script"] (Af Do):=⟨rfl,rfl,rfl,by decide +kernel,rfl,by decide +kernel,by decide +kernel⟩
theorem HG {f:Addr} {fd:FuncData} (F:Fun K "_law_whole" "_law_whole" Do f fd) (T:Txt K mg c):FnOk P w K mg base CX0 1 f fd ["_law_script"] (Ev K):=by
  refine F.ok Ij (λ vs H Q E h=> ?_) (λ cdv A outer s H vs Q E hr h=> ?_)
  · obtain ⟨a,ns,rfl,_⟩:=h;rfl
  · obtain ⟨a,ns,rfl,sa,hn,k⟩:=h;refine ⟨_,(Ah (An (Al (Qh (K:=K)) rfl (T.own _ (by decide)) boot_sum (Aa (Fw (K:=K) (Gu (K:=K) rfl (T.own _ (by decide)) (Aa (pv 0) Ab)) (λ _ _ _ _=>Ax) (λ _ _ _ _=>(Ak FI (Ak A8 (pv 1) Ae) (Ak AG (pv 0) Ae)))) Ab)))),?_⟩;walk_at "w";refine ⟨a,rfl,⟨_,sa⟩,λ D0 hD0=> ?_⟩;refine BI (G:=λ i=>ns.getD i 0%1000000007*((i:Int)+1)) (Kw sa rfl rfl) hD0 (by rw [List.length_map];omega) ?_ ?_
    · intro i H' R hi s kk;have b1:=Int.emod_nonneg (ns.getD i 0) (show (1000000007:Int)≠0 by decide);have b2:=Int.emod_lt_of_pos (ns.getD i 0) (show (0:Int)<1000000007 by decide);rw [BP hi];walk_at "w";refine AH (by decide) ?_;walk_at "w";refine AH (.inl ⟨by omega,by omega⟩) ?_;exact kk H' (Same.refl _)
    intro H1 s1 hl1;walk_at "w";refine M5 (SqL.of hl1) ?_;exact k _ _ s1
def YV:V->Option Int->Option Int->Hp->VK->Prop:=λ x lo hi H Q=>∃ a xs,x= .ref a/\H a=some (.tup xs)/\∀ H' p,Same H H'->H' p=some (.tup (Dd xs lo hi))->Q (.ref p) H'
theorem Qk {X:Cx}:SlR X YV:=by
  intro pins s σ H x v vl vu lo hi sl Q I rx hs pl pu h;obtain ⟨a,xs,rfl,hx,q⟩:=h;by_cases hw:HT.sIx xs.length 0 lo=0/\HT.sIx xs.length xs.length hi=xs.length
  · cases rx;obtain ⟨its,r,ht,hz⟩:=I.tuple (SqT.of hx);have hlen:its.toArray.size=xs.length:=by rw [List.size_toArray];exact r.length.symm
    refine ⟨"tuple",_,PyProof.Rows.slot_tuple_getitem.lookup,ht.typeIs,?_⟩;refine HT.getItem_tuple_whole ht hs pl pu (by rw [hlen];exact hw.1) (by rw [hlen];exact hw.2) ?_;have e:Dd xs lo hi=xs:=by
      unfold Dd;rw [hw.1,hw.2,List.drop_zero,Nat.sub_zero,List.take_of_length_le (Nat.le_refl _)]
    exact ⟨.ref a,H,I,rfl,q H a (Same.refl _) (by rw [e];exact hx)⟩
  · exact Ny pins s σ H _ v vl vu lo hi sl Q I rx hs pl pu ⟨a,xs,rfl,SqT.of hx,hw,λ p hp=>q _ p (Ai hp) Ac⟩
theorem Ln {d:Dr} {f:Ft} {t s:Nat}:FL d f t s=if f.2=[t,s]/\(f.1=sL\/f.1=sT) then decide (f.1=sT) else decide (s∈d.ti.getD (t - 1) []):=by
  unfold FL;obtain ⟨z,ns⟩:=f;by_cases h1:((z,ns):Ft)=(sL,[t,s])
  · cases h1;rw [if_pos rfl,if_pos ⟨rfl, .inl rfl⟩];exact (decide_eq_false (show ¬ sL=sT by decide +kernel)).symm
  · rw [if_neg h1];by_cases h2:((z,ns):Ft)=(sT,[t,s])
    · cases h2;rw [if_pos rfl,if_pos ⟨rfl, .inr rfl⟩];exact (decide_eq_true rfl).symm
    · rw [if_neg h2,if_neg];rintro ⟨q1,q2 | q2⟩
      · exact h1 (by rw [show ns=[t,s] from q1,show z=sL from q2])
      · exact h2 (by rw [show ns=[t,s] from q1,show z=sT from q2])
theorem Og (n s i:Nat):(n ||| 2 ^ s).testBit i=(n.testBit i||decide (s=i)):=by
  rw [Nat.testBit_or,Nat.testBit_two_pow]
theorem ND {g:Nat->Bool} {xs:List Nat} {i:Nat} (h:i<xs.length):(xs.take (i+1)).any g=((xs.take i).any g||g (xs.getD i 0)):=by
  rw [List.take_succ,List.any_append,List.getElem?_eq_getElem h,List.getD_eq_getElem?_getD,List.getElem?_eq_getElem h];simp
def DN:Sp:=λ vs H Q _=>∃ v d a f p,vs=[v, .ref a,nV p]/\Rp H FT 3 v (dDr d)/\DrOk d/\H a=some (.tup (fV f))/\FN d f/\p<d.td.length/\∀ H' F,Same H H'->(∀ s,1<=s->s<=d.sh->F.testBit s=JL d f p s)->Q (nV F) H'
noncomputable abbrev CD:Stmt:=top 72
theorem sc__law_lifted:FnScope ["_law_told","_law_fault","_law_pick","_law_found","_law_treadle","_law_shaft","_law_is_tied"] ["_law_told","_law_fault","_law_pick"] (Af CD):=⟨rfl,rfl,rfl,by decide +kernel,rfl,by decide +kernel,by decide +kernel⟩
theorem GE {f:Addr} {fd:FuncData} (F:Fun K "_law_lifted" "_law_lifted" CD f fd) (T:Txt K mg c):FnOk P w K mg base CX0 1 f fd ["_law_told","_law_fault","_law_pick"] DN:=by
  refine F.ok sc__law_lifted (λ vs H Q E h=> ?_) (λ cdv A outer s H vs Q E hr h=> ?_)
  · obtain ⟨v,d,a,f,p,rfl,_⟩:=h;rfl
  · obtain ⟨v,d,fa,f,p,rfl,rv,ok,hf,fn,hp,k⟩:=h;obtain ⟨m,a,v0,v1,v2,v3,v4,v5,v6,em,rfl,ha,q0,q1,q2,q3,q4,q5,q6⟩:=Gy rv;cases em;cases q0;cases q1;have s1:=ok.s1;have s2:=ok.s2;have t2:=ok.t2;have il:=ok.il;obtain ⟨m4,a4,vs4,em4,rfl,ha4,hf4,hl4,hb4,el4⟩:=BG q4;cases em4;rw [List.length_map] at hl4;have r1:=el4 p (by simpa using hp);rw [AM dL d.td p .non [] hp] at r1;obtain ⟨b,eb,hb,_,_⟩:=CO r1;obtain ⟨m3,a3,vs3,em3,rfl,ha3,hf3,hl3,hb3,el3⟩:=BG q3;cases em3;rw [List.length_map] at hl3;have ti:∀ j,j<d.ti.length->∃ b,vs3.getD j .non= .ref b/\H b=some (.lst ((d.ti.getD j []).map nV)):=λ j hj=>by
      have r1:=el3 j (by simpa using hj);rw [AM dL d.ti j .non [] hj] at r1;obtain ⟨b,eb,hb,_,_⟩:=CO r1;exact ⟨b,eb,hb⟩
    have tdr:=(ok.pr _ (AA (y:=[]) hp)).le;refine ⟨_,(Ad (Ao (i:=3) sc__law_lifted.nd rfl (Or.inl rfl) Ae)
      (Ad (BW PassesOwn.never rfl (BC (K:=K) (At (Cl (K:=K)) (At (AE (K:=K)) (pv 0) Ae (λ _ _=>rfl)) (pv 2) (λ _ _=>rfl))) (AO (i:=4) sc__law_lifted.nd rfl (Or.inl rfl)) (Ah (BW PassesOwn.never rfl (CN rfl (T.own _ (by decide)) (Aa Ae (Aa (Ak AG (At (AE (K:=K)) (pv 0) Ae (λ _ _=>rfl)) Ae) Ab))) (AO (i:=5) sc__law_lifted.nd rfl (Or.inl rfl)) (Ad (Ao (i:=6) sc__law_lifted.nd rfl (Or.inl rfl) (BN (Pz (K:=K)) (pv 5) (At (Cl (K:=K)) (At (AE (K:=K)) (pv 0) Ae (λ _ _=>rfl)) (Ak Ce (pv 4) Ae) (λ _ _=>rfl)) (by with_unfolding_all rfl)))
      (Ad (A7 (PW.pt (JH (As (KJ hr.units) (CV Qk (pv 1) (Ei Ae) Eo) (AB (Aa (pv 4) (Aa (pv 5) Ab))) (Ay _)) (Jz (As (Pz (K:=K)) (At (AE (K:=K)) (pv 1) Ae (λ _ _=>rfl)) (AB (Aa Ap (Aa Ap Ab))) (by with_unfolding_all rfl))))) (Ah (Ao (i:=6) sc__law_lifted.nd rfl (Or.inl rfl) (BN B0 (At (AE (K:=K)) (pv 1) Ae (λ _ _=>rfl)) Ap (Ay _)))) Az)
      (Ah (A7 (Bs (pv 6)) (Ah (Ao (i:=3) sc__law_lifted.nd rfl (Or.inl rfl) (Ak Oh (pv 3) (Ak DJ Ae (pv 5))))) Az)))))))
      (Ad (A7 (As B0 (At (AE (K:=K)) (pv 1) Ae (λ _ _=>rfl)) Ap (Ay _)) (Ah (Ao (i:=3) sc__law_lifted.nd rfl (Or.inl rfl) (Ak Oh (pv 3) (Ak DJ Ae (At (AE (K:=K)) (pv 1) Ae (λ _ _=>rfl)))))) Az)
      (Ad (A7 (As B0 (At (AE (K:=K)) (pv 1) Ae (λ _ _=>rfl)) Ap (Ay _)) (Ah (Ao (i:=3) sc__law_lifted.nd rfl (Or.inl rfl) (Ak Ju (pv 3) (XW RY (Ak DJ Ae (At (AE (K:=K)) (pv 1) Ae (λ _ _=>rfl))))))) Az)
      (Ah (An (pv 3))))))),?_⟩
    walk_at "w";refine Ar (SqT.of ha) (Am (j:=4) rfl) ?_;walk_at "w";refine Bk (SqL.of ha4) (Fd (j:=p) (by omega) (by omega)) ?_;rw [eb];walk_at "w";have ltd:(d.td.getD p []).length<=16:=Nat.le_trans (Hd (ok.pr _ (AA (y:=[]) hp))) t2;refine ⟨b,rfl,⟨_,SqL.of hb⟩,Cq (Je (SqL.of hb)) (λ i σ H3=>∃ (F:Nat) (u1 u2 u3:Option V),σ=[some (.ref a),some (.ref fa),some (nV p),some (nV F),u1,u2,u3]/\Same H H3/\∀ s,1<=s->s<=d.sh->F.testBit s=((d.td.getD p []).take i).any λ t=>FL d f t s) ⟨0,_,_,_,rfl,Same.refl _,λ s _ _=>by simp⟩ (λ i σ H3 ⟨_,_,_,_,_,s,_⟩=>s) ?_ ?_⟩
    · rintro i σ H3 H4 hi ⟨F,u1,u2,u3,rfl,s3,hF⟩ s34;have s04:=s3.trans s34;rw [Bb hi];rw [List.length_map] at hi;generalize et:(d.td.getD p []).getD i 0=t;have htd:=tdr t (by rw [<-et];exact AA hi);obtain ⟨c,ec,hc⟩:=ti (t - 1) (by omega);walk_at "w";refine Ar (SqT.of (s04 _ _ ha)) (Am (j:=0) rfl) ?_;walk_at "w";refine ⟨_,_,rfl,⟨by omega,by omega,by omega,by omega⟩,?_⟩;rw [show (((d.sh:Nat):Int)+1 - 1).toNat=d.sh by omega];refine Cq (J1 (lo:=1) (n:=d.sh)) (λ j σ H5=>∃ (G:Nat) (u2 u3:Option V),σ=[some (.ref a),some (.ref fa),some (nV p),some (nV G),some (nV t),u2,u3]/\Same H4 H5/\∀ s,1<=s->s<=d.sh->G.testBit s=(F.testBit s||(decide (s<=j)&&FL d f t s))) ⟨F,_,_,rfl,Same.refl _,λ s h _=>by rw [decide_eq_false (by omega)];simp⟩ (λ i σ H5 ⟨_,_,_,_,s,_⟩=>s) ?_ ?_
      · rintro j σ H5 H6 hj ⟨G,u2,u3,rfl,s5,hG⟩ s56;have s06:=s04.trans (s5.trans s56);rw [show ((1:Int)+(j:Nat))=((j+1:Nat):Int) by omega];walk_at "v";refine Ar (SqT.of (s06 _ _ ha)) (Am (j:=3) rfl) ?_;walk_at "v";refine Bk (SqL.of (s06 _ _ ha3)) (Fd (j:=t - 1) (by omega) (by omega)) ?_;rw [ec];walk_at "v";refine MP (s:=j+1) (tp:=false) (SqL.of (s06 _ _ hc)) ?_;walk_at "v";refine ifJ (λ σ H7=>σ=[some (.ref a),some (.ref fa),some (nV p),some (nV G),some (nV t),some (nV (j+1)),some (.bl (FL d f t (j+1)))]/\Same H6 H7) ?_ ?_
        · rintro σ H7 ⟨rfl,s67⟩;walk_at "w";refine JZ (λ ht=> ?_) (λ ht=> ?_)
          · walk_at "w";refine AH ⟨by omega,by omega,by decide⟩ ?_;walk_at "w";rw [Jl,bO];refine ⟨G ||| 2 ^ (j+1),_,_,rfl,s5.trans (s56.trans s67),λ s h1 h2=> ?_⟩;rw [Og,hG s h1 h2];by_cases z:j+1=s
            · rw [decide_eq_true z,Bool.or_true,decide_eq_true (show s<=j+1 by omega), <-z,ht];simp
            · rw [decide_eq_false z,Bool.or_false,show decide (s<=j+1)=decide (s<=j) by rw [decide_eq_decide];omega]
          · walk_at "w";refine ⟨G,_,_,rfl,s5.trans (s56.trans s67),λ s h1 h2=> ?_⟩;rw [hG s h1 h2];by_cases z:j+1=s
            · rw [<-z,ht,Bool.and_false,Bool.and_false]
            · rw [show decide (s<=j+1)=decide (s<=j) by rw [decide_eq_decide];omega]
        · intro key;walk_at "w";refine ⟨fa,_,rfl,s06 _ _ hf,λ H7 q7 s67 hq7=> ?_⟩;rw [GJ (by decide)] at hq7;have hq7:H7 q7=some (.tup (f.2.map nV)):=hq7;walk_at "w";intro q8 hq8;have s78:=Ai (o:=HO.tup [nV t,nV (j+1)]) hq8;have gq8:upd H7 q8 (HO.tup [nV t,nV (j+1)]) q8=some (.tup ([t,j+1].map nV)):=Ac;show Me false (V.ref q7) (V.ref q8) (upd H7 q8 (HO.tup [nV t,nV (j+1)])) _;generalize upd H7 q8 (HO.tup [nV t,nV (j+1)])=H8 at s78 gq8 ⊢;have s08:=s06.trans (s67.trans s78);refine ⟨1,dT f.2,dT [t,j+1],by decide,Mh (s78 _ _ hq7) (by have:=fn.len;omega),Mh gq8 (by simp),rfl,?_⟩;rw [R1];walk_at "w";have s68:=s67.trans s78;refine Dg (λ h1=> ?_) (λ h1=> ?_)
          · walk_at "w";refine Ar (SqT.of (s08 _ _ hf)) (J5 f) ?_;walk_at "w";intro q9 hq9;have s89:=Ai (o:=HO.tup [.str sL, .str sT]) hq9;have gq9:upd H8 q9 (HO.tup [.str sL, .str sT]) q9=_:=Ac;generalize upd H8 q9 (HO.tup [.str sL, .str sT])=H9 at s89 gq9 ⊢;walk_at "w";refine ⟨q9,_,rfl, .inr (SqT.of gq9),rfl,rfl,?_⟩;rw [if_neg (by decide),N7];walk_at "w";refine JZ (λ h2=> ?_) (λ h2=> ?_)
            · have h3:f.1=sL\/f.1=sT:=by
                rcases Bool.or_eq_true_iff.mp h2 with q | q
                · exact .inl (of_decide_eq_true q).symm
                · exact .inr (of_decide_eq_true q).symm
              walk_at "w";refine Ar (SqT.of (s89 _ _ (s08 _ _ hf))) (J5 f) ?_;walk_at "v";refine key _ _ ⟨?_,s68.trans s89⟩;rw [Ln,if_pos ⟨h1,h3⟩];rfl
            · walk_at "v";refine key _ _ ⟨?_,s68.trans s89⟩;rw [Bool.or_eq_false_iff] at h2;rw [Ln,if_neg (λ q=>q.2.elim (λ z=>absurd z.symm (of_decide_eq_false h2.1)) (λ z=>absurd z.symm (of_decide_eq_false h2.2)))];rfl
          · walk_at "v";refine key _ _ ⟨?_,s68⟩;rw [Ln,if_neg (λ q=>h1 q.1)];rfl
      · rintro σ H5 ⟨G,u2,u3,rfl,s5,hG⟩;walk_at "w";refine ⟨G,_,_,_,rfl,s04.trans s5,λ s h1 h2=> ?_⟩;rw [hG s h1 h2,hF s h1 h2,decide_eq_true h2,Bool.true_and,ND hi,et]
    · rintro σ H3 ⟨F,u1,u2,u3,rfl,s3,hF⟩;rw [List.length_map,List.take_length] at hF;walk_at "w";refine Ar (SqT.of (s3 _ _ hf)) (J5 f) ?_;walk_at "w";refine Dg (λ h1=> ?_) (λ h1=> ?_)
      · obtain ⟨u,rfl,u1,u2⟩:=fn.up_of h1;walk_at "w";refine Ar (SqT.of (s3 _ _ hf)) (show atI (fV (sU,[u])) 1=some (nV u) from rfl) ?_;walk_at "w";refine AH ⟨by omega,by omega,by decide⟩ ?_;walk_at "w";rw [Jl,bO];refine Ar (SqT.of (s3 _ _ hf)) (J5 _) ?_;walk_at "w";refine Dg (λ h2=>absurd (show sU=sD from h2) (by decide +kernel)) (λ _=> ?_);walk_at "w";refine k H3 _ s3 λ s h1 h2=> ?_;rw [Og,hF s h1 h2];unfold JL;rw [if_neg (λ q=>absurd (show sU=sD from congrArg Prod.fst q) (by decide +kernel))];by_cases z:u=s
        · rw [if_pos (by rw [z]),decide_eq_true z,Bool.or_true]
        · rw [if_neg (λ q=>z (by injection q with _ q;injection q)),decide_eq_false z,Bool.or_false]
      · walk_at "w";refine Ar (SqT.of (s3 _ _ hf)) (J5 _) ?_;walk_at "w";refine Dg (λ h2=> ?_) (λ h2=> ?_)
        · obtain ⟨u,rfl,u1,u2⟩:=fn.down_of h2;walk_at "w";refine Ar (SqT.of (s3 _ _ hf)) (show atI (fV (sD,[u])) 1=some (nV u) from rfl) ?_;walk_at "w";refine AH ⟨by omega,by omega,by decide⟩ ?_;walk_at "w";rw [Jl,Po];refine k H3 _ s3 λ s h1 h2=> ?_;rw [JQ,hF s h1 h2,Nat.testBit_two_pow];unfold JL;by_cases z:u=s
          · rw [if_pos (by rw [z]),decide_eq_true z];simp
          · rw [if_neg (λ q=>z (by injection q with _ q;injection q)),if_neg (λ q=>absurd (show sD=sU from congrArg Prod.fst q) (by decide +kernel)),decide_eq_false z];simp
        · walk_at "w";refine k H3 _ s3 λ s h3 h4=> ?_;rw [hF s h3 h4];unfold JL;rw [if_neg (λ q=>h2 (by rw [q])),if_neg (λ q=>h1 (by rw [q]))]
theorem K4 (f g:Ft):eqD (dF f) (dF g)=decide (f=g):=by
  have e:eqD (dF f) (dF g)=(decide (f.1=g.1)&&Ca (f.2.map dN) (g.2.map dN)):=rfl;rw [e,Jn, <-Bool.decide_and,decide_eq_decide];exact ⟨λ h=>Prod.ext h.1 h.2,λ h=>by rw [h];exact ⟨rfl,rfl⟩⟩
noncomputable def drF (d:Dr) (f:Ft) (e:Nat):Nat:=if f.1=sW/\f.2.getD 0 0=e+1 then f.2.getD 1 0 else d.th.getD e 0
theorem RL {d:Dr} {f:Ft} (ok:DrOk d) (fn:FN d f) {e:Nat} (h:e<d.th.length):drF d f e<=d.sh:=by
  unfold drF;split
  · rename_i z
    obtain ⟨x,s,rfl,_,_,hs⟩:=fn.drawn_of z.1;exact hs
  · exact ok.hs _ (AA h)
theorem Yn {d:Dr} {f:Ft} {F p e:Nat} (hF:∀ s,1<=s->s<=d.sh->F.testBit s=JL d f p s) (h:drF d f e<=d.sh):upF d f p e=(F.testBit (drF d f e)&&(decide (0<drF d f e)&& !decide (f=(sB,[e+1])))):=by
  have e1:thF d f e=if f=(sB,[e+1]) then 0 else drF d f e:=rfl
  unfold upF;rw [e1];by_cases z:f=(sB,[e+1])
  · rw [if_pos z,decide_eq_true z];simp
  · rw [if_neg z,decide_eq_false z];by_cases y:0<drF d f e
    · rw [decide_eq_true y,hF _ y h];simp
    · rw [decide_eq_false y];simp
theorem Rz (f:Ft):(fV f).take 2=fV (f.1,f.2.take 1):=by
  unfold fV;show V.str f.1::(f.2.map nV).take 1=_;rw [List.map_take]
theorem NT {f:Ft} {e:Nat}:((f.1,f.2.take 1):Ft)=(sW,[e+1])↔f.1=sW/\f.2.getD 0 0=e+1:=by
  obtain ⟨z,ns⟩:=f;cases ns with
  | nil => constructor
           · intro h;injection h with _ h;cases h
           · rintro ⟨_,h⟩;cases h
  | cons n ns => constructor
                 · intro h;injection h with h1 h;injection h with h;exact ⟨h1,h⟩
                 · rintro ⟨h1,h⟩;have h:n=e+1:=h;have h1:z=sW:=h1;rw [h,h1];rfl
def Ga:Sp:=λ vs H Q _=>∃ v d a f p,vs=[v, .ref a,nV p]/\Rp H FT 3 v (dDr d)/\DrOk d/\H a=some (.tup (fV f))/\FN d f/\p<d.td.length/\∀ H',Same H H'->Q (nV (Jw d f p)) H'
noncomputable abbrev EY:Stmt:=top 73
theorem sc__law_row:FnScope ["_law_told","_law_fault","_law_pick","_law_lifted_here","_law_row_here","_law_end","_law_shaft"] ["_law_told","_law_fault","_law_pick"] (Af EY):=⟨rfl,rfl,rfl,by decide +kernel,rfl,by decide +kernel,by decide +kernel⟩
theorem Km {f:Addr} {fd:FuncData} (F:Fun K "_law_row" "_law_row" EY f fd) (T:Txt K mg c) (c__law_lifted:Aw P w K mg base "_law_lifted" 1 ["_law_told","_law_fault","_law_pick"] DN):FnOk P w K mg base CX0 2 f fd ["_law_told","_law_fault","_law_pick"] Ga:=by
  refine F.ok sc__law_row (λ vs H Q E h=> ?_) (λ cdv A outer s H vs Q E hr h=> ?_)
  · obtain ⟨v,d,a,f,p,rfl,_⟩:=h;rfl
  · obtain ⟨v,d,fa,f,p,rfl,rv,ok,hf,fn,hp,k⟩:=h;obtain ⟨m,a,v0,v1,v2,v3,v4,v5,v6,em,rfl,ha,q0,q1,q2,q3,q4,q5,q6⟩:=Gy rv;cases em;obtain ⟨b2,rfl,e2,_,_⟩:=CO q2;have h2:=ok.h2;refine ⟨_,(Ad (Ao (i:=3) sc__law_row.nd rfl (Or.inl rfl) (Ag c__law_lifted hr (Aa (pv 0) (Aa (pv 1) (Aa (pv 2) Ab)))))
      (Ad (Ao (i:=4) sc__law_row.nd rfl (Or.inl rfl) Ae)
      (Ad (BW PassesOwn.never rfl (Gu (K:=K) rfl (T.own _ (by decide)) (Aa (At (AE (K:=K)) (pv 0) Ae (λ _ _=>rfl)) Ab)) (GG (K:=K) rfl (A2 (AO (i:=5) sc__law_row.nd rfl (Or.inl rfl)) (A2 (AO (i:=6) sc__law_row.nd rfl (Or.inl rfl)) En))) (Ad (A7 (As (KJ hr.units) (CV Qk (pv 1) Eo (Ei Ae)) (AB (Aa Ap (Aa (Ak AG (pv 5) Ae) Ab))) (Ay _)) (Ah (Ao (i:=6) sc__law_row.nd rfl (Or.inl rfl) (At (AE (K:=K)) (pv 1) Ae (λ _ _=>rfl)))) Az)
      (Ah (A7 (PW.pt (JH (As B0 (Ak Ju (Ak Nu (pv 3) (pv 6)) Ae) Ae (Ay _)) (JH (As Tc (pv 6) Ae (Ay _)) (Jz (As (Lk hr.units) (pv 1) (AB (Aa Ap (Aa (Ak AG (pv 5) Ae) Ab))) (Ay _)))))) (Ah (Ao (i:=4) sc__law_row.nd rfl (Or.inl rfl) (Ak AG (pv 4) (Ak DJ Ae (pv 5))))) Az))))
      (Ah (An (pv 4)))))),?_⟩
    walk_at "w";refine ⟨_,d,fa,f,p,rfl,rv,ok,hf,fn,hp,λ H1 F s1 hF=> ?_⟩;walk_at "w";refine Ar (SqT.of (s1 _ _ ha)) (Am (j:=2) rfl) ?_;walk_at "w";have g2:=s1 _ _ e2;refine ⟨b2,rfl,⟨_,SqL.of g2⟩,Cq (LO (SqL.of g2)) (λ i σ H3=>∃ (u1 u2:Option V),σ=[some (.ref a),some (.ref fa),some (nV p),some (nV F),some (nV (MM.ofB (upF d f p) i)),u1,u2]/\Same H1 H3) ⟨_,_,rfl,Same.refl _⟩ (λ i σ H3 ⟨_,_,_,s⟩=>s) ?_ ?_⟩
    · rintro e σ H3 H4 he ⟨u1,u2,rfl,s3⟩ s34;have s14:=s3.trans s34;have s04:=s1.trans s14;rw [Bb he];rw [List.length_map] at he;have hle:=RL ok fn he;have hup:=Yn (e:=e) hF hle;walk_at "v";refine ifJ (λ σ H7=>σ=[some (.ref a),some (.ref fa),some (nV p),some (nV F),some (nV (MM.ofB (upF d f p) e)),some (nV e),some (nV (drF d f e))]/\Same H4 H7) ?_ ?_
      · rintro σ H7 ⟨rfl,s47⟩;have s17:=s14.trans s47;have f7:=s47 _ _ (s04 _ _ hf);generalize drF d f e=s at hle hup ⊢;have no:upF d f p e=false->∀ H8,Same H7 H8->∃ (u1 u2:Option V),([some (.ref a),some (.ref fa),some (nV p),some (nV F),some (nV (MM.ofB (upF d f p) e)),some (nV e),some (nV s)]:L2.St)=[some (.ref a),some (.ref fa),some (nV p),some (nV F),some (nV (MM.ofB (upF d f p) (e+1))),u1,u2]/\Same H1 H8:=λ h H8 s8=>⟨_,_,by rw [UH h],s17.trans s8⟩;walk_at "w";refine AH (by show (0:Int)<=_;omega) ?_;rw [PP];walk_at "w";rw [show (1:Int)=((1:Nat):Int) from rfl,bA,Nat.and_one_is_mod,Nat.shiftRight_eq_div_pow,MM.bit_div];have e2:decide (((F.testBit s).toNat:Int)=((1:Nat):Int))=F.testBit s:=by
          cases F.testBit s <;> rfl
        rw [e2];walk_at "w";refine JZ (λ z1=> ?_) (λ z1=> ?_)
        · walk_at "w";refine Dg (λ z2=> ?_) (λ z2=> ?_)
          · have z2:0<s:=by omega
            walk_at "w";intro q8 hq8;have s78:=Ai (o:=HO.tup (fV (sB,[e+1]))) hq8;have gq8:upd H7 q8 (HO.tup (fV (sB,[e+1]))) q8=_:=Ac;show Me true (V.ref fa) (V.ref q8) (upd H7 q8 (HO.tup (fV (sB,[e+1])))) _;generalize upd H7 q8 (HO.tup (fV (sB,[e+1])))=H8 at s78 gq8 ⊢;refine ⟨1,dF f,dF (sB,[e+1]),by decide,FY (s78 _ _ f7) fn.len,FY gq8 (by simp),rfl,?_⟩;rw [if_pos rfl,K4];walk_at "w";refine YW (λ z3=> ?_) (λ z3=> ?_)
            · walk_at "w";refine AH ⟨by omega,by omega,by decide⟩ ?_;walk_at "w";have up:upF d f p e=true:=by rw [hup,z1,decide_eq_true z2,decide_eq_false z3];rfl
              rw [show ((1:Nat):Int)*2 ^ ((e:Nat):Int).toNat=((2 ^ e:Nat):Int) from Jl e];refine ⟨some (nV e),some (nV s),?_,s17.trans s78⟩;rw [WR up];rfl
            · walk_at "w";exact no (by rw [hup,decide_eq_true z3];simp) _ s78
          · walk_at "w";exact no (by rw [hup,decide_eq_false (show ¬ 0<s by omega)];simp) _ (Same.refl _)
        · walk_at "w";exact no (by rw [hup,z1];simp) _ (Same.refl _)
      · intro key;walk_at "w";refine ⟨fa,_,rfl,s04 _ _ hf,λ H7 q7 s47 hq7=> ?_⟩;rw [KR (by decide),show (2:Int).toNat=2 from rfl,Rz] at hq7;walk_at "w";intro q8 hq8;have s78:=Ai (o:=HO.tup (fV (sW,[e+1]))) hq8;have gq8:upd H7 q8 (HO.tup (fV (sW,[e+1]))) q8=_:=Ac;show Me false (V.ref q7) (V.ref q8) (upd H7 q8 (HO.tup (fV (sW,[e+1])))) _;generalize upd H7 q8 (HO.tup (fV (sW,[e+1])))=H8 at s78 gq8 ⊢;have s48:=s47.trans s78;refine ⟨1,dF (f.1,f.2.take 1),dF (sW,[e+1]),by decide,FY (s78 _ _ hq7) (by simp;omega),FY gq8 (by simp),rfl,?_⟩;rw [if_neg (by decide),K4];walk_at "w";refine Dg (λ h1=> ?_) (λ h1=> ?_)
        · rw [NT] at h1;obtain ⟨x,s,rfl,_,_,hs⟩:=fn.drawn_of h1.1;walk_at "v";refine Ar (SqT.of (s48 _ _ (s04 _ _ hf))) (show atI (fV (sW,[x,s])) 2=some (nV s) from rfl) ?_;walk_at "v";refine key _ _ ⟨?_,s48⟩;unfold drF;rw [if_pos h1];rfl
        · rw [NT] at h1;walk_at "v";refine key _ _ ⟨?_,s48⟩;unfold drF;rw [if_neg h1];rfl
    · rintro σ H3 ⟨u1,u2,rfl,s3⟩;rw [List.length_map];walk_at "w";exact k H3 (s1.trans s3)
def LmAt (c:Cs) (H:Hp) (x:Addr) (d:Dr) (f:Ft) (l:Addr):Prop:=∃ dx g v,bar l H x=some (.ins c.Loom dx [("gear", .ref g),("width",nV d.th.length),("treading",v),("done", .ref l)])/\GearAt c.Gear (bar l H) g d f/\Rp (bar l H) FT 2 v (dTT d.td)
theorem GO {H H':Hp} {l:Addr} (s:Same H H'):Same (bar l H) (bar l H'):=λ b o e=>by
  unfold bar at e ⊢;split at e
  · cases e
  · rename_i n
    rw [if_neg n];exact s b o e
theorem LmAt.same {c:Cs} {H H':Hp} {x:Addr} {d:Dr} {f:Ft} {l:Addr} (h:LmAt c H x d f l) (s:Same H H'):LmAt c H' x d f l:=
  let ⟨dx,g,v,a,b,e⟩:=h;⟨dx,g,v,GO s _ _ a,b.same (GO s),e.same (GO s)⟩
theorem LmAt.out {c:Cs} {H:Hp} {x:Addr} {d:Dr} {f:Ft} {l:Addr} (h:LmAt c H x d f l):∃ dx g v,H x=some (.ins c.Loom dx [("gear", .ref g),("width",nV d.th.length),("treading",v),("done", .ref l)])/\GearAt c.Gear H g d f/\Rp H FT 2 v (dTT d.td):=
  let ⟨dx,g,v,a,b,e⟩:=h;⟨dx,g,v,BQ _ _ a,b.same BQ,e.same BQ⟩
theorem LmAt.wr {c:Cs} {H:Hp} {x:Addr} {d:Dr} {f:Ft} {l:Addr} {o:HO} (h:LmAt c H x d f l):LmAt c (upd H l o) x d f l:=by
  have e:bar l (upd H l o)=bar l H:=by
    funext b;unfold bar;by_cases z:b=l
    · rw [if_pos z,if_pos z]
    · rw [if_neg z,if_neg z,Aj z]
  obtain ⟨dx,g,v,a,b,r⟩:=h;exact ⟨dx,g,v,e▸a,e▸b,e▸r⟩
theorem LmAt.other {c:Cs} {H H':Hp} {x:Addr} {d:Dr} {f:Ft} {l:Addr} (h:LmAt c H x d f l) (s:Same (bar l H) (bar l H')):LmAt c H' x d f l:=
  let ⟨dx,g,v,a,b,e⟩:=h;⟨dx,g,v,s _ _ a,b.same s,e.same s⟩
theorem GearAt.ins {C C':Addr} {H:Hp} {x g:Addr} {d:Dr} {f:Ft} {dx:Addr} {fs:List (Str × V)} {o:HO} (h:GearAt C H g d f) (hx:H x=some (.ins C' dx fs)) (ne:g≠x):GearAt C (upd H x o) g d f:=by
  obtain ⟨dg,t1,t2,a,b,e⟩:=h;exact ⟨dg,t1,t2,(Aj ne).trans a,(Aj (Ee b hx (by intro z;cases z))).trans b,(Aj (Ee e hx (by intro z;cases z))).trans e⟩
def FvQ (K:PySem.W.Frag) (d:Dr) (H:Hp) (v:V) (f:Ft):Prop:=FvA d H v f/\(v= .non\/IsF K H d v true)
def A9 (K:PySem.W.Frag) (c:Cs):Sp:=λ vs H Q E=>∃ (x dx y:Addr) (v:V) (d:Dr),vs=[.ref x, .ref y,v]/\H x=some (.ins c.Loom dx [])/\DrAt c.Draft H y d/\DrOk d/\
  ((∃ f,FvQ K d H v f/\∀ H' l,(∀ b o,H b=some o->b≠x->H' b=some o)->H l=none->H' l=some (.lst [])->LmAt c H' x d f l->Q .non H')\/(v≠ .non/\IsF K H d v false/\∀ H',Same H H'->E (.ref c.BadDraft) none H'))
noncomputable abbrev AD:Stmt:=Aq (top 61) 0
theorem FX:FnScope ["self","draft","fault","told"] ["self","draft","fault"] (Af AD):=⟨rfl,rfl,rfl,by decide +kernel,rfl,by decide +kernel,by decide +kernel⟩
theorem FA {f:Addr} {fd:FuncData} (F:FunD K "__init__" "Loom.__init__" AD f fd) (T:Txt K mg c) (c_is_fault:Aw P w K mg base "is_fault" 3 ["draft","thing"] (F5 K c)) (m_Gear:J9 P w K mg base "Gear" c.Gear 6 ["self","draft","fault"] (CU c)) (d_Draft_ends:BE P w K mg base c.Draft "ends" 1 ["self"] (Cw c)):FnOk P w K mg base (CXE P w) 8 f fd ["self","draft","fault"] (A9 K c):=by
  refine F.okE FX (λ vs H Q E h=> ?_) (λ cdv A outer s H vs Q E hr h=> ?_)
  · obtain ⟨x,dx,y,v,d,rfl,_⟩:=h;rfl
  · obtain ⟨x,dx,y,v,d,rfl,hx,D0,ok,hk⟩:=h;refine ⟨_,(Ad (A7 (PW.pt (JH (As Gq (pv 2) Cv (Ay _)) (Jz (Cn (Bs (Ag c_is_fault (hr.mono (by decide)) (Aa (pv 1) (Aa (pv 2) Ab)))))))) (Ah (CI T.g_BadDraft T.xi_BadDraft (Aa Ap Ab))) Az)
      (Ad (Bm (pv 0) (J4 m_Gear hr (Aa (pv 1) (Aa (pv 2) Ab))) rfl)
      (Ad (Bm (pv 0) (Bj (pv 1) d_Draft_ends (hr.mono (by decide))) rfl)
      (Ad (Bm (pv 0) (AV (K:=K) (pv 1) rfl) rfl)
      (Ah (Bm (pv 0) (AS Ab) rfl)))))),?_⟩
    walk_at "v";rcases hk with ⟨f,⟨fv,hf⟩,k⟩ | ⟨ne,hf,k⟩
    case inr=>
      walk_at "w";refine ⟨rfl,true,by rw [decide_eq_false ne];rfl,?_⟩;walk_at "w";refine ⟨y,d,v,false,rfl,D0,ok,hf,λ H1 s1=> ?_⟩;refine ⟨false,rfl,?_⟩;walk_at "w";exact ⟨by decide,k H1 s1⟩
    refine ifJ (λ σ' G=>σ'=[some (.ref x),some (.ref y),some v,none]/\Same H G) ?_ (λ hJ=> ?_)
    case refine_2=>
      walk_at "w";rcases hf with rfl | hf
      · refine ⟨rfl,false,by simp,?_⟩
        repeat (with_reducible refine Fh ?_)
        exact Em (hJ _ _ ⟨rfl,Same.refl _⟩)
      · have ne:v≠ .non:=λ z=>by
          subst z;rcases fv with ⟨a,e,_⟩ | ⟨_,e⟩
          · cases e
          · cases hf
        refine ⟨rfl,true,by rw [decide_eq_false ne];rfl,?_⟩;walk_at "w";refine ⟨y,d,v,true,rfl,D0,ok,hf,λ H1 s1=> ?_⟩;exact ⟨true,rfl,P4 (Em (hJ _ _ ⟨rfl,s1⟩))⟩
    rintro σ' H1 ⟨rfl,s1⟩;have nyx:y≠x:=λ z=>by
      obtain ⟨dx',v1,v2,v3,v4,v5,h0,_⟩:=id D0;rw [z,hx] at h0;injection h0 with h0;injection h0 with _ _ e;cases e
    have hx1:=s1 _ _ hx;have D1:=D0.same s1;walk_at "w";intro g dg hg hdg neg;have s0:=DF (o:=HO.ins c.Gear dg []) (u:= .own g) hg hdg;refine ⟨g,dg,y,v,d,f,rfl,Ac,D1.same s0,ok,(fv.same s1).same s0,λ H2 kp2 G2=>⟨rfl,?_⟩⟩;have s2:Same H1 H2:=λ b o e=>kp2 b o (s0 b o e) (Av e hg);have ngx:g≠x:=(Av hx1 hg).symm;have hx2:=s2 _ _ hx1;have D2:=D1.same s2;have B2:∀ b o,H b=some o->b≠x->H2 b=some o:=λ b o e _=>s2 _ _ (s1 _ _ e);walk_at "w";refine Be hx2 T.kd_Loom.cl T.na_Loom_gear (by decide) ?_;rw [show AR ("gear":Str) (V.ref g) []=([("gear", .ref g)]:List (Str × V)) from rfl];have D3:=D2.ins (o:=HO.ins c.Loom dx [("gear", .ref g)]) hx2 nyx;have G3:=G2.ins (o:=HO.ins c.Loom dx [("gear", .ref g)]) hx2 ngx;have B3:∀ b o,H b=some o->b≠x->upd H2 x (HO.ins c.Loom dx [("gear", .ref g)]) b=some o:=λ b o e n=>(Aj n).trans (B2 b o e n);have hx3:upd H2 x (HO.ins c.Loom dx [("gear", .ref g)]) x=_:=Ac;generalize upd H2 x (HO.ins c.Loom dx [("gear", .ref g)])=H3 at D3 G3 B3 hx3 ⊢;have D3':=D3;obtain ⟨dy,v1,v2,v3,v4,v5,hy,_,_,r3,_,_⟩:=D3';walk_at "w";refine ⟨_,_,_,rfl,hy,rfl,?_⟩;walk_at "w";refine ⟨y,d,rfl,D3,?_⟩;walk_at "w";refine Be hx3 T.kd_Loom.cl T.na_Loom_width (by show 1<1000;decide) ?_;rw [show AR ("width":Str) (nV d.th.length) ([("gear", .ref g)]:List (Str × V))=([("gear", .ref g),("width",nV d.th.length)]:List (Str × V)) from rfl];have G4:=G3.ins (o:=HO.ins c.Loom dx [("gear", .ref g),("width",nV d.th.length)]) hx3 ngx;have r4:=r3.ins (o:=HO.ins c.Loom dx [("gear", .ref g),("width",nV d.th.length)]) hx3;have hy4:=(Aj (o:=HO.ins c.Loom dx [("gear", .ref g),("width",nV d.th.length)]) nyx).trans hy;have B4:∀ b o,H b=some o->b≠x->upd H3 x (HO.ins c.Loom dx [("gear", .ref g),("width",nV d.th.length)]) b=some o:=λ b o e n=>(Aj n).trans (B3 b o e n);have hx4:upd H3 x (HO.ins c.Loom dx [("gear", .ref g),("width",nV d.th.length)]) x=_:=Ac;generalize upd H3 x (HO.ins c.Loom dx [("gear", .ref g),("width",nV d.th.length)])=H4 at G4 r4 hy4 B4 hx4 ⊢;walk_at "w";refine ⟨_,_,_,_,_,rfl,hy4,T.kd_Draft.cl,T.na_Draft_treading,rfl,?_⟩;walk_at "w";refine Be hx4 T.kd_Loom.cl T.na_Loom_treading (by show 2<1000;decide) ?_;rw [show AR ("treading":Str) v3 ([("gear", .ref g),("width",nV d.th.length)]:List (Str × V))=([("gear", .ref g),("width",nV d.th.length),("treading",v3)]:List (Str × V)) from rfl];have G5:=G4.ins (o:=HO.ins c.Loom dx [("gear", .ref g),("width",nV d.th.length),("treading",v3)]) hx4 ngx;have r5:=r4.ins (o:=HO.ins c.Loom dx [("gear", .ref g),("width",nV d.th.length),("treading",v3)]) hx4;have B5:∀ b o,H b=some o->b≠x->upd H4 x (HO.ins c.Loom dx [("gear", .ref g),("width",nV d.th.length),("treading",v3)]) b=some o:=λ b o e n=>(Aj n).trans (B4 b o e n);have hx5:upd H4 x (HO.ins c.Loom dx [("gear", .ref g),("width",nV d.th.length),("treading",v3)]) x=_:=Ac;generalize upd H4 x (HO.ins c.Loom dx [("gear", .ref g),("width",nV d.th.length),("treading",v3)])=H5 at G5 r5 B5 hx5 ⊢;walk_at "w";row_lines H5 x6;walk_at "w";refine Be (s6 _ _ hx5) T.kd_Loom.cl T.na_Loom_done (by show 3<1000;decide) ?_;rw [show AR ("done":Str) (V.ref p6) ([("gear", .ref g),("width",nV d.th.length),("treading",v3)]:List (Str × V))=([("gear", .ref g),("width",nV d.th.length),("treading",v3),("done", .ref p6)]:List (Str × V)) from rfl];walk_at "w";have n6x:p6≠x:=(Av hx5 n6).symm;have sb:Same (upd H5 x (HO.ins c.Loom dx [("gear", .ref g),("width",nV d.th.length),("treading",v3),("done", .ref p6)])) (bar p6 (upd H6 x (HO.ins c.Loom dx [("gear", .ref g),("width",nV d.th.length),("treading",v3),("done", .ref p6)]))):=λ b o e=>by
      by_cases z:b=x
      · rw [z,Ac] at e;rw [z];unfold bar;rw [if_neg n6x.symm,Ac];exact e
      · rw [Aj z] at e;have n6b:b≠p6:=Av e n6;unfold bar;rw [if_neg n6b,Aj z];exact s6 _ _ e
    refine k _ p6 (λ b o e n=>(Aj n).trans (s6 _ _ (B5 b o e n))) ?_ ((Aj n6x).trans g6) ⟨dx,g,v3,sb _ _ Ac,(G5.ins hx5 ngx).same sb,(r5.ins hx5).same sb⟩;cases e6:H p6 with
    | none=>rfl
    | some o=>
      have:=B5 _ _ e6 n6x;rw [n6] at this;cases this
theorem bi_Loom {K:PySem.W.Frag} {T:Addr} {oc:Value} {od:Option Addr} {n:Nat} {sl:Array (Option Value)} {kV doc pm cdv ct:Value} {an:Option Addr} (hT:K.lookup T=some ⟨oc,od, .seq #[.none] n,sl⟩):
    Binds K (PySem.W.fnOf "__init__" "Loom.__init__" (Bg AD) (AY AD) (Af AD) (.ref T) kV doc pm an cdv ct) ["self","draft","fault"] []/\Binds K (PySem.W.fnOf "__init__" "Loom.__init__" (Bg AD) (AY AD) (Af AD) (.ref T) kV doc pm an cdv ct) ["self","draft","fault"] [.none]:=
  ⟨λ s us X hl=>match us,(show us.length=3 by simpa using hl) with | [_,_,_],_=>PySem.W.binds_K X rfl hT rfl rfl rfl,λ s us X hl=>match us,(show us.length=2 by simpa using hl) with | [_,_],_=>PySem.W.binds_K X rfl hT rfl rfl rfl⟩
noncomputable def AU (d:Dr) (f:Ft) (i:Nat):List Nat:=(List.range i).map (Jw d f)
theorem AZ (d:Dr) (f:Ft) (i:Nat):(AU d f i).length=i:=by unfold AU;rw [List.length_map,List.length_range]
theorem G6 (d:Dr) (f:Ft) (i:Nat):AU d f (i+1)=AU d f i++[Jw d f i]:=by unfold AU;rw [List.range_succ,List.map_append];rfl
theorem LJ {d:Dr} (ok:DrOk d) {f:Ft} {i:Nat} (h1:1<=i) (h2:i<=d.td.length):ClOk d.th.length (AU d f i):=⟨ok.h1,ok.h2,by rw [AZ];exact h1,by rw [AZ];have:=ok.p2;omega,λ r hr=>by
  unfold AU at hr;obtain ⟨j,_,rfl⟩:=List.mem_map.mp hr;exact MM.ofB_lt _ _⟩
def Dv (c:Cs):Sp:=λ vs H Q _=>∃ x d f l i,vs=[.ref x]/\LmAt c H x d f l/\DrOk d/\FKn d f/\H l=some (.lst ((AU d f i).map nV))/\((i=d.td.length/\Q .non H)\/(i<d.td.length/\∀ H1,Same H H1->Q (nV (Jw d f i)) (upd H1 l (.lst ((AU d f (i+1)).map nV)))))
noncomputable abbrev DH:Stmt:=Aq (top 61) 1
theorem sc_Loom_step:FnScope ["self","row"] ["self"] (Af DH):=⟨rfl,rfl,rfl,by decide +kernel,rfl,by decide +kernel,by decide +kernel⟩
theorem JM {f:Addr} {fd:FuncData} (F:Fun K "step" "Loom.step" DH f fd) (T:Txt K mg c) (d_Gear_row_of:BE P w K mg base c.Gear "row_of" 5 ["self","treadles"] (DW K c)):FnOk P w K mg base CX0 6 f fd ["self"] (Dv c):=by
  refine F.ok sc_Loom_step (λ vs H Q E h=> ?_) (λ cdv A outer s H vs Q E hr h=> ?_)
  · obtain ⟨x,d,f,l,i,rfl,_⟩:=h;rfl
  · obtain ⟨x,d,f,l,i,rfl,lm,ok,fk,hl,k⟩:=h;obtain ⟨dx,g,v,hx,G0,r0⟩:=lm.out;have p2:=ok.p2;obtain ⟨m3,a3,vs3,em3,rfl,e3,l3,b3,el3⟩:=BX r0;cases em3;rw [List.length_map] at l3;refine ⟨_,(Ad (A7 (As B0 (Al (Bd (K:=K)) rfl (T.own _ (by decide)) boot_len (Aa (AV (K:=K) (pv 0) rfl) Ab)) (Al (Bd (K:=K)) rfl (T.own _ (by decide)) boot_len (Aa (AV (K:=K) (pv 0) rfl) Ab)) (Ay _)) (Ah (An Cv)) Az)
      (Ad (Ao (i:=1) sc_Loom_step.nd rfl (Or.inl rfl) (Ni (AV (K:=K) (pv 0) rfl) d_Gear_row_of hr (Aa (At (AE (K:=K)) (AV (K:=K) (pv 0) rfl) (Al (Bd (K:=K)) rfl (T.own _ (by decide)) boot_len (Aa (AV (K:=K) (pv 0) rfl) Ab)) (λ _ _=>rfl)) Ab)))
      (Ad (AT (IK (K:=K) PySem.F.plainAttrs_list PySem.F.slot_list_append PySem.F.type_list_append FW (AV (K:=K) (pv 0) rfl) (Aa (pv 1) Ab)))
      (Ah (An (pv 1)))))),?_⟩
    walk_at "w";refine ⟨_,_,_,_,_,rfl,hx,T.kd_Loom.cl,T.na_Loom_done,rfl,?_⟩;walk_at "w";refine AQ (SqL.of hl) ?_;walk_at "w";refine ⟨_,_,_,_,_,rfl,hx,T.kd_Loom.cl,T.na_Loom_treading,rfl,?_⟩;walk_at "w";refine Fp (SqT.of e3) ?_;walk_at "w";rw [List.length_map,AZ,l3];rcases k with ⟨rfl,k⟩ | ⟨hi,k⟩
    · rw [decide_eq_true rfl];refine Kj ?_;walk_at "w";exact k
    · rw [decide_eq_false (by omega)];refine Fh ?_;obtain ⟨dg,t1,t2,gg,_,_⟩:=id G0;walk_at "w";refine ⟨_,_,_,_,_,rfl,hx,T.kd_Loom.cl,T.na_Loom_gear,rfl,?_⟩;refine ⟨_,_,_,rfl,gg,rfl,?_⟩;walk_at "w";refine ⟨_,_,_,_,_,rfl,hx,T.kd_Loom.cl,T.na_Loom_treading,rfl,?_⟩;walk_at "w";refine ⟨_,_,_,_,_,rfl,hx,T.kd_Loom.cl,T.na_Loom_done,rfl,?_⟩;walk_at "w";refine AQ (SqL.of hl) ?_;rw [List.length_map,AZ];walk_at "w";have r:=el3 i (by simpa using hi);rw [AM dT d.td i .non [] hi] at r;obtain ⟨b,eb,gb,_⟩:=Dx r;have at1:atI vs3 ((i:Nat):Int)=some (.ref b):=by
        refine Am (j:=i) ?_;rw [List.getD_eq_getElem?_getD,List.getElem?_eq_getElem (by omega)] at eb;rw [List.getElem?_eq_getElem (by omega)];exact congrArg some eb
      refine Ar (SqT.of e3) at1 ?_;walk_at "w";refine ⟨g,d,f,b,i,rfl,G0,ok,fk,hi,SqT.of gb,λ H1 s1=> ?_⟩;walk_at "w";refine ⟨_,_,_,_,_,rfl,s1 _ _ hx,T.kd_Loom.cl,T.na_Loom_done,rfl,?_⟩;refine tyL (SqL.of (s1 _ _ hl)) ?_;walk_at "w";refine NR (s1 _ _ hl) (by rw [List.length_map,AZ];omega) ?_;walk_at "w";have e:(AU d f i).map nV++[nV (Jw d f i)]=(AU d f (i+1)).map nV:=by rw [G6,List.map_append];rfl
      rw [e];exact k H1 s1
def B1 (c:Cs):Sp:=λ vs H Q _=>∃ x d f l,∃ rs:List Nat,vs=[.ref x]/\LmAt c H x d f l/\H l=some (.lst (rs.map nV))/\Q (nV rs.length) H
noncomputable abbrev Ec:Stmt:=Aq (top 61) 2
theorem Jd:FnScope ["self"] ["self"] (Af Ec):=⟨rfl,rfl,rfl,by decide +kernel,rfl,by decide +kernel,by decide +kernel⟩
theorem Jk {f:Addr} {fd:FuncData} (F:Fun K "pick" "Loom.pick" Ec f fd) (T:Txt K mg c):FnOk P w K mg base CX0 1 f fd ["self"] (B1 c):=by
  refine F.ok Jd (λ vs H Q E h=> ?_) (λ cdv A outer s H vs Q E hr h=> ?_)
  · obtain ⟨x,d,f,l,rs,rfl,_⟩:=h;rfl
  · obtain ⟨x,d,f,l,rs,rfl,lm,hl,k⟩:=h;obtain ⟨dx,g,v,hx,G0,r0⟩:=lm.out;refine ⟨_,(Ah (An (Al (Bd (K:=K)) rfl (T.own _ (by decide)) boot_len (Aa (AV (K:=K) (pv 0) rfl) Ab)))),?_⟩;walk_at "w";refine ⟨_,_,_,_,_,rfl,hx,T.kd_Loom.cl,T.na_Loom_done,rfl,?_⟩;walk_at "w";refine AQ (SqL.of hl) ?_;rw [List.length_map];exact k
def Bo (c:Cs):Sp:=λ vs H Q E=>∃ x d f l,∃ rs:List Nat,vs=[.ref x]/\LmAt c H x d f l/\H l=some (.lst (rs.map nV))/\((rs=[]/\E (.ref c.OutOfPlace) none H)\/(ClOk d.th.length rs/\∀ H' y,Same H H'->H y=none->NX c.Cloth H' y d.th.length rs->Q (.ref y) H'))
noncomputable abbrev Dm:Stmt:=Aq (top 61) 3
theorem Ir:FnScope ["self"] ["self"] (Af Dm):=⟨rfl,rfl,rfl,by decide +kernel,rfl,by decide +kernel,by decide +kernel⟩
theorem Ib {f:Addr} {fd:FuncData} (F:Fun K "cloth" "Loom.cloth" Dm f fd) (T:Txt K mg c) (m_Cloth:LX P w K mg base "Cloth" c.Cloth 4 ["self","ends","rows"] (By K c)):FnOk P w K mg base (CXE P w) 6 f fd ["self"] (Bo c):=by
  refine Fun.okE F Ir (λ vs H Q E h=> ?_) (λ cdv A outer s H vs Q E hr h=> ?_)
  · obtain ⟨x,d,f,l,rs,rfl,_⟩:=h;rfl
  · obtain ⟨x,d,f,l,rs,rfl,lm,hl,k⟩:=h;obtain ⟨dx,g,v,hx,G0,r0⟩:=lm.out;refine ⟨_,(Ad (A7 (As B0 (Al (Bd (K:=K)) rfl (T.own _ (by decide)) boot_len (Aa (AV (K:=K) (pv 0) rfl) Ab)) Ae (Ay _)) (Ah (CI T.g_OutOfPlace T.xi_OutOfPlace (Aa Ap Ab))) Az)
      (Ah (An (DO m_Cloth hr LG (Aa (AV (K:=K) (pv 0) rfl) (Aa (AV (K:=K) (pv 0) rfl) Ab)))))),?_⟩
    walk_at "w";refine ⟨_,_,_,_,_,rfl,hx,T.kd_Loom.cl,T.na_Loom_done,rfl,?_⟩;walk_at "w";refine AQ (SqL.of hl) ?_;rw [List.length_map];walk_at "w";rcases k with ⟨rfl,k⟩ | ⟨ok,k⟩
    · refine Dg (λ _=> ?_) (λ z=>absurd rfl z);exact ⟨by decide,k⟩
    · have p1:=ok.p1;refine Dg (λ z=>absurd z (by omega)) (λ _=> ?_);walk_at "w";refine Hf ?_;walk_at "w";refine ⟨_,_,_,_,_,rfl,hx,T.kd_Loom.cl,T.na_Loom_width,rfl,?_⟩;walk_at "w";refine ⟨_,_,_,_,_,rfl,hx,T.kd_Loom.cl,T.na_Loom_done,rfl,?_⟩;walk_at "w";exact OY hl ok λ H2 y s2 hy C2=>k H2 y s2 hy C2
def Ex (K:PySem.W.Frag) (c:Cs):Sp:=λ vs H Q E=>∃ (y:Addr) (v:V) (d:Dr),vs=[.ref y,v]/\DrAt c.Draft H y d/\DrOk d/\
  ((∃ f,FvQ K d H v f/\∀ H' z,Same H H'->H z=none->NX c.Cloth H' z d.th.length (AU d f d.td.length)->Q (.ref z) H')\/(v≠ .non/\IsF K H d v false/\∀ H',Same H H'->E (.ref c.BadDraft) none H'))
theorem IsF.same {d:Dr} {H H':Hp} {v:V} {b:Bool} (h:IsF K H d v b) (s:Same H H'):IsF K H' d v b:=by
  cases h with
  | kind ty h=>exact .kind (ty.same s) h
  | first ht t1 h=>exact .first (s _ _ ht) (t1.same s) h
  | rest ht l ty h=>exact .rest (s _ _ ht) l (λ w hw=>(ty w hw).same s) h
  | all ht l=>exact .all (s _ _ ht) l
theorem FvQ.same {d:Dr} {H H':Hp} {v:V} {f:Ft} (h:FvQ K d H v f) (s:Same H H'):FvQ K d H' v f:=⟨h.1.same s,h.2.elim .inl λ z=> .inr (z.same s)⟩
theorem LB {c:Cs} {H:Hp} {R:Addr->Hp->Prop} {E:XK} {y:Addr} {v:V} {d:Dr} {f:Ft} (D0:DrAt c.Draft H y d) (ok:DrOk d) (fv:FvQ K d H v f) (h:∀ H' x l,Same H H'->H x=none->H l=none->H' l=some (.lst [])->LmAt c H' x d f l->R x H'):
    ∀ x dx,H x=none->H dx=none->dx≠x->A9 K c [.ref x, .ref y,v] (upd (upd H dx (.own x)) x (.ins c.Loom dx [])) (λ v H2=>v= .non/\R x H2) E:=by
  intro x dx hx hdx ne;have s0:=DF (o:=HO.ins c.Loom dx []) (u:= .own x) hx hdx;exact ⟨x,dx,y,v,d,rfl,Ac,D0.same s0,ok, .inl ⟨f,fv.same s0,λ H' l kp hl gl lm=>⟨rfl,h H' x l (λ b o e=>kp b o (s0 b o e) (Av e hx)) hx (s0.free hl) gl lm⟩⟩⟩
theorem MW {c:Cs} {H:Hp} {Q:Addr->VK} {E:XK} {y:Addr} {v:V} {d:Dr} (D0:DrAt c.Draft H y d) (ok:DrOk d) (nv:v≠ .non) (hf:IsF K H d v false) (h:∀ H',Same H H'->E (.ref c.BadDraft) none H'):
    ∀ x dx,H x=none->H dx=none->dx≠x->A9 K c [.ref x, .ref y,v] (upd (upd H dx (.own x)) x (.ins c.Loom dx [])) (Q x) E:=by
  intro x dx hx hdx ne;have s0:=DF (o:=HO.ins c.Loom dx []) (u:= .own x) hx hdx;exact ⟨x,dx,y,v,d,rfl,Ac,D0.same s0,ok, .inr ⟨nv,hf.same s0,λ H' s=>h H' (s0.trans s)⟩⟩
noncomputable abbrev Ds:Stmt:=top 62
theorem sc_woven_with:FnScope ["draft","fault","loom"] ["draft","fault"] (Af Ds):=⟨rfl,rfl,rfl,by decide +kernel,rfl,by decide +kernel,by decide +kernel⟩
theorem HU {f:Addr} {fd:FuncData} (F:Fun K "woven_with" "woven_with" Ds f fd) (T:Txt K mg c) (m_Loom:MakeD P w K mg base "Loom" c.Loom 8 ["self","draft","fault"] (A9 K c)) (d_Loom_step:BE P w K mg base c.Loom "step" 6 ["self"] (Dv c)) (d_Loom_cloth:Ki P w K mg base c.Loom "cloth" 6 ["self"] (Bo c)):FnOk P w K mg base (CXE P w) 10 f fd ["draft","fault"] (Ex K c):=by
  refine Fun.okE F sc_woven_with (λ vs H Q E h=> ?_) (λ cdv A outer s H vs Q E hr h=> ?_)
  · obtain ⟨y,v,d,rfl,_⟩:=h;rfl
  · obtain ⟨y,v,d,rfl,D0,ok,hk⟩:=h;have p1:=ok.p1;have p2:=ok.p2;refine ⟨_,(Ad (Ao (i:=2) sc_woven_with.nd rfl (Or.inl rfl) (DO m_Loom.toE hr LG (Aa (pv 0) (Aa (pv 1) Ab))))
      (Ad (NP PassesOwn.leaving (As Gq (Bj (pv 2) d_Loom_step (hr.mono (by decide))) Cv (Ay _)) (Ah OQ))
      (Ah (An (FF (pv 2) d_Loom_cloth (hr.mono (by decide)) LG))))),?_⟩
    walk_at "w";refine Hf ?_;walk_at "w";rcases hk with ⟨f,fv,k⟩ | ⟨nv,hf,k⟩
    case inr=>exact MW (Q:=λ x v2 H2=>v2= .non/\_) D0 ok nv hf k
    refine LB (R:=λ x H1=>AK 2 (.ref x) _ H1 _) D0 ok fv λ H1 x l s1 hx hl gl lm=> ?_;walk_at "w";refine ⟨λ w σ H'=>∃ i,σ=[some (.ref y),some v,some (.ref x)]/\Same H H'/\LmAt c H' x d f l/\H' l=some (.lst ((AU d f i).map nV))/\i<=d.td.length/\w=d.td.length - i,⟨_,0,rfl,s1,lm,gl,Nat.zero_le _,rfl⟩,?_⟩;rintro w0 σ H' ⟨i,rfl,sH,lm',hl',hi,rfl⟩;obtain ⟨dx,g,v',hx',_,_⟩:=lm'.out;walk_at "w";refine ⟨_,_,_,rfl,hx',rfl,?_⟩;walk_at "w";rcases Nat.lt_or_ge i d.td.length with z | z
    · refine ⟨x,d,f,l,i,rfl,lm',ok,fv.1.fk,hl', .inr ⟨z,λ H2 s2=> ?_⟩⟩;refine ⟨rfl,true,by simp,?_⟩;have hl0:H l=none:=hl;refine Kj ⟨λ σ' G=>σ'=[some (.ref y),some v,some (.ref x)]/\Same H G/\LmAt c G x d f l/\G l=some (.lst ((AU d f (i+1)).map nV)),λ σ' G ⟨e,a1,a2,a3⟩=>⟨d.td.length - (i+1),by omega,i+1,e,a1,a2,a3,by omega,rfl⟩,Em ⟨rfl,Fc (sH.trans s2) hl0,(lm'.same s2).wr,Ac⟩⟩
    · have e:i=d.td.length:=by omega
      subst e;refine ⟨x,d,f,l,_,rfl,lm',ok,fv.1.fk,hl', .inl ⟨rfl,?_⟩⟩;refine ⟨rfl,false,by simp,?_⟩;refine Fh ?_;walk_at "w";refine Ks ?_;walk_at "w";refine ⟨_,_,_,rfl,hx',rfl,?_⟩;walk_at "w";exact ⟨x,d,f,l,_,rfl,lm',hl', .inr ⟨LJ ok p1 (Nat.le_refl _),λ H2 z s2 hz C2=>k H2 z (sH.trans s2) (sH.free hz) C2⟩⟩
theorem JT (T:Txt K mg c):KindF K c c.BadDraft 5:=⟨by decide,T.xk_BadDraft,T.ki_BadDraft_BadRow,T.ki_BadDraft_BadWord,T.ki_BadDraft_TooMany,T.ki_BadDraft_NotPlain,T.ki_BadDraft_NotGrown,T.ki_BadDraft_BadDraft,T.ki_BadDraft_BadCloth,T.ki_BadDraft_OutOfPlace,T.ki_BadDraft_ValueError⟩
theorem Nx (T:Txt K mg c):KindF K c c.OutOfPlace 7:=⟨by decide,T.xk_OutOfPlace,T.ki_OutOfPlace_BadRow,T.ki_OutOfPlace_BadWord,T.ki_OutOfPlace_TooMany,T.ki_OutOfPlace_NotPlain,T.ki_OutOfPlace_NotGrown,T.ki_OutOfPlace_BadDraft,T.ki_OutOfPlace_BadCloth,T.ki_OutOfPlace_OutOfPlace,T.ki_OutOfPlace_ValueError⟩
def Ed (K:PySem.W.Frag) (c:Cs):(XK->TE)->List V->Hp->VK->Prop:=λ tb vs H Q=>∃ (Z:Addr->Option Addr->Hp->Prop),
  (∀ (E':XK) (R:VK),(∀ C od H1,Z C od H1->E' (.ref C) od H1)->tb E' (vs.map some) H R)/\
  (∀ C od H1,Z C od H1->PySem.W.exmOne K (.ref C) (.ref c.LoomError)=some true/\∃ j,KindF K c C j/\∀ H2 l,Same H1 H2->H2 l=some (.lst [.str (nmK j)])->Q (.ref l) H2)
noncomputable abbrev CB:Stmt:=top 74
theorem sc__law_caught:FnScope ["_law_asked","_law_wrong","e"] ["_law_asked"] (Af CB):=⟨rfl,rfl,rfl,by decide +kernel,rfl,by decide +kernel,by decide +kernel⟩
theorem Hc {f:Addr} {fd:FuncData} (F:Fun K "_law_caught" "_law_caught" CB f fd) (B:Binds K fd ["_law_asked"] []) (T:Txt K mg c) (c__law_kinds:Aw P w K mg base "_law_kinds" 1 ["_law_error"] (EA K c)):DV P w K mg base f 12 10 (Ed K c):=by
  refine Fun.caught F B sc__law_caught (λ cdv A outer s H fl c' oc N' qual' scope cl params body pm ctv vs tb Q hr th hb h=> ?_);obtain ⟨Z,h1,kz⟩:=h;refine ⟨_,(Ad (Ao (i:=1) sc__law_caught.nd rfl (Or.inl rfl) Cv)
      (Ad (RO (j:=2) rfl rfl T.g_LoomError sc__law_caught.nd rfl rfl (λ _ _ _ hp=>(Ah (AT (Sh th (pv 0) hp hr rfl hb)))) (λ _ _=>(Ah (Ao (i:=1) sc__law_caught.nd rfl (Or.inl rfl) (pv 2)))))
      (Ah (An (GQ (As Rl (pv 1) Cv (Ay _)) (AS Ab) (Ag c__law_kinds (hr.mono (by decide)) (Aa (pv 1) Ab))))))),?_⟩
  walk_at "w";refine Rs ?_;walk_at "w";refine MR ?_;walk_at "w";refine ⟨rfl,th.hc,h1 _ _ (λ C od H1 z1=> ?_)⟩;obtain ⟨xm,j,kf,kz⟩:=kz C od H1 z1;refine ⟨_,rfl,xm,λ a σ ha hl=> ?_⟩;obtain ⟨x0,x1,x2,rfl⟩:∃ x0 x1 x2,σ=[x0,x1,x2]:=by
    match σ,hl with
    | [x0,x1,x2],_=>exact ⟨x0,x1,x2,rfl⟩
  have s2:=Ai (o:=HM a C od) ha;walk_at "w";refine RA ?_;walk_at "w";refine ⟨rfl,_,rfl,?_⟩;walk_at "w";rw [decide_eq_false (by intro z;cases z)];refine Fh ?_;walk_at "w";exact ⟨a,C,od,j,rfl,Ac,kf,λ H2 l s3 hl2 g2=>kz H2 l (s2.trans s3) g2⟩
theorem Hm {T:Addr} {H:Hp} {b:Addr} {o:HO} (h:H b=some o) (n:b≠T):bar T H b=some o:=by unfold bar;rw [if_neg n];exact h
theorem Ke (T:Addr) (H:Hp):bar T H T=none:=by unfold bar;rw [if_pos rfl]
noncomputable def nx (d:Dr) (i:Nat):Nat:=if i<d.td.length then i+1 else i
def Eu (c:Cs):Sp:=λ vs H Q _=>∃ (x:Addr) (v:V) (a q l:Addr) (d:Dr) (f:Ft) (i:Nat),vs=[.ref x,v, .ref a, .ref q]/\LmAt c (bar q H) x d f l/\Rp (bar l (bar q H)) FT 3 v (dDr d)/\bar l (bar q H) a=some (.tup (fV f))/\DrOk d/\FKn d f/\l≠q/\H l=some (.lst ((AU d f i).map nV))/\H q=some (.lst ((AU d f i).map nV))/\i<=d.td.length/\
  ∀ H',Same (bar l (bar q H)) H'->H' l=some (.lst ((AU d f (nx d i)).map nV))->H' q=some (.lst ((AU d f (nx d i)).map nV))->Q (.bl true) H'
noncomputable abbrev Di:Stmt:=top 75
theorem sc__law_steps:FnScope ["_law_loom","_law_told","_law_fault","_law_done","_law_due","_law_found","_law_cloth"] ["_law_loom","_law_told","_law_fault","_law_done"] (Af Di):=⟨rfl,rfl,rfl,by decide +kernel,rfl,by decide +kernel,by decide +kernel⟩
theorem HY {f:Addr} {fd:FuncData} (F:Fun K "_law_steps" "_law_steps" Di f fd) (T:Txt K mg c) (c__law_row:Aw P w K mg base "_law_row" 2 ["_law_told","_law_fault","_law_pick"] Ga) (d_Loom_step:BE P w K mg base c.Loom "step" 6 ["self"] (Dv c)) (d_Loom_cloth:Ki P w K mg base c.Loom "cloth" 6 ["self"] (Bo c)) (d_Loom_pick:BE P w K mg base c.Loom "pick" 1 ["self"] (B1 c)) (d_Cloth_told:BE P w K mg base c.Cloth "told" 1 ["self"] (BM c)):FnOk P w K mg base CX0 7 f fd ["_law_loom","_law_told","_law_fault","_law_done"] (Eu c):=by
  refine F.ok sc__law_steps (λ vs H Q E h=> ?_) (λ cdv A outer s H vs Q E hr h=> ?_)
  · obtain ⟨x,v,a,q,l,d,f,i,rfl,_⟩:=h;rfl
  · obtain ⟨x,v,a,q,l,d,f,i,rfl,lm,rv,ha,ok,fk,nlq,hl,hq,hi,k⟩:=h;have p1:=ok.p1;have p2:=ok.p2;have h2:=ok.h2;have sB:Same (bar l (bar q H)) H:=λ b o e=>BQ _ _ (BQ _ _ e);have Bl:bar l (bar q H) l=none:=Ke _ _;have Bq:bar l (bar q H) q=none:=by unfold bar;rw [if_neg nlq.symm,if_pos rfl]
    refine ⟨_,(Ad (Ao (i:=4) sc__law_steps.nd rfl (Or.inl rfl) Cv)
      (Ad (A7 (As Yw (Al (Bd (K:=K)) rfl (T.own _ (by decide)) boot_len (Aa (pv 3) Ab)) (Al (Bd (K:=K)) rfl (T.own _ (by decide)) boot_len (Aa (At (AE (K:=K)) (pv 1) Ae (λ _ _=>rfl)) Ab)) (Ay _)) (Ah (Ao (i:=4) sc__law_steps.nd rfl (Or.inl rfl) (Ag c__law_row (hr.mono (by decide)) (Aa (pv 1) (Aa (pv 2) (Aa (Al (Bd (K:=K)) rfl (T.own _ (by decide)) boot_len (Aa (pv 3) Ab)) Ab)))))) Az)
      (Ad (Ao (i:=5) sc__law_steps.nd rfl (Or.inl rfl) (Bj (pv 0) d_Loom_step hr))
      (Ad (A7 (PW.pt (IC (Bs (Al (CY (K:=K)) rfl (T.own _ (by decide)) boot_isinstance (Aa (pv 5) (Aa (EG rfl (T.own _ (by decide)) boot_bool) Ab)))) (GZ (As Lr (pv 5) (pv 4) (Ay _))))) (Ah (An ED)) Az)
      (Ad (A7 (As Gq (pv 4) Cv (Ay _)) (Ah (AT (IK (K:=K) PySem.F.plainAttrs_list PySem.F.slot_list_append PySem.F.type_list_append FW (pv 3) (Aa (pv 4) Ab)))) Az)
      (Ad (Ao (i:=6) sc__law_steps.nd rfl (Or.inl rfl) (FF (pv 0) d_Loom_cloth hr Kb))
      (Ah (An (De (Al (PK (K:=K)) rfl (T.own _ (by decide)) boot_isinstance (Aa (pv 6) (Aa (E5 T.g_Cloth) Ab))) (De (BN (KJ hr.units) (Bj (pv 6) d_Cloth_told (hr.mono (by decide))) (AB (Aa (Al (Bd (K:=K)) rfl (T.own _ (by decide)) boot_len (Aa (At (AE (K:=K)) (pv 1) Ae (λ _ _=>rfl)) Ab)) (Aa (pv 3) Ab))) (Ay _)) (EJ (BN B0 (Bj (pv 0) d_Loom_pick (hr.mono (by decide))) (Al (Bd (K:=K)) rfl (T.own _ (by decide)) boot_len (Aa (pv 3) Ab)) (Ay _))))))))))))),?_⟩
    have toL:∀ G,Same (bar l (bar q H)) G->LmAt c G x d f l:=λ G s=>lm.other λ b o e=>Hm (s b o e) (λ z=>by rw [z,Bl] at e;cases e);have fin:∀ (G:Hp) (w4 w5:V),Same (bar l (bar q H)) G->G l=some (.lst ((AU d f (nx d i)).map nV))->G q=some (.lst ((AU d f (nx d i)).map nV))->QQ (Mi (Dz c.Loom (Str.ofString "cloth") (Bo c) [] E0 (Hv 0) Gf) (AK 6))
        (RK (Ly (tCB (Lo K) (F6 (Hv 6) (F6 (tC (V.ref c.Cloth)) Gf)))
          (Ly (tOp (Me false) (Dz c.Cloth (Str.ofString "told") (BM c) [] E0 (Hv 6) Gf) (R4 (F6 (tCB (MC K) (F6 (tOp (Pr K) (Hv 1) (tC (V.int 2))) Gf)) (F6 (Hv 3) Gf))))
            (tOp rEq (Dz c.Loom (Str.ofString "pick") (B1 c) [] E0 (Hv 0) Gf) (tCB (MC K) (F6 (Hv 3) Gf))))))
        { nx:=λ x H'=>Q V.non H',rt:=Q } [some (.ref x),some v,some (.ref a),some (.ref q),some w4,some w5,none] G:=λ G w4 w5 sG gl gq=>by
      have lmG:=toL G sG;obtain ⟨dx,g,v',hx,_,_⟩:=lmG.out;have j1:1<=nx d i:=by unfold nx;split <;> omega
      have j2:nx d i<=d.td.length:=by unfold nx;split <;> omega
      generalize nx d i=j at gl gq k j1 j2;walk_at "w";refine ⟨_,_,_,rfl,hx,rfl,?_⟩;walk_at "w";refine ⟨x,d,f,l,_,rfl,lmG,gl, .inr ⟨LJ ok j1 j2,λ H2 y s2 hy C2=> ?_⟩⟩;walk_at "w";obtain ⟨dy,ty,gy,gt⟩:=id C2;refine Nk (T.kd_Cloth.ty gy) T.is_Cloth ?_;walk_at "w";refine ⟨_,_,_,rfl,gy,rfl,?_⟩;walk_at "w";refine ⟨y,_,_,rfl,C2,λ H3 p3 l3 s3 hp3 hl3 gp3 gl3=> ?_⟩;have s23:=s2.trans s3;walk_at "w";have rvG:=rv.same (sG.trans s23);obtain ⟨mv,av,vvs,emv,eav,hav,lav,bav,elv⟩:=BX rvG;cases emv;subst eav
      match vvs,lav,hav,elv with
      | [u0,u1,u2,u3,u4,u5,u6],_,hav,elv=>
        have r2:Rp H3 FT 2 u2 (dL d.th):=elv 2 (by show 2<7;decide);obtain ⟨b2,eb2,hb2,_,_⟩:=CO r2;subst eb2;refine Ar (v:= .ref b2) (SqT.of hav) (Am (j:=2) rfl) ?_;walk_at "w";refine AQ (SqL.of hb2) ?_;rw [List.length_map];walk_at "w";row_lines H3 x4;walk_at "w";have s24:=s23.trans s4;refine ⟨2, .tup [dN d.th.length,dL (AU d f j)], .tup [dN d.th.length,dL (AU d f j)],by decide,Gx (s4 _ _ gp3) (.int _) (Gb (s4 _ _ gl3) trivial (by rw [AZ];omega)),Gx g4 (.int _) (Gb (s24 _ _ gq) trivial (by rw [AZ];omega)),rfl,?_⟩;rw [if_neg (by decide),Ch];walk_at "w";refine ⟨_,_,_,rfl,s24 _ _ hx,rfl,?_⟩;walk_at "w";refine ⟨x,d,f,l,_,rfl,lmG.same s24,s24 _ _ gl,?_⟩;walk_at "w";refine AQ (SqL.of (s24 _ _ gq)) ?_;rw [List.length_map];walk_at "w";rw [decide_eq_true rfl];exact k H4 (sG.trans s24) (s24 _ _ gl) (s24 _ _ gq)
    have rvH:=rv.same sB;obtain ⟨mv,av,vvs,emv,eav,hav,lav,bav,elv⟩:=BX rvH;cases emv;subst eav
    match vvs,lav,hav,elv with
    | [u0,u1,u2,u3,u4,u5,u6],_,hav,elv=>
      have r4:Rp H FT 2 u4 (dLL d.td):=elv 4 (by show 4<7;decide);obtain ⟨m4,a4,vs4,em4,ea4,h4,_,l4,b4,el4⟩:=BG r4;subst ea4;rw [List.length_map] at l4;walk_at "w";refine AQ (SqL.of hq) ?_;rw [List.length_map,AZ];walk_at "w";refine Ar (v:= .ref a4) (SqT.of hav) (Am (j:=4) rfl) ?_;walk_at "w";refine AQ (SqL.of h4) ?_;rw [l4];walk_at "w";refine Dg (λ hc=> ?_) (λ hc=> ?_)
      · have hc':i<d.td.length:=by omega
        have en:nx d i=i+1:=if_pos hc';walk_at "w";refine AQ (SqL.of hq) ?_;rw [List.length_map,AZ];walk_at "w";refine ⟨_,d,a,f,i,rfl,rvH,ok,sB _ _ ha,fk,hc',λ H1 s1=> ?_⟩;have lm1:=toL H1 (sB.trans s1);obtain ⟨dx,g,v',hx,_,_⟩:=lm1.out;walk_at "w";refine ⟨_,_,_,rfl,hx,rfl,?_⟩;walk_at "w";refine ⟨x,d,f,l,i,rfl,lm1,ok,fk,s1 _ _ hl, .inr ⟨hc',λ H2 s2=> ?_⟩⟩;walk_at "w";refine A1 (.int _) (kb (b:=false) (by decide +kernel)) ?_;refine ⟨false,rfl,?_⟩;walk_at "w";rw [decide_eq_true rfl];walk_at "w";refine ⟨rfl,true,by rw [decide_eq_false (by intro z;cases z)];rfl,?_⟩;walk_at "w";have s12:=s1.trans s2;have hq3:upd H2 l (HO.lst ((AU d f (i+1)).map nV)) q=some (.lst ((AU d f i).map nV)):=(Aj nlq.symm).trans (s12 _ _ hq);refine tyL (SqL.of hq3) ?_;walk_at "w";refine NR hq3 (by rw [List.length_map,AZ];omega) ?_;have er:(AU d f i).map nV++[nV (Jw d f i)]=(AU d f (i+1)).map nV:=by rw [G6,List.map_append];rfl
        rw [er];exact fin _ _ _ (Fc (Fc (sB.trans s12) Bl) Bq) (by rw [en];exact (Aj nlq).trans Ac) (by rw [en];exact Ac)
      · have e:i=d.td.length:=by omega
        have en:nx d i=i:=if_neg (by omega);walk_at "w";have lm1:=toL H sB;obtain ⟨dx,g,v',hx,_,_⟩:=lm1.out;refine ⟨_,_,_,rfl,hx,rfl,?_⟩;walk_at "w";refine ⟨x,d,f,l,i,rfl,lm1,ok,fk,hl, .inl ⟨e,?_⟩⟩;walk_at "w";refine A1 .non (kb (b:=false) (by decide +kernel)) ?_;refine ⟨false,rfl,?_⟩;walk_at "w";refine ⟨rfl,?_⟩;refine ⟨false,by rw [decide_eq_true rfl];rfl,?_⟩;walk_at "w";refine ⟨rfl,false,by simp,?_⟩;refine Fh (Em ?_);exact fin H _ _ sB (by rw [en];exact hl) (by rw [en];exact hq)
noncomputable abbrev lq:Str:=(envOfC "law" (Af (top 76)) 0 0 .none).qual++"<lambda>"
theorem Lv {K:PySem.W.Frag} {H:Hp} {Q:VK} {l p:Addr} {as bs:List Str} (c:SqL K H l (as.map V.str)) (d:SqL K H p (bs.map V.str)) (h:Q (.bl (!decide (as=bs))) H):KL K true (.ref l) (.ref p) H Q:=
  ⟨l,p,_,_,rfl,rfl,c,d,by simp [Bf],by simp [Bf],by rw [Iu];exact h⟩
theorem O4 {d:Dr} (ok:DrOk d):0<(BU d).length:=by
  unfold BU A5;have:=ok.s1;simp only [List.length_append,List.length_map,List.length_range];omega
theorem FV {H:Hp} {d:Dr} {b:Addr} {f:Ft} (hb:H b=some (.tup (fV f))) (hm:f∈BU d) (lb:f.2.length<=10):IsF K H d (.ref b) true:=by
  have e:(f.2.map λ n:Nat=>(n:Int)).map V.int=f.2.map nV:=by rw [List.map_map];rfl
  have hb':H b=some (.tup (.str f.1::(f.2.map λ n:Nat=>(n:Int)).map V.int)):=by rw [e];exact hb
  have z:=IsF.all (K:=K) (d:=d) hb' (by rw [List.length_map];omega);have et:inX (.d (dI f.1 (f.2.map λ n:Nat=>(n:Int)))) ((BU d).map dF)=true:=by
    show (((BU d).map dF).any λ e=>eqD e (dI f.1 (f.2.map λ n:Nat=>(n:Int))))=true;rw [List.any_eq_true];refine ⟨dF f,List.mem_map.mpr ⟨f,hm,rfl⟩,?_⟩;have:dI f.1 (f.2.map λ n:Nat=>(n:Int))=dF f:=by
      unfold dI dF;rw [List.map_map];rfl
    rw [this];exact Ch _
  rw [et] at z;exact z
theorem MN {z:Str} {xss:List (List Nat)} {f:Ft}:∀ {n:Nat},f∈shF z xss n->∃ i s,f=(z,[i+1,s])
  | 0,h=>by cases h
  | n+1,h=>by
    unfold shF at h;rcases List.mem_append.mp h with h | h
    · exact MN h
    · obtain ⟨s,_,rfl⟩:=List.mem_map.mp h;exact ⟨n,s,rfl⟩
theorem E6 {d:Dr} {z:Str} {ns:List Nat} (h:(z,ns)∈BU d):(∃ i,z="up"/\ns=[i+1])\/(∃ i,z="down"/\ns=[i+1])\/(∃ i,i<d.th.length/\z="broken"/\ns=[i+1])\/ns.length=2:=by
  unfold BU A5 at h;simp only [List.mem_append,List.mem_map,List.mem_range,Prod.mk.injEq] at h;rcases h with ((((h | h) | h) | h) | h) | h
  · obtain ⟨i,_,rfl,rfl⟩:=h;exact .inl ⟨i,rfl,rfl⟩
  · obtain ⟨i,_,rfl,rfl⟩:=h;exact .inr (.inl ⟨i,rfl,rfl⟩)
  · obtain ⟨i,hi,rfl,rfl⟩:=h;exact .inr (.inr (.inl ⟨i,hi,rfl,rfl⟩))
  all_goals
    obtain ⟨i,s,e⟩:=MN h;cases e;exact .inr (.inr (.inr rfl))
theorem GC {H:Hp} {d:Dr} {b:Addr} {z:Str} {ns:List Nat} (hb:H b=some (.tup (.str z::ns.map nV))) (l:ns.length<=10) (h:¬ (z,ns)∈BU d):IsF K H d (.ref b) false:=by
  have e:(ns.map λ n:Nat=>(n:Int)).map V.int=ns.map nV:=by rw [List.map_map];rfl
  have hb':H b=some (.tup (.str z::(ns.map λ n:Nat=>(n:Int)).map V.int)):=by rw [e];exact hb
  have y:=IsF.all (K:=K) (d:=d) hb' (by rw [List.length_map];omega);have et:inX (.d (dI z (ns.map λ n:Nat=>(n:Int)))) ((BU d).map dF)=false:=by
    show (((BU d).map dF).any λ e=>eqD e (dI z (ns.map λ n:Nat=>(n:Int))))=false;rw [List.any_eq_false];intro e he;obtain ⟨g,hg,rfl⟩:=List.mem_map.mp he;have:dI z (ns.map λ n:Nat=>(n:Int))=dF (z,ns):=by
      unfold dI dF;rw [List.map_map];rfl
    rw [this,K4,decide_eq_true_eq];rintro rfl;exact h hg
  rw [et] at y;exact y
theorem RI {d:Dr}:¬ (("up":Str),([]:List Nat))∈BU d:=λ h=>by
  rcases E6 h with ⟨i,_,e⟩ | ⟨i,_,e⟩ | ⟨i,_,_,e⟩ | e <;> cases e
theorem QY {d:Dr}:¬ (("up":Str),[0])∈BU d:=λ h=>by
  rcases E6 h with ⟨i,_,e⟩ | ⟨i,_,e⟩ | ⟨i,_,_,e⟩ | e <;> cases e
theorem R7 {d:Dr}:¬ (("broken":Str),[d.th.length+1])∈BU d:=λ h=>by
  rcases E6 h with ⟨i,e,_⟩ | ⟨i,e,_⟩ | ⟨i,hi,_,e⟩ | e
  · exact absurd e (by decide)
  · exact absurd e (by decide)
  · injection e with e;omega
  · cases e
theorem RV {d:Dr}:¬ (("loose":Str),[1])∈BU d:=λ h=>by
  rcases E6 h with ⟨i,e,_⟩ | ⟨i,e,_⟩ | ⟨i,_,e,_⟩ | e
  · exact absurd e (by decide)
  · exact absurd e (by decide)
  · exact absurd e (by decide)
  · cases e
theorem QW {d:Dr}:¬ (("none":Str),[1])∈BU d:=λ h=>by
  rcases E6 h with ⟨i,e,_⟩ | ⟨i,e,_⟩ | ⟨i,_,e,_⟩ | e
  · exact absurd e (by decide)
  · exact absurd e (by decide)
  · exact absurd e (by decide)
  · cases e
noncomputable def wo (xs:List Addr) (H:Hp):Hp:=λ b=>if b∈xs then none else H b
theorem Qn {xs:List Addr} {H:Hp} {b:Addr} {o:HO} (h:H b=some o) (n:¬ b∈xs):wo xs H b=some o:=by unfold wo;rw [if_neg n];exact h
theorem Gv {xs:List Addr} {H:Hp} {b:Addr} (h:b∈xs):wo xs H b=none:=by unfold wo;rw [if_pos h]
theorem Ox {xs:List Addr} {H:Hp}:Same (wo xs H) H:=λ b o e=>by
  unfold wo at e;split at e
  · cases e
  · exact e
def Thn (xs:List Addr) (H:Hp):Prop:=∀ b,b∈xs->∃ u,H b=some u/\(u= .lst []\/∃ t,u= .tbl t)
theorem Thn.of {xs:List Addr} {H:Hp} (t:Thn xs H) {b:Addr} {o:HO} (h:H b=some o) (n1:o≠ .lst []) (n2:∀ t,o≠ .tbl t):wo xs H b=some o:=Qn h λ z=>by
  obtain ⟨u,e,k⟩:=t b z;rw [h] at e;cases e;rcases k with k | ⟨t,k⟩
  · exact n1 k
  · exact n2 t k
theorem UC {H:Hp} {F F':Addr->Prop} {n:Nat} {v:V} {ns:List Nat} (r:Rp H F n v (dT ns)):Rp H F' n v (dT ns):=by
  unfold dT at r ⊢;cases r with
  | tup h b l e=>
    refine .tup h b l λ i v d h1 h2=> ?_;have:=e i v d h1 h2;obtain ⟨k,_,rfl⟩:=List.mem_map.mp (List.mem_of_getElem? h2);unfold dN at this ⊢;cases this;exact .int _
theorem P8 {H:Hp} {F F':Addr->Prop} {n:Nat} {v:V} {zs:List Str} (r:Rp H F n v (dST zs)):Rp H F' n v (dST zs):=by
  unfold dST at r ⊢;cases r with
  | tup h b l e=>
    refine .tup h b l λ i v d h1 h2=> ?_;have:=e i v d h1 h2;obtain ⟨k,_,rfl⟩:=List.mem_map.mp (List.mem_of_getElem? h2);cases this;exact .str _
theorem Nc {H:Hp} {F F':Addr->Prop} {n:Nat} {v:V} {ls:List (List Nat)} (r:Rp H F n v (dTT ls)):Rp H F' n v (dTT ls):=by
  unfold dTT at r ⊢;cases r with
  | tup h b l e=>
    refine .tup h b l λ i v d h1 h2=> ?_;have:=e i v d h1 h2;obtain ⟨k,_,rfl⟩:=List.mem_map.mp (List.mem_of_getElem? h2);exact UC this
theorem Thn.rp {xs:List Addr} {H:Hp} (t:Thn xs H) {n:Nat} {v:V} {d:Dt} (r:Rp H (λ _=>False) n v d):Rp (wo xs H) FT n v d:=by
  induction r with
  | non=>exact .non
  | bl b=>exact .bl b
  | int i=>exact .int i
  | str z=>exact .str z
  | lst h f b l e ih=>exact f.elim
  | tup h b l e ih=>exact .tup (t.of h (λ z=>by cases z) (λ _ z=>by cases z)) b l λ i v d h1 h2=>ih i v d h1 h2
theorem Thn.dr {xs:List Addr} {H:Hp} (t:Thn xs H) {C y:Addr} {d:Dr} (h:DrAt C H y d):DrAt C (wo xs H) y d:=by
  obtain ⟨dx,v1,v2,v3,v4,v5,h0,h1,h2,h3,h4,h5⟩:=h;exact ⟨dx,v1,v2,v3,v4,v5,t.of h0 (λ z=>by cases z) (λ _ z=>by cases z),t.rp (UC h1),t.rp (Nc h2),t.rp (Nc h3),t.rp (P8 h4),t.rp (P8 h5)⟩
theorem Thn.lm {xs:List Addr} {H:Hp} (t:Thn xs H) {c:Cs} {x l:Addr} {d:Dr} {f:Ft} (ok:DrOk d) (h:LmAt c H x d f l) (hl:l∈xs):LmAt c (wo xs H) x d f l:=by
  obtain ⟨dx,g,v,h0,h1,h2⟩:=h.out;obtain ⟨dg,t1,t2,g0,g1,g2⟩:=h1;have e:bar l (wo xs H)=wo xs H:=by
    funext b;unfold bar;split
    · rename_i z
      rw [z,Gv hl]
    · rfl
  unfold LmAt;rw [e];have s1:=ok.s1;have i1:=ok.il;have t1':=ok.t1;refine ⟨dx,g,v,t.of h0 (λ z=>by cases z) (λ _ z=>by cases z),⟨dg,t1,t2,t.of g0 (λ z=>by cases z) (λ _ z=>by cases z),t.of g1 (λ z=> ?_) (λ _ z=>by cases z),t.of g2 (λ z=> ?_) (λ _ z=>by cases z)⟩,t.rp (Nc h2)⟩
  · injection z with z;have:=congrArg List.length z;simp at this;rw [this] at i1;simp at i1;omega
  · injection z with z;have:=congrArg List.length z;simp at this;omega
theorem Q5 {H H':Hp} {T:Addr} {t:Array Value} {n:Nat} {v:V} {d:Dt} (r:Rp H FT n v d) (hT:H T=some (.tbl t)) (s:Same (bar T H) H'):Rp H' FT n v d:=by
  induction r with
  | non=>exact .non
  | bl b=>exact .bl b
  | int i=>exact .int i
  | str z=>exact .str z
  | lst h f b l e ih=>exact .lst (s _ _ (Kx h hT (λ z=>by cases z))) f b l λ i v d h1 h2=>ih i v d h1 h2
  | tup h b l e ih=>exact .tup (s _ _ (Kx h hT (λ z=>by cases z))) b l λ i v d h1 h2=>ih i v d h1 h2
noncomputable def f3 (x y z:α) (k:Nat):α:=if k=0 then x else if k=1 then y else z
structure Stt (R H:Hp) (TT:Addr) (L Q:Nat->Addr) (d:Dr) (F:Nat->Ft) (m:Nat->Nat):Prop where
  sm:Same R H
  lam:LamT H TT lq
  l:∀ j,j<3->H (L j)=some (.lst ((AU d (F j) (m j)).map nV))
  q:∀ j,j<3->H (Q j)=some (.lst ((AU d (F j) (m j)).map nV))
theorem Stt.same {R H H':Hp} {TT:Addr} {L Q:Nat->Addr} {d:Dr} {F:Nat->Ft} {m:Nat->Nat} (h:Stt R H TT L Q d F m) (s:Same H H'):Stt R H' TT L Q d F m:=
  ⟨h.sm.trans s,h.lam.same s,λ j hj=>s _ _ (h.l j hj),λ j hj=>s _ _ (h.q j hj)⟩
theorem Stt.go {R H H':Hp} {TT:Addr} {L Q:Nat->Addr} {d:Dr} {F:Nat->Ft} {m:Nat->Nat} (h:Stt R H TT L Q d F m) (rT:R TT=none) (lam:LamT H' TT lq) (go:∀ b o,b≠TT->H b=some o->H' b=some o):Stt R H' TT L Q d F m:=by
  obtain ⟨ps,hT,_⟩:=h.lam;exact ⟨λ b o e=>go b o (λ z=>by rw [z,rT] at e;cases e) (h.sm b o e),lam,λ j hj=>go _ _ (λ z=>by have:=h.l j hj;rw [z,hT] at this;cases this) (h.l j hj),λ j hj=>go _ _ (λ z=>by have:=h.q j hj;rw [z,hT] at this;cases this) (h.q j hj)⟩
theorem Stt.step {R H H':Hp} {TT:Addr} {L Q:Nat->Addr} {d:Dr} {F:Nat->Ft} {m m':Nat->Nat} {k:Nat} (hk:k<3) (h:Stt R H TT L Q d F m) (rl:∀ j,j<3->R (L j)=none) (rq:∀ j,j<3->R (Q j)=none) (n1:∀ i j,i<3->j<3->L i≠Q j) (n2:∀ i j,i<3->j<3->i≠j->L i≠L j) (n3:∀ i j,i<3->j<3->i≠j->Q i≠Q j)
    (s:Same (bar (L k) (bar (Q k) H)) H') (hl:H' (L k)=some (.lst ((AU d (F k) (m' k)).map nV))) (hq:H' (Q k)=some (.lst ((AU d (F k) (m' k)).map nV))) (hm:∀ j,j≠k->m' j=m j):Stt R H' TT L Q d F m':=by
  have hL:=h.l k hk;have hQ:=h.q k hk;have ob:∀ b o,H b=some o->b≠L k->b≠Q k->H' b=some o:=λ b o e z1 z2=>s _ _ (Hm (Hm e z2) z1);have no:∀ b o,H b=some o->(∀ xs,o≠ .lst xs)->H' b=some o:=λ b o e z=>ob b o e (λ y=>by rw [y,hL] at e;cases e;exact z _ rfl) (λ y=>by rw [y,hQ] at e;cases e;exact z _ rfl);refine ⟨λ b o e=>ob b o (h.sm b o e) (λ y=>by rw [y,rl k hk] at e;cases e) (λ y=>by rw [y,rq k hk] at e;cases e),?_,λ j hj=> ?_,λ j hj=> ?_⟩
  · obtain ⟨ps,h1,h2,h3⟩:=h.lam;refine ⟨ps,no _ _ h1 (λ _ z=>by cases z),h2,λ p cv e=> ?_⟩;obtain ⟨c',oc,e1,e2,e3⟩:=h3 p cv e;exact ⟨c',oc,e1,no _ _ e2 (λ _ z=>by cases z),e3⟩
  · by_cases z:j=k
    · rw [z];exact hl
    · rw [hm j z];exact ob _ _ (h.l j hj) (n2 _ _ hj hk z) (n1 _ _ hj hk)
  · by_cases z:j=k
    · rw [z];exact hq
    · rw [hm j z];exact ob _ _ (h.q j hj) (n1 _ _ hk hj).symm (n3 _ _ hj hk z)
noncomputable abbrev IF:Stmt:=top 76
theorem sc_law:FnScope ["_law_script","_law_told","_law_whole_here","_law_some","_law_faults","_law_handed","_law_done","_law_turn","_law_k","_law_fault","_law_rows","_law_odd","_law_draft_here","_law_loom","_law_wrong"] ["_law_script"] (Af IF):=⟨rfl,rfl,rfl,by decide +kernel,rfl,by decide +kernel,by decide +kernel⟩
theorem QL {f:Addr} {fd:FuncData} {cc TT:Addr} (hc:fd.code= .ref cc) (hd:PySem.W.CodeHd base cc TT) (hbt:base.BuiltinsAt mg TT) (F:Fun K "law" "law" IF f fd) (T:Txt K mg c) (c__law_draft:Aw P w K mg base "_law_draft" 2 ["_law_script","_law_most"] (Er K)) (c__law_made:Aw P w K mg base "_law_made" 8 ["_law_told"] (E9 c)) (c__law_whole:Aw P w K mg base "_law_whole" 1 ["_law_script"] (Ev K)) (c__law_all_faults:Aw P w K mg base "_law_all_faults" 1 ["_law_told"] B9) (c__law_mixed:Aw P w K mg base "_law_mixed" 1 ["_law_cell","_law_k"] CA) (m_Loom:MakeD P w K mg base "Loom" c.Loom 8 ["self","draft","fault"] (A9 K c)) (d_Loom_pick:BE P w K mg base c.Loom "pick" 1 ["self"] (B1 c)) (d_Loom_cloth:Ki P w K mg base c.Loom "cloth" 6 ["self"] (Bo c)) (c__law_caught:JB P w K mg base "_law_caught" 12 10 (Ed K c)) (c__law_steps:Aw P w K mg base "_law_steps" 7 ["_law_loom","_law_told","_law_fault","_law_done"] (Eu c)) (c_woven_with:LL P w K mg base "woven_with" 10 ["draft","fault"] (Ex K c)) (d_Cloth_told:BE P w K mg base c.Cloth "told" 1 ["self"] (BM c)) (d_Draft_told:BE P w K mg base c.Draft "told" 1 ["self"] (Ep c)):FnOk P w K mg base CX0 13 f fd ["_law_script"] (Jc K TT):=by
  refine Fun.okL F hc sc_law (λ vs H Q E h=> ?_) (λ A outer s H vs Q E hr h=> ?_)
  · obtain ⟨a,ns,rfl,_⟩:=h;rfl
  · obtain ⟨a,ns,rfl,sa,hl,hT,kEnd⟩:=h;have hu:=hr.units0;refine ⟨_,(Ad (Ao (i:=1) sc_law.nd rfl (Or.inl rfl) (Ag c__law_draft (hr.mono (by decide)) (Aa (pv 0) (Aa Ae Ab))))
      (Ad (Ao (i:=12) sc_law.nd rfl (Or.inr rfl) (Ag c__law_made (hr.mono (by decide)) (Aa (pv 1) Ab)))
      (Ad (Ao (i:=2) sc_law.nd rfl (Or.inl rfl) (Ag c__law_whole (hr.mono (by decide)) (Aa (pv 0) Ab)))
      (Ad (Ao (i:=3) sc_law.nd rfl (Or.inl rfl) (Ag c__law_all_faults (hr.mono (by decide)) (Aa (pv 1) Ab)))
      (Ad (Ao (i:=4) sc_law.nd rfl (Or.inl rfl) (AS (Aa (At (Cl (K:=K)) (pv 3) (Ak A8 (Ag c__law_mixed (hr.mono (by decide)) (Aa (pv 2) (Aa Ae Ab))) (Al (Bd (K:=K)) rfl (T.own _ (by decide)) boot_len (Aa (pv 3) Ab))) (λ _ _=>rfl)) (Aa (At (Cl (K:=K)) (pv 3) (Ak A8 (Ag c__law_mixed (hr.mono (by decide)) (Aa (pv 2) (Aa Ae Ab))) (Al (Bd (K:=K)) rfl (T.own _ (by decide)) boot_len (Aa (pv 3) Ab))) (λ _ _=>rfl)) (Aa (AB (Aa Ap Ab)) Ab)))))
      (Ad (Ao (i:=5) sc_law.nd rfl (Or.inl rfl) (AS (Aa (DO m_Loom.toE (hr.mono (by decide)) Kb (Aa (pv 12) (Aa (At (Cl (K:=K)) (pv 4) Ae (λ _ _=>rfl)) Ab))) (Aa (DO m_Loom.toE (hr.mono (by decide)) Kb (Aa (pv 12) (Aa (At (Cl (K:=K)) (pv 4) Ae (λ _ _=>rfl)) Ab))) (Aa (N6 m_Loom (hr.mono (by decide)) Kb (Aa (pv 12) Ab)) Ab)))))
      (Ad (Ao (i:=6) sc_law.nd rfl (Or.inl rfl) (AS (Aa (AS Ab) (Aa (AS Ab) (Aa (AS Ab) Ab)))))
      (Ad (BW PassesOwn.never rfl (BC (K:=K) (pv 5)) (AO (i:=13) sc_law.nd rfl (Or.inr rfl)) (Ah (A7 (PW.pt (IC (As Lr (Bj (pv 13) d_Loom_pick (hr.mono (by decide))) Ae (Ay _)) (GZ (As (Qs hu (K:=K)) (EM c__law_caught hr ⟨rfl,hd,hbt⟩ ["_law_loom"] [13] (λ _ _ _ _ _ _ _ _ hrL=>(FF (pv 0) d_Loom_cloth (hrL.mono (by decide)) (NL λ _ _ _ h=>h))) (show BZ _ _ _ ["_law_script","_law_told","_law_whole_here","_law_some","_law_faults","_law_handed","_law_done","_law_turn","_law_k","_law_fault","_law_rows","_law_odd","_law_draft_here","_law_loom","_law_wrong"] (Af IF).names=true by decide +kernel)) (AS (Aa Ap Ab)) (Ay _))))) (Ah (An ED)) Az)))
      (Ad (BW PassesOwn.never rfl (Bi rfl (T.own _ (by decide)) (Aa (Ak AG (Al (Bd (K:=K)) rfl (T.own _ (by decide)) boot_len (Aa (At (AE (K:=K)) (pv 1) Ae (λ _ _=>rfl)) Ab)) Ae) Ab)) (AO (i:=7) sc_law.nd rfl (Or.inl rfl)) (Ah (BW PassesOwn.never rfl (Bi rfl (T.own _ (by decide)) (Aa Ae Ab)) (AO (i:=8) sc_law.nd rfl (Or.inl rfl)) (Ah (A7 (Cn (Bs (Ag c__law_steps (hr.mono (by decide)) (Aa (At (Cl (K:=K)) (pv 5) (pv 8) (λ _ _=>rfl)) (Aa (pv 1) (Aa (At (Cl (K:=K)) (pv 4) (pv 8) (λ _ _=>rfl)) (Aa (At (Cl (K:=K)) (pv 6) (pv 8) (λ _ _=>rfl)) Ab))))))) (Ah (An ED)) Az)))))
      (Ad (BW PassesOwn.never rfl (SC (K:=K) rfl (T.own _ (by decide)) (Aa (Ak (CQ (K:=K)) (CV (Qi (K:=K)) (pv 4) Eo (Ei Ae)) (AS (Aa Cv Ab))) (Aa (pv 6) Ab))) (GG (K:=K) rfl (A2 (AO (i:=9) sc_law.nd rfl (Or.inl rfl)) (A2 (AO (i:=10) sc_law.nd rfl (Or.inl rfl)) En))) (Ah (A7 (PW.pt (IC (As (Lk hr.units) (Bj (G1 c_woven_with (hr.mono (by decide)) Kb (Aa (pv 12) (Aa (pv 9) Ab))) d_Cloth_told (hr.mono (by decide))) (AB (Aa (Al (Bd (K:=K)) rfl (T.own _ (by decide)) boot_len (Aa (At (AE (K:=K)) (pv 1) Ae (λ _ _=>rfl)) Ab)) (Aa (pv 10) Ab))) (Ay _)) (GZ (As (Lk hr.units) (Bj (pv 12) d_Draft_told (hr.mono (by decide))) (pv 1) (Ay _))))) (Ah (An ED)) Az)))
      (Ad (Ao (i:=11) sc_law.nd rfl (Or.inl rfl) (AS (Aa Ap (Aa Ae (Aa ED (Aa (AB (Aa Ap Ab)) (Aa (AB (Aa Ap (Aa Ae Ab))) (Aa (AB (Aa Ap (Aa (Ak AG (Al (Bd (K:=K)) rfl (T.own _ (by decide)) boot_len (Aa (At (AE (K:=K)) (pv 1) Ae (λ _ _=>rfl)) Ab)) Ae) Ab))) (Aa (AS (Aa Ap (Aa Ae Ab))) (Aa (AB (Aa Ap (Aa Ae Ab))) (Aa Oa (Aa (AB (Aa Ap (Aa Ae Ab))) Ab))))))))))))
      (Ad (Ao (i:=14) sc_law.nd rfl (Or.inr rfl) (At (Cl (K:=K)) (pv 11) (Ak A8 (Ag c__law_mixed (hr.mono (by decide)) (Aa (pv 2) (Aa Ae Ab))) Ae) (λ _ _=>rfl)))
      (Ad (A7 (As (Qs hu (K:=K)) (EM c__law_caught hr ⟨rfl,hd,hbt⟩ ["_law_draft_here","_law_wrong"] [12,14] (λ _ _ _ _ _ _ _ _ hrL=>(DO m_Loom.toE (hrL.mono (by decide)) (NL λ _ _ _ h=>h) (Aa (pv 0) (Aa (pv 1) Ab)))) (show BZ _ _ _ ["_law_script","_law_told","_law_whole_here","_law_some","_law_faults","_law_handed","_law_done","_law_turn","_law_k","_law_fault","_law_rows","_law_odd","_law_draft_here","_law_loom","_law_wrong"] (Af IF).names=true by decide +kernel)) (AS (Aa Ap Ab)) (Ay _)) (Ah (An ED)) Az)
      (Ah (An (BN (P3 hu (K:=K)) (EM c__law_caught hr ⟨rfl,hd,hbt⟩ ["_law_draft_here","_law_wrong"] [12,14] (λ _ _ _ _ _ _ _ _ hrL=>(G1 c_woven_with (hrL.mono (by decide)) (NL λ _ _ _ h=>h) (Aa (pv 0) (Aa (pv 1) Ab)))) (show BZ _ _ _ ["_law_script","_law_told","_law_whole_here","_law_some","_law_faults","_law_handed","_law_done","_law_turn","_law_k","_law_fault","_law_rows","_law_odd","_law_draft_here","_law_loom","_law_wrong"] (Af IF).names=true by decide +kernel)) (AS (Aa Ap Ab)) (Ay _))))))))))))))))),?_⟩
    walk_at "w";refine ⟨a,ns,16,rfl,sa,hl,by decide,by decide,λ H1 p d s1 hp rd ok=> ?_⟩;walk_at "w";have p1:=ok.p1;have p2:=ok.p2;have h2:=ok.h2;refine ⟨_,d,rfl,rd.mono (λ _ _ q _=>q) (λ _ _=>trivial),ok,λ H2 y s2 hy D2=> ?_⟩;walk_at "w";refine ⟨a,ns,rfl,(s1.trans s2).seq sa,hl,λ H3 W s3=> ?_⟩;walk_at "w";refine ⟨_,d,rfl,(rd.mono (λ _ _ q _=>q) (λ _ _=>trivial)).same (s2.trans s3),ok,λ H4 ps ws s4 hps hw4 fs lws=> ?_⟩;have rd4:Rp H4 FT 3 (.ref p) (dDr d):=(rd.mono (λ _ _ q _=>q) (λ _ _=>trivial)).same (s2.trans (s3.trans s4));have D4:=D2.same (s3.trans s4);have s04:Same H H4:=s1.trans (s2.trans (s3.trans s4));have hT4:=s04 _ _ hT;have lf:=O4 ok;have lw:ws.length=(BU d).length:=fs.len;have pick:∀ m:Int,∃ b f,atI ws (m%((ws.length:Nat):Int))=some (.ref b)/\H4 b=some (.tup (fV f))/\f∈BU d/\f.2.length<=10:=λ m=>by
      have b1:=Int.emod_nonneg m (show ((ws.length:Nat):Int)≠0 by omega);have b2:=Int.emod_lt_of_pos m (show (0:Int)<((ws.length:Nat):Int) by omega);obtain ⟨j,hj⟩:∃ j:Nat,m%((ws.length:Nat):Int)=(j:Nat):=⟨(m%((ws.length:Nat):Int)).toNat,by omega⟩;rw [hj] at b2 ⊢;have hj1:j<ws.length:=by omega
      obtain ⟨b,eb,hb,lb⟩:=fs.el j ws[j] (BU d)[j] (List.getElem?_eq_getElem hj1) (List.getElem?_eq_getElem (by omega));exact ⟨b,(BU d)[j],Am (j:=j) (by rw [List.getElem?_eq_getElem hj1,eb]),hb,List.getElem_mem _,lb⟩
    clear rd D2 s1 s2 s3 s4;walk_at "w";refine ⟨W,50,rfl,⟨by decide,by decide⟩,?_⟩;walk_at "w";refine AQ (SqL.of hw4) ?_;walk_at "w";refine AH (by show (0:Int)<_;omega) ?_;obtain ⟨b0,f0,at0,hb0,m0,lb0⟩:=pick (BF W 50);refine Bk (SqL.of hw4) at0 ?_;walk_at "w";refine ⟨W,51,rfl,⟨by decide,by decide⟩,?_⟩;walk_at "w";refine AQ (SqL.of hw4) ?_;walk_at "w";refine AH (by show (0:Int)<_;omega) ?_;obtain ⟨b1,f1,at1,hb1,m1,lb1⟩:=pick (BF W 51);refine Bk (SqL.of hw4) at1 ?_;walk_at "w";row_lines H4 x5;walk_at "w";row_lines H5 x6;walk_at "w";have s46:=s5.trans s6;have fq:∀ {b:Addr} {f:Ft} {G:Hp},Same H4 G->H4 b=some (.tup (fV f))->f∈BU d->f.2.length<=10->FvQ K d G (.ref b) f:=λ {b f G} s hb hm lb=>⟨.inl ⟨b,rfl,s _ _ hb,GS ok hm⟩, .inr (FV (s _ _ hb) hm lb)⟩;refine Bk (v:= .ref b0) (SqL.of g6) (Am (j:=0) rfl) ?_;walk_at "w";refine LB (D4.same s46) ok (fq s46 hb0 m0 lb0) λ H7 x0 l0 s7 hx0 hl0 gl0 lm0=> ?_;have s47:=s46.trans s7;walk_at "w";refine Bk (v:= .ref b1) (SqL.of (s7 _ _ g6)) (Am (j:=1) rfl) ?_;walk_at "w";refine LB (D4.same s47) ok (fq s47 hb1 m1 lb1) λ H8 x1 l1 s8 hx1 hl1 gl1 lm1=> ?_;have s48:=s47.trans s8;walk_at "w";refine NC ?_;walk_at "w";refine LB (f:=nF) (D4.same s48) ok ⟨.inr ⟨rfl,rfl⟩, .inl rfl⟩ λ H9 x2 l2 s9 hx2 hl2 gl2 lm2=> ?_;have s49:=s48.trans s9;walk_at "w";row_lines H9 x10;walk_at "w";row_lines H10 x11;walk_at "w";row_lines H11 x12;walk_at "w";row_lines H12 x13;walk_at "w";row_lines H13 x14;walk_at "w";have s9E:=s10.trans (s11.trans (s12.trans (s13.trans s14)));have s4E:=s49.trans s9E;have eT:=s4E _ _ hT4;have eD:=D4.same s4E;have eP:=rd4.same s4E;have eF:H14 p6=some (.lst [V.ref b0,V.ref b1,V.ref p5]):=s9E _ _ ((s7.trans (s8.trans s9)) _ _ g6);have eB0:=s4E _ _ hb0;have eB1:=s4E _ _ hb1;have eB2:H14 p5=some (.tup (fV nF)):=((s6.trans (s7.trans (s8.trans s9))).trans s9E) _ _ g5;have eH:H14 p10=some (.lst [V.ref x0,V.ref x1,V.ref x2]):=(s11.trans (s12.trans (s13.trans s14))) _ _ g10;have eQ0:=(s12.trans (s13.trans s14)) _ _ g11;have eQ1:=(s13.trans s14) _ _ g12;have eQ2:=s14 _ _ g13;have eL0:=(s8.trans (s9.trans s9E)) _ _ gl0;have eL1:=(s9.trans s9E) _ _ gl1;have eL2:=s9E _ _ gl2;have eM0:=lm0.same (s8.trans (s9.trans s9E));have eM1:=lm1.same (s9.trans s9E);have eM2:=lm2.same s9E;have L14:LamT H14 TT lq:=MJ eT;have thn:Thn [TT,l0,l1,l2,p11,p12,p13] H14:=λ b hb=>by
      simp only [List.mem_cons,List.not_mem_nil,or_false] at hb;rcases hb with rfl | rfl | rfl | rfl | rfl | rfl | rfl
      · exact ⟨_,eT, .inr ⟨_,rfl⟩⟩
      · exact ⟨_,eL0, .inl rfl⟩
      · exact ⟨_,eL1, .inl rfl⟩
      · exact ⟨_,eL2, .inl rfl⟩
      · exact ⟨_,eQ0, .inl rfl⟩
      · exact ⟨_,eQ1, .inl rfl⟩
      · exact ⟨_,eQ2, .inl rfl⟩
    have rT:wo [TT,l0,l1,l2,p11,p12,p13] H14 TT=none:=Gv (by simp);have rl:∀ j,j<3->wo [TT,l0,l1,l2,p11,p12,p13] H14 (f3 l0 l1 l2 j)=none:=λ j hj=>Gv (by
      match j,hj with
      | 0,_=>simp [f3]
      | 1,_=>simp [f3]
      | 2,_=>simp [f3])
    have rq:∀ j,j<3->wo [TT,l0,l1,l2,p11,p12,p13] H14 (f3 p11 p12 p13 j)=none:=λ j hj=>Gv (by
      match j,hj with
      | 0,_=>simp [f3]
      | 1,_=>simp [f3]
      | 2,_=>simp [f3])
    have hne:∀ {x z:Addr} {o:HO} {G:Hp},G x=some o->G z=none->x≠z:=λ h n=>Av h n;have n1:∀ i j,i<3->j<3->f3 l0 l1 l2 i≠f3 p11 p12 p13 j:=λ i j hi hj=>by
      have a0:H10 l0=some (.lst []):=(s8.trans (s9.trans s10)) _ _ gl0;have a1:H10 l1=some (.lst []):=(s9.trans s10) _ _ gl1;have a2:H10 l2=some (.lst []):=s10 _ _ gl2;have b1:H10 p12=none:=s11.free n12;have b2:H10 p13=none:=(s11.trans s12).free n13
      match i,hi,j,hj with
      | 0,_,0,_=>exact hne a0 n11
      | 0,_,1,_=>exact hne a0 b1
      | 0,_,2,_=>exact hne a0 b2
      | 1,_,0,_=>exact hne a1 n11
      | 1,_,1,_=>exact hne a1 b1
      | 1,_,2,_=>exact hne a1 b2
      | 2,_,0,_=>exact hne a2 n11
      | 2,_,1,_=>exact hne a2 b1
      | 2,_,2,_=>exact hne a2 b2
    have n2:∀ i j,i<3->j<3->i≠j->f3 l0 l1 l2 i≠f3 l0 l1 l2 j:=λ i j hi hj n=>by
      have c1:l0≠l1:=hne gl0 hl1;have c2:l0≠l2:=hne (s8 _ _ gl0) hl2;have c3:l1≠l2:=hne gl1 hl2
      match i,hi,j,hj with
      | 0,_,0,_=>exact absurd rfl n
      | 0,_,1,_=>exact c1
      | 0,_,2,_=>exact c2
      | 1,_,0,_=>exact c1.symm
      | 1,_,1,_=>exact absurd rfl n
      | 1,_,2,_=>exact c3
      | 2,_,0,_=>exact c2.symm
      | 2,_,1,_=>exact c3.symm
      | 2,_,2,_=>exact absurd rfl n
    have n3:∀ i j,i<3->j<3->i≠j->f3 p11 p12 p13 i≠f3 p11 p12 p13 j:=λ i j hi hj n=>by
      have c1:p11≠p12:=hne g11 n12;have c2:p11≠p13:=hne (s12 _ _ g11) n13;have c3:p12≠p13:=hne g12 n13
      match i,hi,j,hj with
      | 0,_,0,_=>exact absurd rfl n
      | 0,_,1,_=>exact c1
      | 0,_,2,_=>exact c2
      | 1,_,0,_=>exact c1.symm
      | 1,_,1,_=>exact absurd rfl n
      | 1,_,2,_=>exact c3
      | 2,_,0,_=>exact c2.symm
      | 2,_,1,_=>exact c3.symm
      | 2,_,2,_=>exact absurd rfl n
    have rD:=thn.dr eD;have rP:Rp (wo [TT,l0,l1,l2,p11,p12,p13] H14) FT 3 (.ref p) (dDr d):=Q5 rd4 hT4 λ b o e=>Qn (s4E _ _ (BQ _ _ e)) λ z=>by
      have e4:=BQ _ _ e;have f11:H4 p11=none:=(s49.trans s10).free n11;have f12:H4 p12=none:=(s49.trans (s10.trans s11)).free n12;have f13:H4 p13=none:=(s49.trans (s10.trans (s11.trans s12))).free n13;have f0:H4 l0=none:=s46.free hl0;have f1:H4 l1=none:=s47.free hl1;have f2:H4 l2=none:=s48.free hl2;simp only [List.mem_cons,List.not_mem_nil,or_false] at z;rcases z with rfl | rfl | rfl | rfl | rfl | rfl | rfl
      · rw [Ke] at e;cases e
      all_goals simp_all
    have rF:=thn.of eF (λ z=>by cases z) (λ _ z=>by cases z);have rH:=thn.of eH (λ z=>by cases z) (λ _ z=>by cases z);have rO:=thn.of g14 (λ z=>by cases z) (λ _ z=>by cases z);have rB:∀ k,k<3->wo [TT,l0,l1,l2,p11,p12,p13] H14 (f3 b0 b1 p5 k)=some (.tup (fV (f3 f0 f1 nF k))):=λ k hk=>by
      match k,hk with
      | 0,_=>exact thn.of eB0 (λ z=>by cases z) (λ _ z=>by cases z)
      | 1,_=>exact thn.of eB1 (λ z=>by cases z) (λ _ z=>by cases z)
      | 2,_=>exact thn.of eB2 (λ z=>by cases z) (λ _ z=>by cases z)
    have rM:∀ k,k<3->LmAt c (wo [TT,l0,l1,l2,p11,p12,p13] H14) (f3 x0 x1 x2 k) d (f3 f0 f1 nF k) (f3 l0 l1 l2 k):=λ k hk=>by
      match k,hk with
      | 0,_=>exact thn.lm ok eM0 (by simp [f3])
      | 1,_=>exact thn.lm ok eM1 (by simp [f3])
      | 2,_=>exact thn.lm ok eM2 (by simp [f3])
    have fkn:∀ k,k<3->FKn d (f3 f0 f1 nF k):=λ k hk=>by
      match k,hk with
      | 0,_=>exact .inl (GS ok m0)
      | 1,_=>exact .inl (GS ok m1)
      | 2,_=>exact .inr rfl
    have S0:Stt (wo [TT,l0,l1,l2,p11,p12,p13] H14) H14 TT (f3 l0 l1 l2) (f3 p11 p12 p13) d (f3 f0 f1 nF) (λ _=>0):=⟨Ox,L14,λ j hj=>by
      match j,hj with
      | 0,_=>exact eL0
      | 1,_=>exact eL1
      | 2,_=>exact eL2,λ j hj=>by
      match j,hj with
      | 0,_=>exact eQ0
      | 1,_=>exact eQ1
      | 2,_=>exact eQ2⟩
    generalize wo [TT,l0,l1,l2,p11,p12,p13] H14=R at rT rl rq rD rP rF rH rO rB rM S0;clear thn eD eP eF eB0 eB1 eB2 eQ0 eQ1 eQ2 eL0 eL1 eL2 eM0 eM1 eM2 L14 eT s4E s9E lm0 lm1 lm2 gl0 gl1 gl2 g5 g6 g10 g11 g12 g13 g14 s5 s6 s7 s8 s9 s10 s11 s12 s13 s14 s46 s47 s48 s49 n5 n6 n10 n11 n12 n13 n14 hl0 hl1 hl2 hx0 hx1 hx2 hT4 hw4 hT pick hb0 hb1 at0 at1 fq D4 rd4 s04 fs;refine ⟨p10,rfl,⟨_,SqL.of (S0.sm _ _ rH)⟩,EZ (H0:=R) (Je (SqL.of rH)) (λ i σ H3=>∃ v,σ=[some (.ref a),some (.ref p),some (.int W),some (.ref ps),some (.ref p6),some (.ref p10),some (.ref p14),none,none,none,none,none,some (.ref y),v,none]/\Stt R H3 TT (f3 l0 l1 l2) (f3 p11 p12 p13) d (f3 f0 f1 nF) (λ _=>0)) ⟨_,rfl,S0⟩ (λ i σ H3 ⟨_,_,s⟩=>s.sm) ?_ ?_⟩
    · rintro i σ H' H15 hi3 ⟨v',rfl,S'⟩ s15;have hi:i<3:=hi3;have S15:=S'.same s15;have ex:[V.ref x0,V.ref x1,V.ref x2].getD i .non= .ref (f3 x0 x1 x2 i):=by
        match i,hi with
        | 0,_=>rfl
        | 1,_=>rfl
        | 2,_=>rfl
      rw [ex];have lm:=rM i hi;have lm15:=lm.same S15.sm;generalize f3 x0 x1 x2 i=x at lm lm15;obtain ⟨dx,g,v,hx,_,_⟩:=lm15.out;walk_at "w";refine ⟨_,_,_,rfl,hx,rfl,?_⟩;walk_at "w";refine ⟨x,d,_,_,[],rfl,lm15,S15.l i hi,?_⟩;walk_at "w";rw [decide_eq_true (show ((([]:List Nat).length:Nat):Int)=0 from rfl)];walk_at "w";refine FH S15.lam [.ref x] rfl (λ i j h=> ?_) λ H16 L16 go=> ?_
      · match i,h with
        | 0,h=>cases h;exact ⟨_,rfl,rfl⟩
      have S16:=S15.go rT L16 go;have lm16:=lm.same S16.sm;obtain ⟨dx,g,v,hx16,_,_⟩:=lm16.out;refine ⟨λ C od H1=>C=c.OutOfPlace/\od=none/\H1=H16,λ E' R' hE=> ?_,?_⟩
      · walk_at "w";refine Ks ?_;walk_at "w";refine ⟨_,_,_,rfl,hx16,rfl,?_⟩;walk_at "w";exact ⟨x,d,_,_,[],rfl,lm16,S16.l i hi, .inl ⟨rfl,hE _ _ _ ⟨rfl,rfl,rfl⟩⟩⟩
      rintro C od H1 ⟨rfl,rfl,rfl⟩;refine ⟨T.xm_OutOfPlace_LoomError,7,Nx T,λ H17 l s17 g17=> ?_⟩;walk_at "w";row_lines H17 x18;walk_at "w";refine Lv (as:=[nmK 7]) (bs:=["place"]) (SqL.of (s18 _ _ g17)) (SqL.of g18) ?_;walk_at "w";rw [decide_eq_true (show [nmK 7]=[("place":Str)] from rfl)];walk_at "w";exact ⟨_,rfl,S16.same (s17.trans s18)⟩
    · rintro σ H15 ⟨v',rfl,S15⟩;clear S0;have rvH:=rP.same S15.sm;obtain ⟨mv,av,vvs,emv,eav,hav,lav,bav,elv⟩:=BX rvH;cases emv;cases eav
      match vvs,lav,hav,elv with
      | [u0,u1,u2,u3,u4,u5,u6],_,hav,elv=>
      have r4:Rp H15 FT 2 u4 (dLL d.td):=elv 4 (by show 4<7;decide);obtain ⟨m4,a4,vs4,em4,ea4,h4,_,l4,b4,el4⟩:=BG r4;subst ea4;rw [List.length_map] at l4;walk_at "w";refine Ar (v:= .ref a4) (SqT.of hav) (Am (j:=4) rfl) ?_;walk_at "w";refine AQ (SqL.of h4) ?_;rw [l4];walk_at "w";refine ⟨_,rfl,by omega,by omega,?_⟩;rw [show (((d.td.length:Nat):Int)+2).toNat=d.td.length+2 by omega];refine EZ (H0:=R) (IX (n:=d.td.length+2)) (λ t σ H3=>∃ v1 v2,σ=[some (.ref a),some (.ref p),some (.int W),some (.ref ps),some (.ref p6),some (.ref p10),some (.ref p14),v1,v2,none,none,none,some (.ref y),v',none]/\Stt R H3 TT (f3 l0 l1 l2) (f3 p11 p12 p13) d (f3 f0 f1 nF) (λ _=>min t d.td.length)) ⟨_,_,rfl,by rw [Nat.zero_min];exact S15⟩ (λ i σ H3 ⟨_,_,_,s⟩=>s.sm) ?_ ?_
      · rintro t σ H' H16 ht ⟨v1,v2,rfl,S'⟩ s16;have S16:=S'.same s16;walk_at "w";refine ⟨3,rfl,by decide,by decide,?_⟩;refine EZ (H0:=R) (IX (n:=3)) (λ k σ H3=>∃ v2,σ=[some (.ref a),some (.ref p),some (.int W),some (.ref ps),some (.ref p6),some (.ref p10),some (.ref p14),some (nV t),v2,none,none,none,some (.ref y),v',none]/\Stt R H3 TT (f3 l0 l1 l2) (f3 p11 p12 p13) d (f3 f0 f1 nF) (λ j=>if j<k then min (t+1) d.td.length else min t d.td.length)) ⟨_,rfl,by simpa using S16⟩ (λ i σ H3 ⟨_,_,s⟩=>s.sm) ?_ ?_
        · rintro k σ H' H17 hk ⟨v3,rfl,S'⟩ s17;have S17:=S'.same s17;clear S' s17;have ex:atI [V.ref x0,V.ref x1,V.ref x2] ((k:Nat):Int)=some (.ref (f3 x0 x1 x2 k)):=Am (j:=k) (by
            match k,hk with
            | 0,_=>rfl
            | 1,_=>rfl
            | 2,_=>rfl)
          have eb:atI [V.ref b0,V.ref b1,V.ref p5] ((k:Nat):Int)=some (.ref (f3 b0 b1 p5 k)):=Am (j:=k) (by
            match k,hk with
            | 0,_=>rfl
            | 1,_=>rfl
            | 2,_=>rfl)
          have eq:atI [V.ref p11,V.ref p12,V.ref p13] ((k:Nat):Int)=some (.ref (f3 p11 p12 p13 k)):=Am (j:=k) (by
            match k,hk with
            | 0,_=>rfl
            | 1,_=>rfl
            | 2,_=>rfl)
          walk_at "w";refine Bk (SqL.of (S17.sm _ _ rH)) ex ?_;walk_at "w";refine Bk (SqL.of (S17.sm _ _ rF)) eb ?_;walk_at "w";refine Bk (SqL.of (S17.sm _ _ rO)) eq ?_;walk_at "w";have sR:Same R (bar (f3 l0 l1 l2 k) (bar (f3 p11 p12 p13 k) H17)):=λ b o e=>Hm (Hm (S17.sm b o e) (λ z=>by rw [z,rq k hk] at e;cases e)) (λ z=>by rw [z,rl k hk] at e;cases e);have lm17:LmAt c (bar (f3 p11 p12 p13 k) H17) (f3 x0 x1 x2 k) d (f3 f0 f1 nF k) (f3 l0 l1 l2 k):=(rM k hk).other λ b o e=>sR b o (BQ _ _ e);have hL:=S17.l k hk;have hQ:=S17.q k hk;rw [if_neg (Nat.lt_irrefl k)] at hL hQ;refine ⟨_,_,_,_,_,d,_,min t d.td.length,rfl,lm17,rP.same sR,sR _ _ (rB k hk),ok,fkn k hk,n1 k k hk hk,hL,hQ,Nat.min_le_right _ _,λ H18 s18 gl gq=> ?_⟩;have en:nx d (min t d.td.length)=min (t+1) d.td.length:=by
            unfold nx;split <;> omega
          rw [en] at gl gq;walk_at "w";refine ⟨_,rfl,S17.step hk rl rq n1 n2 n3 s18 ?_ ?_ λ j hj=> ?_⟩
          · rw [if_pos (Nat.lt_succ_self k)];exact gl
          · rw [if_pos (Nat.lt_succ_self k)];exact gq
          · by_cases z:j<k
            · rw [if_pos z,if_pos (by omega)]
            · rw [if_neg z,if_neg (by omega)]
        · rintro σ H17 ⟨v3,rfl,S17⟩;refine ⟨_,_,rfl,S17.sm,S17.lam,λ j hj=> ?_,λ j hj=> ?_⟩
          · have:=S17.l j hj;rw [if_pos hj] at this;exact this
          · have:=S17.q j hj;rw [if_pos hj] at this;exact this
      · rintro σ H16 ⟨v1,v2,rfl,S16⟩;walk_at "w";refine NF (SqL.of (S16.sm _ _ rF)) λ p17 n17=> ?_;rw [show Dd [V.ref b0,V.ref b1,V.ref p5] none (some 2)=[V.ref b0,V.ref b1] by rfl];wrow_has H16 x17;walk_at "w";row_lines H17 x18;walk_at "w";refine BK (SqL.of (s18 _ _ g17)) (SqL.of g18) (by simp) λ p19 n19=> ?_;wrow_has H18 x19;walk_at "w";have S19:=S16.same (s17.trans (s18.trans s19));rw [show min (d.td.length+2) d.td.length=d.td.length by omega] at S19;clear S16 S15 rvH hav elv h4 el4 r4;have rO19:=S19.sm _ _ rO;have g19':H19 p19=some (.lst [V.ref b0,V.ref b1,V.non]):=g19;have hfv:∀ i,i<3->∀ G,Same R G->FvQ K d G (f3 (V.ref b0) (V.ref b1) V.non i) (f3 f0 f1 nF i):=λ i hi G s=>by
          match i,hi with
          | 0,_=>exact ⟨.inl ⟨b0,rfl,s _ _ (rB 0 (by decide)),GS ok m0⟩, .inr (FV (s _ _ (rB 0 (by decide))) m0 lb0)⟩
          | 1,_=>exact ⟨.inl ⟨b1,rfl,s _ _ (rB 1 (by decide)),GS ok m1⟩, .inr (FV (s _ _ (rB 1 (by decide))) m1 lb1)⟩
          | 2,_=>exact ⟨.inr ⟨rfl,rfl⟩, .inl rfl⟩
        refine ⟨false,false,p19,p14,rfl,⟨_,SqL.of g19'⟩,⟨_,SqL.of rO19⟩,Cq (UX (t1:=false) (t2:=false) (SqL.of g19') (SqL.of rO19) rfl) (λ i σ H3=>∃ u1 u2,σ=[some (.ref a),some (.ref p),some (.int W),some (.ref ps),some (.ref p6),some (.ref p10),some (.ref p14),v1,v2,u1,u2,none,some (.ref y),v',none]/\Same H19 H3) ⟨_,_,rfl,Same.refl _⟩ (λ i σ H3 ⟨_,_,_,s⟩=>s) ?_ ?_⟩
        · rintro i σ H' H20 hi3 ⟨u1,u2,rfl,s'⟩ s20;have hi:i<3:=hi3;have S20:=S19.same (s'.trans s20);have ef:[V.ref b0,V.ref b1,V.non].getD i .non=f3 (V.ref b0) (V.ref b1) V.non i:=by
            match i,hi with
            | 0,_=>rfl
            | 1,_=>rfl
            | 2,_=>rfl
          have eq:[V.ref p11,V.ref p12,V.ref p13].getD i .non=V.ref (f3 p11 p12 p13 i):=by
            match i,hi with
            | 0,_=>rfl
            | 1,_=>rfl
            | 2,_=>rfl
          rw [ef,eq];walk_at "w";refine ⟨y,_,d,rfl,rD.same S20.sm,ok, .inl ⟨f3 f0 f1 nF i,hfv i hi _ S20.sm,λ H21 z s21 hz C21=> ?_⟩⟩;walk_at "w";obtain ⟨dz,tz,gz,_⟩:=id C21;refine ⟨_,_,_,rfl,gz,rfl,?_⟩;walk_at "w";refine ⟨z,_,_,rfl,C21,λ H22 p22 l22 s22 _ _ g22 gl22=> ?_⟩;have S22:=S20.same (s21.trans s22);walk_at "w";obtain ⟨mv,av,vvs,emv,eav,hav,lav,bav,elv⟩:=BX (rP.same S22.sm);cases emv;cases eav
          match vvs,lav,hav,elv with
          | [u0,u1,u2,u3,u4,u5,u6],_,hav,elv=>
          have r2:Rp H22 FT 2 u2 (dL d.th):=elv 2 (by show 2<7;decide);obtain ⟨b2,eb2,hb2,_,_⟩:=CO r2;subst eb2;refine Ar (v:= .ref b2) (SqT.of hav) (Am (j:=2) rfl) ?_;walk_at "w";refine AQ (SqL.of hb2) ?_;rw [List.length_map];walk_at "w";row_lines H22 x23;walk_at "w";refine ⟨2, .tup [dN d.th.length,dL (AU d (f3 f0 f1 nF i) d.td.length)], .tup [dN d.th.length,dL (AU d (f3 f0 f1 nF i) d.td.length)],by decide,Gx (s23 _ _ g22) (.int _) (Gb (s23 _ _ gl22) trivial (by rw [AZ];omega)),Gx g23 (.int _) (Gb (s23 _ _ (S22.q i hi)) trivial (by rw [AZ];omega)),rfl,?_⟩;rw [Ch,if_pos rfl];walk_at "w";have S23:=S22.same s23;have D23:=rD.same S23.sm;obtain ⟨dy,v1',v2',v3',v4',v5',hy',_,_,_,_,_⟩:=id D23;refine ⟨_,_,_,rfl,hy',rfl,?_⟩;walk_at "w";refine ⟨y,d,rfl,D23,λ H24 p24 s24 _ r24=> ?_⟩;walk_at "w";refine ⟨3,dDr d,dDr d,by decide,r24.mono (λ _ _ q _=>q) (λ _ _=>trivial),rP.same (S23.same s24).sm,rfl,?_⟩;rw [Ch,if_pos rfl];walk_at "w";exact ⟨_,_,rfl,s'.trans (s20.trans (s21.trans (s22.trans (s23.trans s24))))⟩
        · rintro σ H20 ⟨u1,u2,rfl,s20⟩;have S20:=S19.same s20;clear S19 s20 g19 g19' rO19;walk_at "w";row_lines H20 x21;walk_at "w";row_lines H21 x22;walk_at "w";obtain ⟨mv,av,vvs,emv,eav,hav,lav,bav,elv⟩:=BX (rP.same (S20.same (s21.trans s22)).sm);cases emv;cases eav
          match vvs,lav,hav,elv with
          | [u0,u1',u2',u3,u4',u5,u6],_,hav,elv=>
          have r2:Rp H22 FT 2 u2' (dL d.th):=elv 2 (by show 2<7;decide);obtain ⟨b2,eb2,hb2,_,_⟩:=CO r2;subst eb2;refine Ar (v:= .ref b2) (SqT.of hav) (Am (j:=2) rfl) ?_;walk_at "w";refine AQ (SqL.of hb2) ?_;rw [List.length_map];walk_at "w";row_lines H22 x23;walk_at "w";row_lines H23 x24;walk_at "w";row_lines H24 x25;walk_at "w";unfold Om;row_lines H25 x26;walk_at "w";row_lines H26 x27;walk_at "w";row_lines H27 x28;walk_at "w";refine ⟨W,52,rfl,⟨by decide,by decide⟩,?_⟩;walk_at "w";refine AH (by decide) ?_;have q28:Same H20 H28:=s21.trans (s22.trans (s23.trans (s24.trans (s25.trans (s26.trans (s27.trans s28))))));have S28:=S20.same q28;have e21:=(s22.trans (s23.trans (s24.trans (s25.trans (s26.trans (s27.trans s28)))))) _ _ g21;have e22:=(s23.trans (s24.trans (s25.trans (s26.trans (s27.trans s28))))) _ _ g22;have e23:=(s24.trans (s25.trans (s26.trans (s27.trans s28)))) _ _ g23;have e24:=(s25.trans (s26.trans (s27.trans s28))) _ _ g24;have e25:=(s26.trans (s27.trans s28)) _ _ g25;have e26:=(s27.trans s28) _ _ g26;have e27:=s28 _ _ g27;obtain ⟨wv,atw,nw,fw⟩:∃ wv,atI [V.str "up",V.int 5,V.bl true,V.ref p21,V.ref p22,V.ref p23,V.ref p24,V.ref p25,V.ref p26,V.ref p27] (BF W 52%10)=some wv/\wv≠ .non/\∀ G:Hp,(∀ b o,(∀ t,o≠ .tbl t)->H28 b=some o->G b=some o)->IsF K G d wv false:=by
            have b1:=Int.emod_nonneg (BF W 52) (show (10:Int)≠0 by decide);have b2:=Int.emod_lt_of_pos (BF W 52) (show (0:Int)<10 by decide);obtain ⟨j,hj⟩:∃ j:Nat,BF W 52%10=(j:Nat):=⟨(BF W 52%10).toNat,by omega⟩;rw [hj] at b2 ⊢;have hj1:j<10:=by omega
            clear b1 b2 hj
            match j,hj1 with
            | 0,_=>exact ⟨_,Am (j:=0) rfl,(by intro z;cases z),λ G kp=> .kind (.str _) (kb (b:=false) (by decide +kernel))⟩
            | 1,_=>exact ⟨_,Am (j:=1) rfl,(by intro z;cases z),λ G kp=> .kind (.int _) (kb (b:=false) (by decide +kernel))⟩
            | 2,_=>exact ⟨_,Am (j:=2) rfl,(by intro z;cases z),λ G kp=> .kind (.bl _) (kb (b:=false) (by decide +kernel))⟩
            | 3,_=>exact ⟨_,Am (j:=3) rfl,(by intro z;cases z),λ G kp=>GC (ns:=[]) (kp _ _ (λ _ z=>by cases z) e21) (by decide) RI⟩
            | 4,_=>exact ⟨_,Am (j:=4) rfl,(by intro z;cases z),λ G kp=>GC (ns:=[0]) (kp _ _ (λ _ z=>by cases z) e22) (by decide) QY⟩
            | 5,_=>exact ⟨_,Am (j:=5) rfl,(by intro z;cases z),λ G kp=>GC (ns:=[d.th.length+1]) (kp _ _ (λ _ z=>by cases z) e23) (by simp) R7⟩
            | 6,_=>exact ⟨_,Am (j:=6) rfl,(by intro z;cases z),λ G kp=> .kind (.lst (kp _ _ (λ _ z=>by cases z) e24)) (kb (b:=false) (by decide +kernel))⟩
            | 7,_=>exact ⟨_,Am (j:=7) rfl,(by intro z;cases z),λ G kp=>GC (ns:=[1]) (kp _ _ (λ _ z=>by cases z) e25) (by decide) RV⟩
            | 8,_=>exact ⟨_,Am (j:=8) rfl,(by intro z;cases z),λ G kp=> .kind (.dK (kp _ _ (λ _ z=>by cases z) e26)) (kb (b:=false) (by decide +kernel))⟩
            | 9,_=>exact ⟨_,Am (j:=9) rfl,(by intro z;cases z),λ G kp=>GC (ns:=[1]) (kp _ _ (λ _ z=>by cases z) e27) (by decide) QW⟩
          refine Bk (SqL.of g28) atw ?_;clear e21 e22 e23 e24 e25 e26 e27 q28;walk_at "w";have kgo:∀ {G G':Hp},LamT G TT lq->(∀ b o,b≠TT->G b=some o->G' b=some o)->∀ b o,(∀ t,o≠HO.tbl t)->G b=some o->G' b=some o:=λ {G G'} lm go b o n e=>go b o (λ z=>by
            obtain ⟨ps',h1,_⟩:=lm;rw [z,h1] at e;cases e;exact n _ rfl) e
          refine FH S28.lam [.ref y,wv] rfl (λ i j h=> ?_) λ H29 L29 go=> ?_
          · match i,h with
            | 0,h=>cases h;exact ⟨_,rfl,rfl⟩
            | 1,h=>cases h;exact ⟨_,rfl,rfl⟩
          have S29:=S28.go rT L29 go;have k29:=kgo S28.lam go;have D29:=rD.same S29.sm;refine ⟨λ C od H1=>C=c.BadDraft/\od=none/\Same H29 H1,λ E' R' hE=> ?_,?_⟩
          · refine Hf ?_;walk_at "w";exact MW (Q:=λ x v2 H2=>v2= .non/\R' (.ref x) H2) D29 ok nw (fw _ k29) λ H1 s1=>hE _ _ _ ⟨rfl,rfl,s1⟩
          rintro C od H30 ⟨rfl,rfl,s30⟩;refine ⟨T.xm_BadDraft_LoomError,5,JT T,λ H31 l s31 g31=> ?_⟩;walk_at "w";row_lines H31 x32;walk_at "w";refine Lv (as:=[nmK 5]) (bs:=["draft"]) (SqL.of (s32 _ _ g31)) (SqL.of g32) ?_;walk_at "w";rw [decide_eq_true (show [nmK 5]=[("draft":Str)] from rfl)];walk_at "w";have q32:=s30.trans (s31.trans s32);have S32:=S29.same q32;refine FH S32.lam [.ref y,wv] rfl (λ i j h=> ?_) λ H33 L33 go'=> ?_
          · match i,h with
            | 0,h=>cases h;exact ⟨_,rfl,rfl⟩
            | 1,h=>cases h;exact ⟨_,rfl,rfl⟩
          have S33:=S32.go rT L33 go';have k33:=kgo S32.lam go';have D33:=rD.same S33.sm;refine ⟨λ C od H1=>C=c.BadDraft/\od=none/\Same H33 H1,λ E' R' hE=> ?_,?_⟩
          · walk_at "w";exact ⟨y,wv,d,rfl,D33,ok, .inr ⟨nw,fw _ (λ b o n e=>k33 b o n (q32 _ _ (k29 b o n e))),λ H1 s1=>hE _ _ _ ⟨rfl,rfl,s1⟩⟩⟩
          rintro C od H34 ⟨rfl,rfl,s34⟩;refine ⟨T.xm_BadDraft_LoomError,5,JT T,λ H35 l s35 g35=> ?_⟩;walk_at "w";row_lines H35 x36;walk_at "w";refine O3 (as:=[nmK 5]) (bs:=["draft"]) (SqL.of (s36 _ _ g35)) (SqL.of g36) ?_;rw [decide_eq_true (show [nmK 5]=[("draft":Str)] from rfl)];walk_at "w";exact kEnd _
end
end K29
namespace K29
open PySem L2 PySem.Spec PyProof.Rows
theorem all_mk {l:PySem.W.OpenLaw} {w:World} {K:PySem.W.Frag} {h:Heap} {mg:Str->Option Value} {fa:Addr} (X:K.In h) (G:h.Ns mainGlobals mg) (hfa:mg "law"=some (.ref fa))
    {C_Cloth C_Draft C_Gear C_Loom C_LoomError C_BadRow C_BadWord C_TooMany C_NotPlain C_NotGrown C_BadDraft C_BadCloth C_OutOfPlace f0 f1 f2 f3 f4 f5 f6 f7 f8 f9 f10 f11 f12 f13 f14 f15 f16 f17 f18 f19 f20 f21 f22 f23 f24 f25 f26 f27 f28 f29 f30 f31 f32 f33 f34 f35 f36 f37 f38 f39 f40 f41 f42 f43 f44 f45 f46 f47 f48 f49 f50 f51 f52:Addr} {d0 d1 d2 d3 d4 d5 d6 d7 d8 d9 d10 d11 d12 d13 d14 d15 d16 d17 d18 d19 d20 d21 d22 d23 d24 d25 d26 d27 d28 d29 d30 d31 d32 d33 d34 d35 d36 d37 d38 d39 d40 d41 d42 d43 d44 d45 d46 d47 d48 d49 d50 d51 d52:FuncData}
    {cc TT:Addr} {ts:List Addr}
    (T0:Txt K mg ⟨C_Cloth,C_Draft,C_Gear,C_Loom,C_LoomError,C_BadRow,C_BadWord,C_TooMany,C_NotPlain,C_NotGrown,C_BadDraft,C_BadCloth,C_OutOfPlace⟩)
    (D0:DefAt K mg "is_whole" EL ["thing"] f0 d0)
    (D1:DefAt K mg "is_among" EO ["thing","least","most"] f1 d1)
    (D2:DefAt K mg "bit_of" Hi ["number"] f2 d2)
    (D3:DefAt K mg "mask_of" FG ["numbers"] f3 d3)
    (D4:DefAt K mg "mask_to" FD ["most"] f4 d4)
    (D5:DefAt K mg "has_number" C3 ["mask","number"] f5 d5)
    (D6:DefAt K mg "numbers_of" CW ["mask"] f6 d6)
    (D7:DefAt K mg "union_of" EI ["masks"] f7 d7)
    (D8:DefAt K mg "need_cloth" Db ["ends","rows"] f8 d8)
    (j9:Mk K C_Cloth f9)
    (D9:FnA K "__init__" "Cloth.__init__" BL ["self","ends","rows"] f9 d9)
    (j10:Meth K C_Cloth "told" f10)
    (D10:FnA K "told" "Cloth.told" C9 ["self"] f10 d10)
    (D11:DefAt K mg "is_colour" Ea ["thing"] f11 d11)
    (D12:DefAt K mg "need" La ["holds","words"] f12 d12)
    (D13:DefAt K mg "is_list" FQ ["thing","least","most"] f13 d13)
    (D14:DefAt K mg "is_rising" DM ["thing","most"] f14 d14)
    (D15:DefAt K mg "are_rising" Dc ["thing","most"] f15 d15)
    (D16:DefAt K mg "are_colours" Cz ["thing","many"] f16 d16)
    (D17:DefAt K mg "need_draft" C7 ["shafts","treadles","threading","ties","treading","warp","weft"] f17 d17)
    (j18:Mk K C_Draft f18)
    (D18:FnA K "__init__" "Draft.__init__" BH ["self","shafts","treadles","threading","ties","treading","warp","weft"] f18 d18)
    (j19:Meth K C_Draft "told" f19)
    (D19:FnA K "told" "Draft.told" Dh ["self"] f19 d19)
    (j20:Meth K C_Draft "ends" f20)
    (D20:FnA K "ends" "Draft.ends" Dj ["self"] f20 d20)
    (D21:DefAt K mg "lift_by" FM ["ties","treadles"] f21 d21)
    (D22:DefAt K mg "ends_through" Cg ["threading","shaft"] f22 d22)
    (D23:DefAt K mg "shaft_ends" C8 ["threading","shafts"] f23 d23)
    (D24:DefAt K mg "row_by" GK ["carried","lift"] f24 d24)
    (D25:DefAt K mg "_law_kinds" Df ["_law_error"] f25 d25)
    (D26:DefAt K mg "_law_mixed" C6 ["_law_cell","_law_k"] f26 d26)
    (D27:DefAt K mg "_law_cells" C5 ["_law_script","_law_first"] f27 d27)
    (D28:DefAt K mg "_law_numbers" Cd ["_law_mask","_law_most"] f28 d28)
    (D29:DefAt K mg "_law_draft" Dn ["_law_script","_law_most"] f29 d29)
    (D30:DefAt K mg "shafts_but" Dk ["left_out","least","most"] f30 d30)
    (D31:DefAt K mg "lone_faults" Cy ["kind","most"] f31 d31)
    (D32:DefAt K mg "shaft_faults" Ck ["kind","lists"] f32 d32)
    (D33:DefAt K mg "all_faults" Dq ["draft"] f33 d33)
    (D34:DefAt K mg "is_fault" ER ["draft","thing"] f34 d34)
    (D35:DefAt K mg "_law_made" DP ["_law_told"] f35 d35)
    (D36:DefAt K mg "_law_all_faults" Bw ["_law_told"] f36 d36)
    (D37:DefAt K mg "threading_with" BJ ["draft","fault"] f37 d37)
    (D38:DefAt K mg "ties_with" Eb ["draft","fault"] f38 d38)
    (D39:DefAt K mg "carried_with" Cc ["draft","fault"] f39 d39)
    (j40:Mk K C_Gear f40)
    (D40:FnA K "__init__" "Gear.__init__" BV ["self","draft","fault"] f40 d40)
    (j41:Meth K C_Gear "row_of" f41)
    (D41:FnA K "row_of" "Gear.row_of" CG ["self","treadles"] f41 d41)
    (D42:DefAt K mg "_law_whole" Do ["_law_script"] f42 d42)
    (D43:DefAt K mg "_law_lifted" CD ["_law_told","_law_fault","_law_pick"] f43 d43)
    (D44:DefAt K mg "_law_row" EY ["_law_told","_law_fault","_law_pick"] f44 d44)
    (j45:Mk K C_Loom f45)
    (D45:FnAD K "__init__" "Loom.__init__" AD ["self","draft","fault"] f45 d45)
    (j46:Meth K C_Loom "step" f46)
    (D46:FnA K "step" "Loom.step" DH ["self"] f46 d46)
    (j47:Meth K C_Loom "pick" f47)
    (D47:FnA K "pick" "Loom.pick" Ec ["self"] f47 d47)
    (j48:Meth K C_Loom "cloth" f48)
    (D48:FnA K "cloth" "Loom.cloth" Dm ["self"] f48 d48)
    (D49:DefAt K mg "woven_with" Ds ["draft","fault"] f49 d49)
    (D50:DefAt K mg "_law_caught" CB ["_law_asked"] f50 d50)
    (D51:DefAt K mg "_law_steps" Di ["_law_loom","_law_told","_law_fault","_law_done"] f51 d51)
    (D52:DefAt K mg "law" IF ["_law_script"] f52 d52)
    (hlb:∀ (s:Shared) (u:Value),BindsTo s d52 ⟨[u],[]⟩ [("_law_script",u)])
    (hcc:d52.code= .ref cc)
    (hmem:TT∈ts)
    (hhd:PySem.W.codeHdIn K cc TT=true)
    (hns:TT≠PySem.cStatics)
    : ∃ (fd:FuncData) (c T:Addr),(∀ (s:Shared) (u:Value),BindsTo s fd ⟨[u],[]⟩ [("_law_script",u)])/\T∈ts/\T≠PySem.cStatics/\(∀ h':Heap,K.In h'->PySem.W.CodeHd h' c T)/\∀ base:Heap,K.In base->base.Ns mainGlobals mg->PySem.W.CodeHd base c T->base.BuiltinsAt mg T->FnOk l.prog w K mg base CX0 13 fa fd ["_law_script"] (Jc K T):=by
  cases hfa.symm.trans D52.at';have T:=T0;exact ⟨_,cc,TT,hlb,hmem,hns,λ _ X2=>PySem.W.codeHd_of_K X2 hhd,λ base _ _ hd hbt=>by
    have c_is_whole:=D0.call (KG (P:=l.prog) (w:=w) (base:=base) D0.fn T);have c_is_among:=D1.call (KA (P:=l.prog) (w:=w) (base:=base) D1.fn T c_is_whole);have c_bit_of:=D2.call (Mq (P:=l.prog) (w:=w) (base:=base) D2.fn T);have c_mask_of:=D3.call (K8 (P:=l.prog) (w:=w) (base:=base) D3.fn T c_bit_of);have c_mask_to:=D4.call (KP (P:=l.prog) (w:=w) (base:=base) D4.fn T);have c_has_number:=D5.call (Ig (P:=l.prog) (w:=w) (base:=base) D5.fn T c_bit_of);have c_numbers_of:=D6.call (Ik (P:=l.prog) (w:=w) (base:=base) D6.fn T c_has_number);have c_union_of:=D7.call (Kv (P:=l.prog) (w:=w) (base:=base) D7.fn T);have c_need_cloth:=D8.callE (Hy (P:=l.prog) (w:=w) (base:=base) D8.fn T c_is_among c_mask_to);have m_Cloth:LX l.prog w K mg base "Cloth" C_Cloth 4 ["self","ends","rows"] _:=⟨_,_,T.g_Cloth,j9,Fe (P:=l.prog) (w:=w) (base:=base) D9.fn T c_need_cloth,D9.bi⟩;have d_Cloth_told:BE l.prog w K mg base C_Cloth "told" 1 ["self"] _:=⟨_,_,T.kd_Cloth.cl,j10,HR (P:=l.prog) (w:=w) (base:=base) D10.fn T,D10.bi⟩;have c_is_colour:=D11.call (JD (P:=l.prog) (w:=w) (base:=base) D11.fn T);have c_need:=D12.call (O1 (P:=l.prog) (w:=w) (base:=base) D12.fn T);have c_is_list:=D13.call (K5 (P:=l.prog) (w:=w) (base:=base) D13.fn T c_is_among);have c_is_rising:=D14.call (Ji (P:=l.prog) (w:=w) (base:=base) D14.fn T c_is_among);have c_are_rising:=D15.call (HV (P:=l.prog) (w:=w) (base:=base) D15.fn T c_is_rising);have c_are_colours:=D16.call (GY (P:=l.prog) (w:=w) (base:=base) D16.fn T c_is_list c_is_colour);have c_need_draft:=D17.call (HH (P:=l.prog) (w:=w) (base:=base) D17.fn T c_need c_is_among c_is_list c_are_rising c_are_colours);have m_Draft:J9 l.prog w K mg base "Draft" C_Draft 6 ["self","shafts","treadles","threading","ties","treading","warp","weft"] _:=⟨_,_,T.g_Draft,j18,Fm (P:=l.prog) (w:=w) (base:=base) D18.fn T c_need_draft,D18.bi⟩;have d_Draft_told:BE l.prog w K mg base C_Draft "told" 1 ["self"] _:=⟨_,_,T.kd_Draft.cl,j19,HL (P:=l.prog) (w:=w) (base:=base) D19.fn T,D19.bi⟩;have d_Draft_ends:BE l.prog w K mg base C_Draft "ends" 1 ["self"] _:=⟨_,_,T.kd_Draft.cl,j20,HF (P:=l.prog) (w:=w) (base:=base) D20.fn T,D20.bi⟩;have c_lift_by:=D21.call (KZ (P:=l.prog) (w:=w) (base:=base) D21.fn T c_union_of);have c_ends_through:=D22.call (Gc (P:=l.prog) (w:=w) (base:=base) D22.fn T c_mask_of);have c_shaft_ends:=D23.call (Hz (P:=l.prog) (w:=w) (base:=base) D23.fn T c_ends_through);have c_row_by:=D24.call (Mt (P:=l.prog) (w:=w) (base:=base) D24.fn T c_numbers_of c_union_of);have c__law_kinds:=D25.call (Hx (P:=l.prog) (w:=w) (base:=base) D25.fn T);have c__law_mixed:=D26.call (HQ (P:=l.prog) (w:=w) (base:=base) D26.fn T);have c__law_cells:=D27.call (Hu (P:=l.prog) (w:=w) (base:=base) D27.fn T);have c__law_numbers:=D28.call (Gh (P:=l.prog) (w:=w) (base:=base) D28.fn T);have c__law_draft:=D29.call (Io (P:=l.prog) (w:=w) (base:=base) D29.fn T c__law_mixed c__law_cells c__law_numbers);have c_shafts_but:=D30.call (HK (P:=l.prog) (w:=w) (base:=base) D30.fn T);have c_lone_faults:=D31.call (Ha (P:=l.prog) (w:=w) (base:=base) D31.fn T);have c_shaft_faults:=D32.call (Gk (P:=l.prog) (w:=w) (base:=base) D32.fn T);have c_all_faults:=D33.call (HJ (P:=l.prog) (w:=w) (base:=base) D33.fn T c_lone_faults c_shaft_faults c_shafts_but d_Draft_ends);have c_is_fault:=D34.call (J8 (P:=l.prog) (w:=w) (base:=base) D34.fn T c_is_whole c_all_faults);have c__law_made:=D35.call (Jh (P:=l.prog) (w:=w) (base:=base) D35.fn T m_Draft);have c__law_all_faults:=D36.call (EX (P:=l.prog) (w:=w) (base:=base) D36.fn T);have c_threading_with:=D37.call (Fx (P:=l.prog) (w:=w) (base:=base) D37.fn T);have c_ties_with:=D38.call (JN (P:=l.prog) (w:=w) (base:=base) D38.fn T c_mask_of c_bit_of);have c_carried_with:=D39.call (Gg (P:=l.prog) (w:=w) (base:=base) D39.fn T c_shaft_ends c_threading_with);have m_Gear:J9 l.prog w K mg base "Gear" C_Gear 6 ["self","draft","fault"] _:=⟨_,_,T.g_Gear,j40,FS (P:=l.prog) (w:=w) (base:=base) D40.fn T c_ties_with c_carried_with c_ends_through,D40.bi⟩;have d_Gear_row_of:BE l.prog w K mg base C_Gear "row_of" 5 ["self","treadles"] _:=⟨_,_,T.kd_Gear.cl,j41,GT (P:=l.prog) (w:=w) (base:=base) D41.fn T c_row_by c_lift_by,D41.bi⟩;have c__law_whole:=D42.call (HG (P:=l.prog) (w:=w) (base:=base) D42.fn T);have c__law_lifted:=D43.call (GE (P:=l.prog) (w:=w) (base:=base) D43.fn T);have c__law_row:=D44.call (Km (P:=l.prog) (w:=w) (base:=base) D44.fn T c__law_lifted);have m_Loom:MakeD l.prog w K mg base "Loom" C_Loom 8 ["self","draft","fault"] _:=⟨_,_,T.g_Loom,j45,FA (P:=l.prog) (w:=w) (base:=base) D45.fn T c_is_fault m_Gear d_Draft_ends,D45.bi,D45.bn⟩;have d_Loom_step:BE l.prog w K mg base C_Loom "step" 6 ["self"] _:=⟨_,_,T.kd_Loom.cl,j46,JM (P:=l.prog) (w:=w) (base:=base) D46.fn T d_Gear_row_of,D46.bi⟩;have d_Loom_pick:BE l.prog w K mg base C_Loom "pick" 1 ["self"] _:=⟨_,_,T.kd_Loom.cl,j47,Jk (P:=l.prog) (w:=w) (base:=base) D47.fn T,D47.bi⟩;have d_Loom_cloth:Ki l.prog w K mg base C_Loom "cloth" 6 ["self"] _:=⟨_,_,T.kd_Loom.cl,j48,Ib (P:=l.prog) (w:=w) (base:=base) D48.fn T m_Cloth,D48.bi⟩;have c_woven_with:=D49.callE (HU (P:=l.prog) (w:=w) (base:=base) D49.fn T m_Loom d_Loom_step d_Loom_cloth);have c__law_caught:=D50.caught (Hc (P:=l.prog) (w:=w) (base:=base) D50.fn D50.bi T c__law_kinds);have c__law_steps:=D51.call (HY (P:=l.prog) (w:=w) (base:=base) D51.fn T c__law_row d_Loom_step d_Loom_cloth d_Loom_pick d_Cloth_told);exact QL hcc hd hbt D52.fn T c__law_draft c__law_made c__law_whole c__law_all_faults c__law_mixed m_Loom d_Loom_pick d_Loom_cloth c__law_caught c__law_steps c_woven_with d_Cloth_told d_Draft_told
    ⟩
theorem walk {l:PySem.W.OpenLaw} {q:Program} {loose:List Str} {XP:(Str->Option Value)->Heap->Prop} {YP:World->Heap->Prop} {d:DefRec} {K:Params->PySem.W.Frag} (hn:l.most=some 63) (hdf:d.params.defaults=[])
    (hY:∀ (w:World) (h:Heap),YP w h->(K w.params).In h)
    {ts:List Addr} (hYt:∀ (w:World) (h:Heap),YP w h->∀ P∈ts,h.get? P=some (PySem.W.tabObj #[])) (hnt:∀ w:World,PySem.W.noTabs (K w.params)=true)
    (F:∀ (w:World) (mg:Str->Option Value) (fa:Addr) (h:Heap),(K w.params).In h->h.Ns mainGlobals mg->mg d.name=some (.ref fa)->
      ∃ (fd:FuncData) (c T:Addr),(∀ (s:Shared) (u:Value),BindsTo s fd ⟨[u],[]⟩ [("_law_script",u)])/\T∈ts/\T≠PySem.cStatics/\(∀ h':Heap,(K w.params).In h'->PySem.W.CodeHd h' c T)/\∀ base:Heap,(K w.params).In base->base.Ns mainGlobals mg->PySem.W.CodeHd base c T->base.BuiltinsAt mg T->FnOk l.prog w (K w.params) mg base CX0 13 fa fd ["_law_script"] (Jc (K w.params) T)):
    PySem.W.WalkO q loose XP YP l.row.toRowW d [] (λ f vs=>PySem.call f vs):=
  L2.walk_ofL (n:=63) (k:=13) (x:="_law_script") (CX:=λ _=>CX0) (sp:=λ w T=>Jc (K w.params) T) hn (by decide) hdf ⟨rfl,by decide,by decide⟩ hY hYt hnt F (λ _ _ a _ ns hl _ hT hS=>⟨a,ns,rfl,hS,hl,hT,λ _=>rfl⟩) λ _ _ _ _ _ z=>z
end K29
open PySem PySem.W PyProof.Rows
set_option maxRecDepth 100000 in
set_option maxHeartbeats 0 in
theorem PySem.Challenge.cw_loomwright_k29_a_loom_step_by_step_holds : PySem.Challenge.rw_loomwright_k29_a_loom_step_by_step.Holds := by
  w_on
  refine PySem.W.holds_law (by first | k_qdec | decide +kernel) λ said=> ?_;refine PySem.W.holds_open (q:=K29.view) (loose:=[]) (Xt:=K29.Xt) (XP:=PySem.W.XL K29.view []) (Yf:=(PySem.W.kmHook K29.frag K29.addrs K29.addrs_eq K29.tabs).obs) (Ya:=(PySem.W.kmHook K29.frag K29.addrs K29.addrs_eq K29.tabs).val) (YP:=(PySem.W.kmHook K29.frag K29.addrs K29.addrs_eq K29.tabs).says) (N:=K29.fuel) K29.left (PySem.W.kmHook K29.frag K29.addrs K29.addrs_eq K29.tabs).of (PySem.W.kmHook K29.frag K29.addrs K29.addrs_eq K29.tabs).keeps (λ s e=>PySem.W.xl_of s (Bool.and_eq_true_iff.mp e).1) PySem.W.XL.keeps (by rfl) (by rfl) (by rfl) (λ s e=>PySem.W.recFacts_of (Bool.and_eq_true_iff.mp e).2) (by rfl) (by first | assumption | decide +kernel) (by first | k_qdec | decide +kernel) ⟨rfl,rfl,rfl,rfl,rfl,by decide +kernel⟩ ?hw ?hc
  (case hw=>w_witness2)
  k_fill
  refine K29.walk (l:=PySem.Challenge.rw_loomwright_k29_a_loom_step_by_step) rfl rfl (λ w h Y=>PySem.W.km_in_of Y) (λ w h Y=>PySem.W.km_tabs_of Y) (λ w=>by kernel_rfl) ?F
  case F=>
    intro w mg fa h KX G hmg;refine' K29.all_mk KX G hmg ?T ?_ ?_ ?_ ?_ ?_ ?_ ?_ ?_ ?_ ?_ ?_ ?_ ?_ ?_ ?_ ?_ ?_ ?_ ?_ ?_ ?_ ?_ ?_ ?_ ?_ ?_ ?_ ?_ ?_ ?_ ?_ ?_ ?_ ?_ ?_ ?_ ?_ ?_ ?_ ?_ ?_ ?_ ?_ ?_ ?_ ?_ ?_ ?_ ?_ ?_ ?_ ?_ ?_ ?_ ?_ ?_ ?_ ?_ ?_ ?_ ?_ ?_ ?_ ?_ ?_ ?_ ?_ ?_ ?_
    case T=>
      intros
      constructor
      all_goals try dsimp only
      all_goals try ((with_reducible refine' PySem.W.mg_of KX G ?_);k_is)
      all_goals first
        | ((with_reducible refine' L2.own_cons (PySem.W.mg_none_of KX G ?_) ?_) <;> (repeat' first | (with_reducible exact L2.own_nil) | (with_reducible refine' L2.own_cons (PySem.W.mg_none_of KX G ?_) ?_) | k_is))
        | ((with_reducible first | refine' L2.ci_mk (PySem.W.mg_of KX G ?_) | refine' L2.cs_mk (PySem.W.mg_of KX G ?_)) <;> first | k_is | skip)
        | with_reducible assumption
        | (refine' ⟨⟨?_,?_,?_,?_⟩,?_,?_,?_,?_⟩ <;> k_is)
        | ((with_reducible refine' L2.exc_mk ?_ ?_ ?_ ?_ ?_ ?_ ?_ ?_) <;> k_is)
        | (refine' ⟨?_,?_,?_⟩ <;> first | k_is | kernel_rfl)
        | (unfold L2.NoAttr;k_is)
        | k_is | k_exc | kts_exm | kit_is
    all_goals first
      | (refine' L2.def_mk (PySem.W.mg_of KX G ?_) (L2.fun_mk ?_ ?_ ?_) ?_ <;> first | k_is | exact L2.arg1 λ _=>rfl | exact L2.arg2 λ _ _=>rfl | exact L2.arg3 λ _ _ _=>rfl | exact L2.arg4 λ _ _ _ _=>rfl | exact L2.arg5 λ _ _ _ _ _=>rfl | exact L2.arg6 λ _ _ _ _ _ _=>rfl | exact L2.arg7 λ _ _ _ _ _ _ _=>rfl | exact L2.arg8 λ _ _ _ _ _ _ _ _=>rfl | exact L2.arg9 λ _ _ _ _ _ _ _ _ _=>rfl | skip)
      | (refine' L2.fnAD_mk ?_ ?_ (K29.bi_Loom ?_) <;> first | k_is | skip)
      | (refine' L2.fnA_mk (L2.fun_mk ?_ ?_ ?_) ?_ <;> first | k_is | exact L2.arg1 λ _=>rfl | exact L2.arg2 λ _ _=>rfl | exact L2.arg3 λ _ _ _=>rfl | exact L2.arg4 λ _ _ _ _=>rfl | exact L2.arg5 λ _ _ _ _ _=>rfl | exact L2.arg6 λ _ _ _ _ _ _=>rfl | exact L2.arg7 λ _ _ _ _ _ _ _=>rfl | exact L2.arg8 λ _ _ _ _ _ _ _ _=>rfl | exact L2.arg9 λ _ _ _ _ _ _ _ _ _=>rfl | skip)
      | (refine' ⟨?_,?_,?_,?_⟩;all_goals first | k_is | kernel_rfl | skip)
      | (refine' ⟨?_,?_,?_⟩;all_goals first | k_is | kernel_rfl | skip)
      | k_is
      | exact λ s u=> .of_eq rfl
      | rfl | kernel_rfl | exact List.mem_cons_self | decide | skip
