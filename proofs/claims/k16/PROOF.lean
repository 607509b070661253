import PyProof.Rows.All
import Wide.All
import OpenK.AllK
import Wide.FinOn
import Lean
import PyProof.EqAt
import PyProof.EqKinds
import PyProof.TupleCall
import PyProof.StrLawsChain
import KE.KIntText
import PyProof.EnumFor
import PyProof.EnumMake
import PyProof.ZipIter
import PyProof.LayNew
import KE.KTurns
import PyProof.Rows.Range3
import KE.KRevSl
import KE.KDictList
import PyProof.Draws
import PyProof.Rows.RuleM_int
import PyProof.Rows.BitMore
import PyProof.NeKinds
import KE.KRevIter
import PyProof.JoinWalk
import KE.KTryMore
import PyProof.ExcArgs
import OpenK.KOwn
import PyProof.ExcBaseAll.ValueError
import KE.KLam
import KE.KNestM
import PyProof.AttrMissHeap
import KE.KDictOf
import PySem.Challenge.RW_loomwright_k16_whole_drafts_turned
set_option Elab.async false
set_option linter.all false
set_option maxRecDepth 100000
set_option maxHeartbeats 4000000
noncomputable section
namespace L2
open PySem
noncomputable def AD (s:Stmt) (j:Nat):Stmt:=match s with
  | .ClassDef _ _ _ body _ _ _ _ _ _ _=>body.getD j (.Pass ⟨0,0,0,0⟩)
  | _=> .Pass ⟨0,0,0,0⟩
noncomputable def FJ (s:Stmt):Arguments:=match s with
  | .FunctionDef _ a _ _ _ _ _ _ _ _=>a
  | _=>{ posonlyargs:=[],args:=[],vararg:=none,kwonlyargs:=[],kw_defaults:=[],kwarg:=none,defaults:=[] }
noncomputable def DC (s:Stmt):List Stmt:=match s with
  | .FunctionDef _ _ b _ _ _ _ _ _ _=>b
  | _=>[]
noncomputable def Ah (s:Stmt):Scope:=match s with
  | .FunctionDef _ _ _ _ _ _ sc _ _ _=>sc
  | _=>{ kind:= .function,names:=[],isGenerator:=false,isCoroutine:=false }
end L2
namespace K16
open PySem
noncomputable def top (i:Nat):Stmt:=PySem.Challenge.pw_loomwright_k16_whole_drafts_turned.main.body.getD i (.Pass ⟨0,0,0,0⟩)
end K16
namespace HX
open PySem PySem.W PySem.Calls PyProof.Rows
noncomputable def topT (tb:String->Option Builtin) (p:Program) (w:World) (n₀:Nat) (ann:Option Value):Nat->SharedT->Thread->Option SharedT
  | 0,_,_=>none
  | n+1,s,t=>match through t with
    | true=>some s
    | false=>match stepOk n₀ ann t with
      | false=>none
      | true=>match stepT (denote tb) p w s t with
        | some (s',t')=>topT tb p w n₀ ann n s' t'
        | none=>none
theorem topT_of {tb:String->Option Builtin} {p:Program} {w:World} {n₀:Nat} {ann:Option Value}:∀ {n:Nat} {s s':SharedT} {t:Thread},topT tb p w n₀ ann n s t=some s'->topRun tb p w n₀ ann n s.abs t=some s'.abs
  | 0,_,_,_,h=>by cases h
  | n+1,s,s',t,h=>by
    unfold topT at h;unfold topRun;cases ht:through t with
    | true=>rw [ht] at h;cases h;rfl
    | false=>
      rw [ht] at h;cases hk:stepOk n₀ ann t with
      | false=>rw [hk] at h;cases h
      | true=>
        rw [hk] at h;cases hs:stepT (denote tb) p w s t with
        | none=>rw [hs] at h;cases h
        | some x=>
          obtain ⟨s2,t2⟩:=x;rw [hs] at h;dsimp only;rw [stepT_spec hs];exact topT_of h
noncomputable def ofL:List Obj->Nat->BT->BT
  | [],_,t=>t
  | o::r,i,t=>ofL r (i+1) (t.ins i o)
def bootT (P:Params):BT:=ofL (boot_heap P).objs.toList 0 .nil
noncomputable def fn0 (name qual:Str) (a:Arguments) (b:List Stmt) (sc:Scope):FuncData:=
  { name,qualname:=qual,params:=a,body:= .stmts b,scope:=sc,globals:=0,closure:=[],defaults:= .none,kwdefaults:= .none }
noncomputable def goT (tb:String->Option Builtin) (p:Program) (w:World) (n₀:Nat) (ann:Option Value):Nat->SharedT->Thread->Option (SharedT × Thread)
  | 0,s,t=>some (s,t)
  | n+1,s,t=>match through t with
    | true=>none
    | false=>match stepOk n₀ ann t with
      | false=>none
      | true=>match stepT (denote tb) p w s t with
        | some (s',t')=>goT tb p w n₀ ann n s' t'
        | none=>none
theorem goT_of {tb:String->Option Builtin} {p:Program} {w:World} {n₀:Nat} {ann:Option Value}:∀ {n:Nat} {s s':SharedT} {t t':Thread},goT tb p w n₀ ann n s t=some (s',t')->topGo tb p w n₀ ann n s.abs t=some (s'.abs,t')
  | 0,_,_,_,_,h=>by cases h;rfl
  | n+1,s,s',t,t',h=>by
    unfold goT at h;unfold topGo;cases ht:through t with
    | true=>rw [ht] at h;cases h
    | false=>
      rw [ht] at h;cases hk:stepOk n₀ ann t with
      | false=>rw [hk] at h;cases h
      | true=>
        rw [hk] at h;cases hs:stepT (denote tb) p w s t with
        | none=>rw [hs] at h;cases h
        | some x=>
          obtain ⟨s2,t2⟩:=x;rw [hs] at h;dsimp only;rw [stepT_spec hs];exact goT_of h
theorem left_run {p q:Program} {loose:List Str} {Xt:Shared->Bool} {α:Type} {Yf:Shared->α} {Ya:World->α} {N:Nat} {g0:Bool}
    (e:opening p=plainProg p.main.scope.names) (hN:Nat.ble 600 N=true) (f:∀ s,fenceModules? p s=some s)
    (hb:∀ P:Params,(absHeap (bootT P) 11 {},boot_drawn,(boot_heap P).isNs mainGlobals,(boot_heap P).objs.size,(boot_heap P).nsMap mainGlobals "__annotations__")=(boot_heap P,boot_drawn,true,11,some (.ref 6)))
    (run:∀ (w:World) (os:OsState),∃ s:Shared,topRun treeTable p w 11 (some (.ref 6)) N (⟨bootT w.params,11,{},Array.mk [],boot_drawn,boot_toks,os⟩:SharedT).abs (topStub p)=some s/\((staticsOk (importedModules p.main.body) (boot_heap w.params) s.heap&&namesBound p s.heap&&gensDone s&&laidKept (boot_heap w.params) s.heap),openSeen q loose (importedModules p.main.body) Xt g0 s,Yf s)=(true,openGood q loose,Ya w)):LeftO p q loose Xt Yf Ya N g0:=λ w=>by
  obtain ⟨⟨h,gs,d,k,os⟩,e1,e'⟩:=Option.map_eq_some_iff.mp (boot_open (p:=p) (N:=N) e hN f w);obtain ⟨rfl,rfl,rfl,rfl⟩:h=boot_heap w.params/\gs=Array.mk []/\d=boot_drawn/\k=boot_toks:=by simpa using e'
  have hb':=hb w.params;simp only [Prod.mk.injEq] at hb';obtain ⟨b1,_,b2,b3,b4⟩:=hb';obtain ⟨s,r,l⟩:=run w os;obtain ⟨l1,l2,l3⟩:_/\_/\_:=by simpa only [Prod.mk.injEq] using l
  have b0:(⟨bootT w.params,11,{},Array.mk [],boot_drawn,boot_toks,os⟩:SharedT).abs=⟨boot_heap w.params,Array.mk [],boot_drawn,boot_toks,os⟩:=by
    show (⟨absHeap (bootT w.params) 11 {},_,_,_,_⟩:Shared)=_;rw [b1]
  rw [b0] at r;have t:topFrom treeTable p w N ⟨boot_heap w.params,Array.mk [],boot_drawn,boot_toks,os⟩=some s:=by
    unfold topFrom;dsimp only;rw [b2,b3,b4];show Option.bind (topRun treeTable p w 11 (some (.ref 6)) N ⟨boot_heap w.params,Array.mk [],boot_drawn,boot_toks,os⟩ (topStub p)) _=_;rw [r];show (match staticsOk (importedModules p.main.body) (boot_heap w.params) s.heap&&namesBound p s.heap&&gensDone s&&laidKept (boot_heap w.params) s.heap with | true=>_ | false=>_)=_;rw [l1]
  unfold openEnds;rw [e1];show (topFrom treeTable p w N _).map _=_;rw [t];exact congrArg some (Prod.ext l2 l3)
theorem nine {A B C D E F G H I:Type} {o:A × B × C × D × E × F × G × H × I} {a:A} {b:B} {c:C} {d:D} {e:E} {f:F} {g:G} {h:H} {i:I} (l:(o.1,o.2.1,o.2.2.1,o.2.2.2.1)=(a,b,c,d)) (m:(o.2.2.2.2.1,o.2.2.2.2.2.1,o.2.2.2.2.2.2.1,o.2.2.2.2.2.2.2.1,o.2.2.2.2.2.2.2.2)=(e,f,g,h,i)):o=(a,b,c,d,e,f,g,h,i):=by
  cases l;cases m;rfl
theorem three {α β γ:Type} {a a':α} {b b':β} {c c':γ} (h:(a,c)=(a',c')) (k:b=b'):(a,b,c)=(a',b',c'):=by
  cases h;cases k;rfl
theorem hb (P:Params):(absHeap (bootT P) 11 {},boot_drawn,(boot_heap P).isNs mainGlobals,(boot_heap P).objs.size,(boot_heap P).nsMap mainGlobals "__annotations__")=(boot_heap P,boot_drawn,true,11,some (.ref 6)):=by kernel_rfl
end HX
namespace K16
open PySem L2 PySem.W PySem.Calls PyProof.Rows
abbrev Ob:=Params->Obj
noncomputable abbrev dE (P:Params) (s:Str) (t:Tok) (v:Value):DictEntry:=⟨PyData.keyHash P s, .str s t,v⟩
noncomputable abbrev dR (P:Params) (s:Str) (t:Tok) (a:Addr):DictEntry:=⟨PyData.keyHash P s, .str s t, .ref a⟩
noncomputable abbrev tu (xs:Array Value):Obj:=⟨.type "tuple",none, .seq xs 0, #[]⟩
noncomputable abbrev di (es:Array DictEntry) (n:Nat):Obj:=⟨.type "dict",none, .dict es n, #[]⟩
noncomputable abbrev f0 (n q:Str) (st:Stmt):FuncData:=HX.fn0 n q (FJ st) (DC st) (Ah st)
noncomputable abbrev fo (n q:Str) (st:Stmt) (m:Str) (t:Tok) (c:Addr):Obj:=⟨.type "function",none, .func (fnOf n q (FJ st) (DC st) (Ah st) .none .none .none (.str m t) none (.ref c) .none), #[]⟩
noncomputable abbrev co (n q:Str) (t:Tok) (l ac nl:Int) (a:Addr) (b:Bool) (r:Addr) (c d e:Value) (k:Int) (t4:Tok):Obj:=⟨.type "code",none, .fields #[.str n t, .str q (t+1), .str "/claim/cut.py" (t+2), .int l 0, .int ac 0, .int 0 0, .int 0 0, .int nl 0, .ref a, .bool b, .int 181 0, .ref r, .none,c,d,e, .int k 0, .int l 0, .str "/claim/cut.py" t4], #[]⟩
noncomputable def o3:Ob:=λ P=>di #[dE P "__name__" 165 (.str "law_loomwright_k16_whole_drafts_turned" 807),dE P "__doc__" 166 .none,dE P "__package__" 167 .none,dE P "__loader__" 168 (.builtin "__main__.__loader__#opaque"),dE P "__spec__" 169 .none,dR P "__annotations__" 170 6,dR P "__builtins__" 171 4,dE P "__file__" 173 (.str "/claim/cut.py" 172),dE P "__cached__" 174 .none,dR P "_wall" 193 21,dE P "MOST_SHAFTS" 195 (.int 16 194),dE P "MOST_TREADLES" 197 (.int 16 196),dE P "MOST_ENDS" 199 (.int 60 198),dE P "MOST_PICKS" 201 (.int 60 200),dR P "LoomError" 221 31,dR P "BadRow" 248 51,dR P "BadWord" 273 70,dR P "TooMany" 300 89,dR P "NotPlain" 327 108,dR P "NotGrown" 354 127,dR P "BadDraft" 370 139,dR P "BadCloth" 386 151,dR P "OutOfPlace" 402 163,dE P "COLOURS" 406 (.str "abcdefghijklmnopqrstuvwxyz" 405),dR P "is_whole" 413 172,dR P "is_among" 422 179,dR P "is_colour" 429 186,dR P "PARTS" 439 187,dR P "need" 447 194,dR P "is_list" 456 201,dR P "is_rising" 466 208,dR P "are_rising" 472 213,dR P "are_colours" 478 218,dR P "need_draft" 484 223,dR P "Draft" 537 257,dR P "changed_draft" 546 268,dR P "shafts_but" 552 273,dR P "mirrored_draft" 561 280,dR P "upended_draft" 567 285,dR P "need_plain" 578 292,dR P "inverted_draft" 584 297,dR P "treadles_without" 590 302,dR P "quartered_draft" 596 307,dR P "bit_of" 605 314,dR P "mask_of" 614 321,dR P "mask_to" 621 328,dR P "has_number" 629 335,dR P "numbers_of" 635 340,dR P "union_of" 644 347,dR P "other_mask" 652 354,dR P "turned_mask" 658 359,dR P "need_cloth" 666 364,dR P "Cloth" 741 421,dR P "mirrored" 749 430,dR P "upended" 756 437,dR P "inverted" 762 442,dR P "quartered" 768 447,dR P "lift_by" 776 452,dR P "lifts_of" 782 457,dR P "ends_through" 788 462,dR P "shaft_ends" 794 467,dR P "row_by" 800 472,dR P "woven" 806 477,dR P "_law_mixed" 816 484,dR P "_law_kinds" 822 489,dR P "_law_same" 828 494,dR P "_law_cells" 834 499,dR P "_law_numbers" 840 504,dR P "_law_draft" 846 509,dR P "_law_copied" 852 514,dR P "_law_made" 866 521,dR P "_law_is_up" 876 528,dR P "_law_made_plain" 882 533,dR P "_law_spoilt" 893 540,dR P "_law_lacks_plain" 899 545,dR P "_law_turned" 905 550,dR P "_law_at_turned" 915 557,dR P "_law_refused" 925 564,dR P "_law_right" 941 571,dR P "_law_all_right" 951 578,dR P "law" 961 585] 81
noncomputable def o15:Ob:=λ P=>tu #[]
noncomputable def o17:Ob:=λ P=>tu #[(.str "k" 190)]
noncomputable def o18:Ob:=λ P=>tu #[]
noncomputable def o20:Ob:=λ P=>co "_wall" "_wall" 187 1 1 3 15 true 16 (.ref 17) (.ref 18) (.ref 19) 191 192
noncomputable def o21:Ob:=λ P=>fo "_wall" "_wall" (top 0) "__main__" 164 20
noncomputable def o22:Ob:=λ P=>tu #[(.type "ValueError")]
noncomputable def o29:Ob:=λ P=>tu #[]
noncomputable def o30:Ob:=λ P=>di #[dE P "__module__" 211 (.str "loomwright.errors" 202),dE P "__firstlineno__" 215 (.int 9 214),dR P "__static_attributes__" 216 29,dR P "__weakref__" 218 32,dE P "__doc__" 219 .none] 3
noncomputable def o31:Ob:=λ P=>⟨(.type "type"),none,(.cls ⟨"LoomError",[(.type "ValueError")],[(.ref 31),(.type "ValueError"),(.type "Exception"),(.type "BaseException"),(.type "object")],30,"LoomError",true,[],[(.ref 51),(.ref 70),(.ref 89),(.ref 108),(.ref 127),(.ref 139),(.ref 151),(.ref 163)],false,none,false⟩), #[(some (.ref 22)),none,(some (.str "LoomError" 204)),(some (.str "LoomError" 212)),(some (.builtin "ValueError.__new__")),(some (.bool true))]⟩
noncomputable def o32:Ob:=λ P=>⟨(.type "getset_descriptor"),none,(.fields #[(.str "__weakref__" 217),(.ref 31),(.builtin "ExceptionGroup.__weakref__"), .none]), #[]⟩
noncomputable def o35:Ob:=λ P=>tu #[(.ref 31)]
noncomputable def o42:Ob:=λ P=>tu #[]
noncomputable def o44:Ob:=λ P=>tu #[(.str "self" 237),(.str "row" 238),(.str "word" 239)]
noncomputable def o45:Ob:=λ P=>tu #[]
noncomputable def o47:Ob:=λ P=>co "__init__" "BadRow.__init__" 234 13 3 3 42 true 43 (.ref 44) (.ref 45) (.ref 46) 240 241
noncomputable def o48:Ob:=λ P=>fo "__init__" "BadRow.__init__" (AD (top 7) 0) "loomwright.errors" 202 47
noncomputable def o49:Ob:=λ P=>tu #[(.str "row" 243),(.str "word" 244)]
noncomputable def o50:Ob:=λ P=>di #[dE P "__module__" 229 (.str "loomwright.errors" 202),dE P "__firstlineno__" 233 (.int 11 232),dR P "__init__" 242 48,dR P "__static_attributes__" 245 49,dE P "__doc__" 246 .none] 2
noncomputable def o51:Ob:=λ P=>⟨(.type "type"),none,(.cls ⟨"BadRow",[(.ref 31)],[(.ref 51),(.ref 31),(.type "ValueError"),(.type "Exception"),(.type "BaseException"),(.type "object")],50,"BadRow",true,[],[],false,none,false⟩), #[(some (.ref 35)),none,(some (.str "BadRow" 222)),(some (.str "BadRow" 230)),(some (.builtin "ValueError.__new__")),(some (.bool true))]⟩
noncomputable def o54:Ob:=λ P=>tu #[(.ref 31)]
noncomputable def o61:Ob:=λ P=>tu #[]
noncomputable def o63:Ob:=λ P=>tu #[(.str "self" 264),(.str "place" 265)]
noncomputable def o64:Ob:=λ P=>tu #[]
noncomputable def o66:Ob:=λ P=>co "__init__" "BadWord.__init__" 261 19 2 3 61 true 62 (.ref 63) (.ref 64) (.ref 65) 266 267
noncomputable def o67:Ob:=λ P=>fo "__init__" "BadWord.__init__" (AD (top 8) 0) "loomwright.errors" 202 66
noncomputable def o68:Ob:=λ P=>tu #[(.str "place" 269)]
noncomputable def o69:Ob:=λ P=>di #[dE P "__module__" 256 (.str "loomwright.errors" 202),dE P "__firstlineno__" 260 (.int 17 259),dR P "__init__" 268 67,dR P "__static_attributes__" 270 68,dE P "__doc__" 271 .none] 2
noncomputable def o70:Ob:=λ P=>⟨(.type "type"),none,(.cls ⟨"BadWord",[(.ref 31)],[(.ref 70),(.ref 31),(.type "ValueError"),(.type "Exception"),(.type "BaseException"),(.type "object")],69,"BadWord",true,[],[],false,none,false⟩), #[(some (.ref 54)),none,(some (.str "BadWord" 249)),(some (.str "BadWord" 257)),(some (.builtin "ValueError.__new__")),(some (.bool true))]⟩
noncomputable def o73:Ob:=λ P=>tu #[(.ref 31)]
noncomputable def o80:Ob:=λ P=>tu #[]
noncomputable def o82:Ob:=λ P=>tu #[(.str "self" 289),(.str "what" 290),(.str "many" 291)]
noncomputable def o83:Ob:=λ P=>tu #[]
noncomputable def o85:Ob:=λ P=>co "__init__" "TooMany.__init__" 286 24 3 3 80 true 81 (.ref 82) (.ref 83) (.ref 84) 292 293
noncomputable def o86:Ob:=λ P=>fo "__init__" "TooMany.__init__" (AD (top 9) 0) "loomwright.errors" 202 85
noncomputable def o87:Ob:=λ P=>tu #[(.str "many" 295),(.str "what" 296)]
noncomputable def o88:Ob:=λ P=>di #[dE P "__module__" 281 (.str "loomwright.errors" 202),dE P "__firstlineno__" 285 (.int 22 284),dR P "__init__" 294 86,dR P "__static_attributes__" 297 87,dE P "__doc__" 298 .none] 2
noncomputable def o89:Ob:=λ P=>⟨(.type "type"),none,(.cls ⟨"TooMany",[(.ref 31)],[(.ref 89),(.ref 31),(.type "ValueError"),(.type "Exception"),(.type "BaseException"),(.type "object")],88,"TooMany",true,[],[],false,none,false⟩), #[(some (.ref 73)),none,(some (.str "TooMany" 274)),(some (.str "TooMany" 282)),(some (.builtin "ValueError.__new__")),(some (.bool true))]⟩
noncomputable def o92:Ob:=λ P=>tu #[(.ref 31)]
noncomputable def o99:Ob:=λ P=>tu #[]
noncomputable def VP:Ob:=λ P=>tu #[(.str "self" 316),(.str "what" 317),(.str "number" 318)]
noncomputable def VL:Ob:=λ P=>tu #[]
noncomputable def V1:Ob:=λ P=>co "__init__" "NotPlain.__init__" 313 30 3 3 99 true 100 (.ref 101) (.ref 102) (.ref 103) 319 320
noncomputable def Yy:Ob:=λ P=>fo "__init__" "NotPlain.__init__" (AD (top 10) 0) "loomwright.errors" 202 104
noncomputable def Xo:Ob:=λ P=>tu #[(.str "number" 322),(.str "what" 323)]
noncomputable def Up:Ob:=λ P=>di #[dE P "__module__" 308 (.str "loomwright.errors" 202),dE P "__firstlineno__" 312 (.int 28 311),dR P "__init__" 321 105,dR P "__static_attributes__" 324 106,dE P "__doc__" 325 .none] 2
noncomputable def U1:Ob:=λ P=>⟨(.type "type"),none,(.cls ⟨"NotPlain",[(.ref 31)],[(.ref 108),(.ref 31),(.type "ValueError"),(.type "Exception"),(.type "BaseException"),(.type "object")],107,"NotPlain",true,[],[],false,none,false⟩), #[(some (.ref 92)),none,(some (.str "NotPlain" 301)),(some (.str "NotPlain" 309)),(some (.builtin "ValueError.__new__")),(some (.bool true))]⟩
noncomputable def Xw:Ob:=λ P=>tu #[(.ref 31)]
noncomputable def Va:Ob:=λ P=>tu #[]
noncomputable def Vu:Ob:=λ P=>tu #[(.str "self" 343),(.str "row" 344),(.str "column" 345)]
noncomputable def YT:Ob:=λ P=>tu #[]
noncomputable def Yq:Ob:=λ P=>co "__init__" "NotGrown.__init__" 340 36 3 3 118 true 119 (.ref 120) (.ref 121) (.ref 122) 346 347
noncomputable def Xu:Ob:=λ P=>fo "__init__" "NotGrown.__init__" (AD (top 11) 0) "loomwright.errors" 202 123
noncomputable def ZO:Ob:=λ P=>tu #[(.str "column" 349),(.str "row" 350)]
noncomputable def UH:Ob:=λ P=>di #[dE P "__module__" 335 (.str "loomwright.errors" 202),dE P "__firstlineno__" 339 (.int 34 338),dR P "__init__" 348 124,dR P "__static_attributes__" 351 125,dE P "__doc__" 352 .none] 2
noncomputable def Yg:Ob:=λ P=>⟨(.type "type"),none,(.cls ⟨"NotGrown",[(.ref 31)],[(.ref 127),(.ref 31),(.type "ValueError"),(.type "Exception"),(.type "BaseException"),(.type "object")],126,"NotGrown",true,[],[],false,none,false⟩), #[(some (.ref 111)),none,(some (.str "NotGrown" 328)),(some (.str "NotGrown" 336)),(some (.builtin "ValueError.__new__")),(some (.bool true))]⟩
noncomputable def XA:Ob:=λ P=>tu #[(.ref 31)]
noncomputable def Uz:Ob:=λ P=>tu #[]
noncomputable def Xg:Ob:=λ P=>di #[dE P "__module__" 362 (.str "loomwright.errors" 202),dE P "__firstlineno__" 366 (.int 40 365),dR P "__static_attributes__" 367 137,dE P "__doc__" 368 .none] 2
noncomputable def WR:Ob:=λ P=>⟨(.type "type"),none,(.cls ⟨"BadDraft",[(.ref 31)],[(.ref 139),(.ref 31),(.type "ValueError"),(.type "Exception"),(.type "BaseException"),(.type "object")],138,"BadDraft",true,[],[],false,none,false⟩), #[(some (.ref 130)),none,(some (.str "BadDraft" 355)),(some (.str "BadDraft" 363)),(some (.builtin "ValueError.__new__")),(some (.bool true))]⟩
noncomputable def WS:Ob:=λ P=>tu #[(.ref 31)]
noncomputable def U7:Ob:=λ P=>tu #[]
noncomputable def ZW:Ob:=λ P=>di #[dE P "__module__" 378 (.str "loomwright.errors" 202),dE P "__firstlineno__" 382 (.int 42 381),dR P "__static_attributes__" 383 149,dE P "__doc__" 384 .none] 2
noncomputable def Zq:Ob:=λ P=>⟨(.type "type"),none,(.cls ⟨"BadCloth",[(.ref 31)],[(.ref 151),(.ref 31),(.type "ValueError"),(.type "Exception"),(.type "BaseException"),(.type "object")],150,"BadCloth",true,[],[],false,none,false⟩), #[(some (.ref 142)),none,(some (.str "BadCloth" 371)),(some (.str "BadCloth" 379)),(some (.builtin "ValueError.__new__")),(some (.bool true))]⟩
noncomputable def WF:Ob:=λ P=>tu #[(.ref 31)]
noncomputable def YX:Ob:=λ P=>tu #[]
noncomputable def Y1:Ob:=λ P=>di #[dE P "__module__" 394 (.str "loomwright.errors" 202),dE P "__firstlineno__" 398 (.int 44 397),dR P "__static_attributes__" 399 161,dE P "__doc__" 400 .none] 2
noncomputable def YE:Ob:=λ P=>⟨(.type "type"),none,(.cls ⟨"OutOfPlace",[(.ref 31)],[(.ref 163),(.ref 31),(.type "ValueError"),(.type "Exception"),(.type "BaseException"),(.type "object")],162,"OutOfPlace",true,[],[],false,none,false⟩), #[(some (.ref 154)),none,(some (.str "OutOfPlace" 387)),(some (.str "OutOfPlace" 395)),(some (.builtin "ValueError.__new__")),(some (.bool true))]⟩
noncomputable def Yw:Ob:=λ P=>tu #[]
noncomputable def U8:Ob:=λ P=>tu #[(.str "thing" 410)]
noncomputable def Xx:Ob:=λ P=>tu #[]
noncomputable def Vo:Ob:=λ P=>co "is_whole" "is_whole" 407 48 1 3 166 true 167 (.ref 168) (.ref 169) (.ref 170) 411 412
noncomputable def Y2:Ob:=λ P=>fo "is_whole" "is_whole" (top 17) "loomwright.words" 403 171
noncomputable def WM:Ob:=λ P=>tu #[]
noncomputable def Xh:Ob:=λ P=>tu #[(.str "thing" 417),(.str "least" 418),(.str "most" 419)]
noncomputable def Za:Ob:=λ P=>tu #[]
noncomputable def UW:Ob:=λ P=>co "is_among" "is_among" 414 50 3 3 173 true 174 (.ref 175) (.ref 176) (.ref 177) 420 421
noncomputable def Uc:Ob:=λ P=>fo "is_among" "is_among" (top 18) "loomwright.words" 403 178
noncomputable def U2:Ob:=λ P=>tu #[]
noncomputable def Yd:Ob:=λ P=>tu #[(.str "thing" 426)]
noncomputable def YG:Ob:=λ P=>tu #[]
noncomputable def Yl:Ob:=λ P=>co "is_colour" "is_colour" 423 52 1 3 180 true 181 (.ref 182) (.ref 183) (.ref 184) 427 428
noncomputable def Zr:Ob:=λ P=>fo "is_colour" "is_colour" (top 19) "loomwright.words" 403 185
noncomputable def YZ:Ob:=λ P=>tu #[(.str "shafts" 432),(.str "treadles" 433),(.str "threading" 434),(.str "ties" 435),(.str "treading" 436),(.str "warp" 437),(.str "weft" 438)]
noncomputable def Vr:Ob:=λ P=>tu #[]
noncomputable def Vj:Ob:=λ P=>tu #[(.str "holds" 443),(.str "words" 444)]
noncomputable def Ua:Ob:=λ P=>tu #[]
noncomputable def Vp:Ob:=λ P=>co "need" "need" 440 56 2 3 188 true 189 (.ref 190) (.ref 191) (.ref 192) 445 446
noncomputable def UG:Ob:=λ P=>fo "need" "need" (top 22) "loomwright.draft" 430 193
noncomputable def X9:Ob:=λ P=>tu #[]
noncomputable def Ub:Ob:=λ P=>tu #[(.str "thing" 451),(.str "least" 452),(.str "most" 453)]
noncomputable def Zc:Ob:=λ P=>tu #[]
noncomputable def Ue:Ob:=λ P=>co "is_list" "is_list" 448 59 3 3 195 true 196 (.ref 197) (.ref 198) (.ref 199) 454 455
noncomputable def ZL:Ob:=λ P=>fo "is_list" "is_list" (top 23) "loomwright.draft" 430 200
noncomputable def Wz:Ob:=λ P=>tu #[]
noncomputable def Us:Ob:=λ P=>tu #[(.str "thing" 460),(.str "most" 461),(.str "last" 462),(.str "number" 463)]
noncomputable def W2:Ob:=λ P=>tu #[]
noncomputable def YR:Ob:=λ P=>co "is_rising" "is_rising" 457 61 2 3 202 true 203 (.ref 204) (.ref 205) (.ref 206) 464 465
noncomputable def WN:Ob:=λ P=>fo "is_rising" "is_rising" (top 24) "loomwright.draft" 430 207
noncomputable def Uo:Ob:=λ P=>tu #[]
noncomputable def WA:Ob:=λ P=>co "are_rising" "are_rising" 467 70 2 3 209 true 210 .none .none (.ref 211) 470 471
noncomputable def UQ:Ob:=λ P=>fo "are_rising" "are_rising" (top 25) "loomwright.draft" 430 212
noncomputable def XV:Ob:=λ P=>tu #[]
noncomputable def Wg:Ob:=λ P=>co "are_colours" "are_colours" 473 72 2 3 214 true 215 .none .none (.ref 216) 476 477
noncomputable def YJ:Ob:=λ P=>fo "are_colours" "are_colours" (top 26) "loomwright.draft" 430 217
noncomputable def Z6:Ob:=λ P=>tu #[]
noncomputable def XM:Ob:=λ P=>co "need_draft" "need_draft" 479 74 7 3 219 true 220 .none .none (.ref 221) 482 483
noncomputable def V5:Ob:=λ P=>fo "need_draft" "need_draft" (top 27) "loomwright.draft" 430 222
noncomputable def Vk:Ob:=λ P=>tu #[]
noncomputable def XT:Ob:=λ P=>co "__init__" "Draft.__init__" 497 87 8 3 231 true 232 .none .none (.ref 233) 500 501
noncomputable def Ud:Ob:=λ P=>fo "__init__" "Draft.__init__" (AD (top 28) 0) "loomwright.draft" 430 234
noncomputable def Vd:Ob:=λ P=>tu #[]
noncomputable def X1:Ob:=λ P=>co "told" "Draft.told" 503 97 1 3 236 true 237 .none .none (.ref 238) 506 507
noncomputable def Y6:Ob:=λ P=>fo "told" "Draft.told" (AD (top 28) 1) "loomwright.draft" 430 239
noncomputable def Xi:Ob:=λ P=>tu #[]
noncomputable def Z5:Ob:=λ P=>tu #[(.str "self" 512)]
noncomputable def Uv:Ob:=λ P=>tu #[]
noncomputable def Wp:Ob:=λ P=>co "ends" "Draft.ends" 509 100 1 3 241 true 242 (.ref 243) (.ref 244) (.ref 245) 513 514
noncomputable def VI:Ob:=λ P=>fo "ends" "Draft.ends" (AD (top 28) 2) "loomwright.draft" 430 246
noncomputable def XD:Ob:=λ P=>tu #[]
noncomputable def W0:Ob:=λ P=>tu #[(.str "self" 519)]
noncomputable def ZJ:Ob:=λ P=>tu #[]
noncomputable def VW:Ob:=λ P=>co "picks" "Draft.picks" 516 103 1 3 248 true 249 (.ref 250) (.ref 251) (.ref 252) 520 521
noncomputable def Y5:Ob:=λ P=>fo "picks" "Draft.picks" (AD (top 28) 3) "loomwright.draft" 430 253
noncomputable def Zw:Ob:=λ P=>tu #[(.str "shafts" 523),(.str "threading" 524),(.str "ties" 525),(.str "treading" 526),(.str "treadles" 527),(.str "warp" 528),(.str "weft" 529)]
noncomputable def X7:Ob:=λ P=>di #[dE P "__module__" 492 (.str "loomwright.draft" 430),dE P "__firstlineno__" 496 (.int 85 495),dR P "__init__" 502 235,dR P "told" 508 240,dR P "ends" 515 247,dR P "picks" 522 254,dR P "__static_attributes__" 530 255,dR P "__dict__" 532 258,dR P "__weakref__" 534 259,dE P "__doc__" 535 .none] 4
noncomputable def YU:Ob:=λ P=>⟨(.type "type"),none,(.cls ⟨"Draft",[(.type "object")],[(.ref 257),(.type "object")],256,"Draft",true,[],[],false,none,false⟩), #[none,none,(some (.str "Draft" 485)),(some (.str "Draft" 493)),(some (.builtin "object.__new__")),(some (.bool true))]⟩
noncomputable def XE:Ob:=λ P=>⟨(.type "getset_descriptor"),none,(.fields #[(.str "__dict__" 531),(.ref 257),(.builtin "function.__dict__"),(.builtin "function.__dict__#set")]), #[]⟩
noncomputable def ZC:Ob:=λ P=>⟨(.type "getset_descriptor"),none,(.fields #[(.str "__weakref__" 533),(.ref 257),(.builtin "ExceptionGroup.__weakref__"), .none]), #[]⟩
noncomputable def WH:Ob:=λ P=>tu #[]
noncomputable def ZV:Ob:=λ P=>tu #[(.str "draft" 541),(.str "changes" 542),(.str "parts" 543)]
noncomputable def Xy:Ob:=λ P=>tu #[]
noncomputable def YD:Ob:=λ P=>co "changed_draft" "changed_draft" 538 105 2 3 262 true 263 (.ref 264) (.ref 265) (.ref 266) 544 545
noncomputable def Y4:Ob:=λ P=>fo "changed_draft" "changed_draft" (top 29) "loomwright.draft" 430 267
noncomputable def Yt:Ob:=λ P=>tu #[]
noncomputable def VX:Ob:=λ P=>co "shafts_but" "shafts_but" 547 109 3 3 269 true 270 .none .none (.ref 271) 550 551
noncomputable def W1:Ob:=λ P=>fo "shafts_but" "shafts_but" (top 30) "loomwright.draft" 430 272
noncomputable def YY:Ob:=λ P=>tu #[]
noncomputable def UJ:Ob:=λ P=>tu #[(.str "draft" 558)]
noncomputable def Vc:Ob:=λ P=>tu #[]
noncomputable def W3:Ob:=λ P=>co "mirrored_draft" "mirrored_draft" 555 112 1 3 274 true 275 (.ref 276) (.ref 277) (.ref 278) 559 560
noncomputable def X4:Ob:=λ P=>fo "mirrored_draft" "mirrored_draft" (top 32) "loomwright.draftturns" 553 279
noncomputable def Wk:Ob:=λ P=>tu #[]
noncomputable def Uu:Ob:=λ P=>co "upended_draft" "upended_draft" 562 114 1 3 281 true 282 .none .none (.ref 283) 565 566
noncomputable def XR:Ob:=λ P=>fo "upended_draft" "upended_draft" (top 33) "loomwright.draftturns" 553 284
noncomputable def Zy:Ob:=λ P=>tu #[]
noncomputable def UF:Ob:=λ P=>tu #[(.str "draft" 571),(.str "end" 572),(.str "shaft" 573),(.str "pick" 574),(.str "treadles" 575)]
noncomputable def VZ:Ob:=λ P=>tu #[]
noncomputable def Ug:Ob:=λ P=>co "need_plain" "need_plain" 568 117 1 3 286 true 287 (.ref 288) (.ref 289) (.ref 290) 576 577
noncomputable def WG:Ob:=λ P=>fo "need_plain" "need_plain" (top 34) "loomwright.draftturns" 553 291
noncomputable def U5:Ob:=λ P=>tu #[]
noncomputable def VG:Ob:=λ P=>co "inverted_draft" "inverted_draft" 579 124 1 3 293 true 294 .none .none (.ref 295) 582 583
noncomputable def ZT:Ob:=λ P=>fo "inverted_draft" "inverted_draft" (top 35) "loomwright.draftturns" 553 296
noncomputable def V6:Ob:=λ P=>tu #[]
noncomputable def Wt:Ob:=λ P=>co "treadles_without" "treadles_without" 585 127 2 3 298 true 299 .none .none (.ref 300) 588 589
noncomputable def YS:Ob:=λ P=>fo "treadles_without" "treadles_without" (top 36) "loomwright.draftturns" 553 301
noncomputable def aa:Ob:=λ P=>tu #[]
noncomputable def VU:Ob:=λ P=>co "quartered_draft" "quartered_draft" 591 129 1 3 303 true 304 .none .none (.ref 305) 594 595
noncomputable def Vv:Ob:=λ P=>fo "quartered_draft" "quartered_draft" (top 37) "loomwright.draftturns" 553 306
noncomputable def Xr:Ob:=λ P=>tu #[]
noncomputable def XG:Ob:=λ P=>tu #[(.str "number" 602)]
noncomputable def XO:Ob:=λ P=>tu #[]
noncomputable def Vf:Ob:=λ P=>co "bit_of" "bit_of" 599 136 1 3 308 true 309 (.ref 310) (.ref 311) (.ref 312) 603 604
noncomputable def Zj:Ob:=λ P=>fo "bit_of" "bit_of" (top 39) "loomwright.masks" 597 313
noncomputable def UT:Ob:=λ P=>tu #[]
noncomputable def Vn:Ob:=λ P=>tu #[(.str "numbers" 609),(.str "mask" 610),(.str "number" 611)]
noncomputable def Z8:Ob:=λ P=>tu #[]
noncomputable def VS:Ob:=λ P=>co "mask_of" "mask_of" 606 138 1 3 315 true 316 (.ref 317) (.ref 318) (.ref 319) 612 613
noncomputable def Zh:Ob:=λ P=>fo "mask_of" "mask_of" (top 40) "loomwright.masks" 597 320
noncomputable def Zo:Ob:=λ P=>tu #[]
noncomputable def Yk:Ob:=λ P=>tu #[(.str "most" 618)]
noncomputable def Zz:Ob:=λ P=>tu #[]
noncomputable def Ye:Ob:=λ P=>co "mask_to" "mask_to" 615 143 1 3 322 true 323 (.ref 324) (.ref 325) (.ref 326) 619 620
noncomputable def Yz:Ob:=λ P=>fo "mask_to" "mask_to" (top 41) "loomwright.masks" 597 327
noncomputable def Xq:Ob:=λ P=>tu #[]
noncomputable def Vs:Ob:=λ P=>tu #[(.str "mask" 625),(.str "number" 626)]
noncomputable def VF:Ob:=λ P=>tu #[]
noncomputable def Xa:Ob:=λ P=>co "has_number" "has_number" 622 145 2 3 329 true 330 (.ref 331) (.ref 332) (.ref 333) 627 628
noncomputable def ZU:Ob:=λ P=>fo "has_number" "has_number" (top 42) "loomwright.masks" 597 334
noncomputable def VJ:Ob:=λ P=>tu #[]
noncomputable def Yh:Ob:=λ P=>co "numbers_of" "numbers_of" 630 147 1 3 336 true 337 .none .none (.ref 338) 633 634
noncomputable def UX:Ob:=λ P=>fo "numbers_of" "numbers_of" (top 43) "loomwright.masks" 597 339
noncomputable def XZ:Ob:=λ P=>tu #[]
noncomputable def U3:Ob:=λ P=>tu #[(.str "masks" 639),(.str "union" 640),(.str "mask" 641)]
noncomputable def Zf:Ob:=λ P=>tu #[]
noncomputable def WE:Ob:=λ P=>co "union_of" "union_of" 636 149 1 3 341 true 342 (.ref 343) (.ref 344) (.ref 345) 642 643
noncomputable def Zt:Ob:=λ P=>fo "union_of" "union_of" (top 44) "loomwright.masks" 597 346
noncomputable def Ym:Ob:=λ P=>tu #[]
noncomputable def Zg:Ob:=λ P=>tu #[(.str "mask" 648),(.str "most" 649)]
noncomputable def ZN:Ob:=λ P=>tu #[]
noncomputable def X2:Ob:=λ P=>co "other_mask" "other_mask" 645 154 2 3 348 true 349 (.ref 350) (.ref 351) (.ref 352) 650 651
noncomputable def Uq:Ob:=λ P=>fo "other_mask" "other_mask" (top 45) "loomwright.masks" 597 353
noncomputable def Xe:Ob:=λ P=>tu #[]
noncomputable def Y0:Ob:=λ P=>co "turned_mask" "turned_mask" 653 156 2 3 355 true 356 .none .none (.ref 357) 656 657
noncomputable def YK:Ob:=λ P=>fo "turned_mask" "turned_mask" (top 46) "loomwright.masks" 597 358
noncomputable def WB:Ob:=λ P=>tu #[]
noncomputable def Uk:Ob:=λ P=>co "need_cloth" "need_cloth" 661 159 2 3 360 true 361 .none .none (.ref 362) 664 665
noncomputable def Ws:Ob:=λ P=>fo "need_cloth" "need_cloth" (top 48) "loomwright.cloth" 659 363
noncomputable def XN:Ob:=λ P=>tu #[]
noncomputable def Xk:Ob:=λ P=>tu #[(.str "self" 682),(.str "ends" 683),(.str "rows" 684)]
noncomputable def WX:Ob:=λ P=>tu #[]
noncomputable def UI:Ob:=λ P=>co "__init__" "Cloth.__init__" 679 168 3 3 372 true 373 (.ref 374) (.ref 375) (.ref 376) 685 686
noncomputable def Ys:Ob:=λ P=>fo "__init__" "Cloth.__init__" (AD (top 49) 0) "loomwright.cloth" 659 377
noncomputable def XJ:Ob:=λ P=>tu #[]
noncomputable def YC:Ob:=λ P=>tu #[(.str "self" 691)]
noncomputable def Z0:Ob:=λ P=>tu #[]
noncomputable def XB:Ob:=λ P=>co "told" "Cloth.told" 688 173 1 3 379 true 380 (.ref 381) (.ref 382) (.ref 383) 692 693
noncomputable def Vz:Ob:=λ P=>fo "told" "Cloth.told" (AD (top 49) 1) "loomwright.cloth" 659 384
noncomputable def W5:Ob:=λ P=>tu #[]
noncomputable def Ui:Ob:=λ P=>tu #[(.str "self" 698)]
noncomputable def V3:Ob:=λ P=>tu #[]
noncomputable def We:Ob:=λ P=>co "ends" "Cloth.ends" 695 176 1 3 386 true 387 (.ref 388) (.ref 389) (.ref 390) 699 700
noncomputable def Ve:Ob:=λ P=>fo "ends" "Cloth.ends" (AD (top 49) 2) "loomwright.cloth" 659 391
noncomputable def Wy:Ob:=λ P=>tu #[]
noncomputable def ZZ:Ob:=λ P=>tu #[(.str "self" 705)]
noncomputable def UE:Ob:=λ P=>tu #[]
noncomputable def ZE:Ob:=λ P=>co "picks" "Cloth.picks" 702 179 1 3 393 true 394 (.ref 395) (.ref 396) (.ref 397) 706 707
noncomputable def XQ:Ob:=λ P=>fo "picks" "Cloth.picks" (AD (top 49) 3) "loomwright.cloth" 659 398
noncomputable def ZB:Ob:=λ P=>tu #[]
noncomputable def Z3:Ob:=λ P=>tu #[(.str "self" 712),(.str "pick" 713)]
noncomputable def Yu:Ob:=λ P=>tu #[]
noncomputable def U6:Ob:=λ P=>co "row_at" "Cloth.row_at" 709 182 2 3 400 true 401 (.ref 402) (.ref 403) (.ref 404) 714 715
noncomputable def X6:Ob:=λ P=>fo "row_at" "Cloth.row_at" (AD (top 49) 4) "loomwright.cloth" 659 405
noncomputable def ZR:Ob:=λ P=>tu #[]
noncomputable def ad:Ob:=λ P=>co "column_at" "Cloth.column_at" 717 185 2 3 407 true 408 .none .none (.ref 409) 720 721
noncomputable def Zp:Ob:=λ P=>fo "column_at" "Cloth.column_at" (AD (top 49) 5) "loomwright.cloth" 659 410
noncomputable def Zd:Ob:=λ P=>tu #[]
noncomputable def XS:Ob:=λ P=>tu #[(.str "self" 726),(.str "end" 727),(.str "pick" 728)]
noncomputable def Xp:Ob:=λ P=>tu #[]
noncomputable def Vw:Ob:=λ P=>co "is_up" "Cloth.is_up" 723 188 3 3 412 true 413 (.ref 414) (.ref 415) (.ref 416) 729 730
noncomputable def XI:Ob:=λ P=>fo "is_up" "Cloth.is_up" (AD (top 49) 6) "loomwright.cloth" 659 417
noncomputable def XF:Ob:=λ P=>tu #[(.str "rows" 732),(.str "width" 733)]
noncomputable def UO:Ob:=λ P=>di #[dE P "__module__" 674 (.str "loomwright.cloth" 659),dE P "__firstlineno__" 678 (.int 166 677),dR P "__init__" 687 378,dR P "told" 694 385,dR P "ends" 701 392,dR P "picks" 708 399,dR P "row_at" 716 406,dR P "column_at" 722 411,dR P "is_up" 731 418,dR P "__static_attributes__" 734 419,dR P "__dict__" 736 422,dR P "__weakref__" 738 423,dE P "__doc__" 739 .none] 4
noncomputable def Yc:Ob:=λ P=>⟨(.type "type"),none,(.cls ⟨"Cloth",[(.type "object")],[(.ref 421),(.type "object")],420,"Cloth",true,[],[],false,none,false⟩), #[none,none,(some (.str "Cloth" 667)),(some (.str "Cloth" 675)),(some (.builtin "object.__new__")),(some (.bool true))]⟩
noncomputable def ZD:Ob:=λ P=>⟨(.type "getset_descriptor"),none,(.fields #[(.str "__dict__" 735),(.ref 421),(.builtin "function.__dict__"),(.builtin "function.__dict__#set")]), #[]⟩
noncomputable def Z7:Ob:=λ P=>⟨(.type "getset_descriptor"),none,(.fields #[(.str "__weakref__" 737),(.ref 421),(.builtin "ExceptionGroup.__weakref__"), .none]), #[]⟩
noncomputable def V9:Ob:=λ P=>tu #[]
noncomputable def Xv:Ob:=λ P=>co "mirrored" "mirrored" 744 191 1 3 426 true 427 .none .none (.ref 428) 747 748
noncomputable def UV:Ob:=λ P=>fo "mirrored" "mirrored" (top 51) "loomwright.turns" 742 429
noncomputable def VD:Ob:=λ P=>tu #[]
noncomputable def Zl:Ob:=λ P=>tu #[(.str "cloth" 753)]
noncomputable def ZA:Ob:=λ P=>tu #[]
noncomputable def Y3:Ob:=λ P=>co "upended" "upended" 750 193 1 3 431 true 432 (.ref 433) (.ref 434) (.ref 435) 754 755
noncomputable def Wj:Ob:=λ P=>fo "upended" "upended" (top 52) "loomwright.turns" 742 436
noncomputable def WV:Ob:=λ P=>tu #[]
noncomputable def ZH:Ob:=λ P=>co "inverted" "inverted" 757 195 1 3 438 true 439 .none .none (.ref 440) 760 761
noncomputable def Zv:Ob:=λ P=>fo "inverted" "inverted" (top 53) "loomwright.turns" 742 441
noncomputable def VT:Ob:=λ P=>tu #[]
noncomputable def YL:Ob:=λ P=>co "quartered" "quartered" 763 197 1 3 443 true 444 .none .none (.ref 445) 766 767
noncomputable def XY:Ob:=λ P=>fo "quartered" "quartered" (top 54) "loomwright.turns" 742 446
noncomputable def UD:Ob:=λ P=>tu #[]
noncomputable def W7:Ob:=λ P=>co "lift_by" "lift_by" 771 201 2 3 448 true 449 .none .none (.ref 450) 774 775
noncomputable def Vb:Ob:=λ P=>fo "lift_by" "lift_by" (top 56) "loomwright.weaving" 769 451
noncomputable def VE:Ob:=λ P=>tu #[]
noncomputable def Wd:Ob:=λ P=>co "lifts_of" "lifts_of" 777 203 1 3 453 true 454 .none .none (.ref 455) 780 781
noncomputable def V0:Ob:=λ P=>fo "lifts_of" "lifts_of" (top 57) "loomwright.weaving" 769 456
noncomputable def Vi:Ob:=λ P=>tu #[]
noncomputable def Xc:Ob:=λ P=>co "ends_through" "ends_through" 783 206 2 3 458 true 459 .none .none (.ref 460) 786 787
noncomputable def WL:Ob:=λ P=>fo "ends_through" "ends_through" (top 58) "loomwright.weaving" 769 461
noncomputable def Wv:Ob:=λ P=>tu #[]
noncomputable def Yp:Ob:=λ P=>co "shaft_ends" "shaft_ends" 789 208 2 3 463 true 464 .none .none (.ref 465) 792 793
noncomputable def UL:Ob:=λ P=>fo "shaft_ends" "shaft_ends" (top 59) "loomwright.weaving" 769 466
noncomputable def WD:Ob:=λ P=>tu #[]
noncomputable def Xz:Ob:=λ P=>co "row_by" "row_by" 795 210 2 3 468 true 469 .none .none (.ref 470) 798 799
noncomputable def Xj:Ob:=λ P=>fo "row_by" "row_by" (top 60) "loomwright.weaving" 769 471
noncomputable def WT:Ob:=λ P=>tu #[]
noncomputable def Zx:Ob:=λ P=>co "woven" "woven" 801 212 1 3 473 true 474 .none .none (.ref 475) 804 805
noncomputable def Zu:Ob:=λ P=>fo "woven" "woven" (top 61) "loomwright.weaving" 769 476
noncomputable def Yb:Ob:=λ P=>tu #[]
noncomputable def Xn:Ob:=λ P=>tu #[(.str "_law_cell" 812),(.str "_law_k" 813)]
noncomputable def UK:Ob:=λ P=>tu #[]
noncomputable def V7:Ob:=λ P=>co "_law_mixed" "_law_mixed" 809 216 2 3 478 true 479 (.ref 480) (.ref 481) (.ref 482) 814 815
noncomputable def Um:Ob:=λ P=>fo "_law_mixed" "_law_mixed" (top 63) "law_loomwright_k16_whole_drafts_turned" 807 483
noncomputable def ZF:Ob:=λ P=>tu #[]
noncomputable def UP:Ob:=λ P=>co "_law_kinds" "_law_kinds" 817 219 1 3 485 true 486 .none .none (.ref 487) 820 821
noncomputable def Wn:Ob:=λ P=>fo "_law_kinds" "_law_kinds" (top 64) "law_loomwright_k16_whole_drafts_turned" 807 488
noncomputable def V2:Ob:=λ P=>tu #[]
noncomputable def YW:Ob:=λ P=>co "_law_same" "_law_same" 823 226 2 3 490 true 491 .none .none (.ref 492) 826 827
noncomputable def Wq:Ob:=λ P=>fo "_law_same" "_law_same" (top 65) "law_loomwright_k16_whole_drafts_turned" 807 493
noncomputable def ZK:Ob:=λ P=>tu #[]
noncomputable def W8:Ob:=λ P=>co "_law_cells" "_law_cells" 829 232 2 3 495 true 496 .none .none (.ref 497) 832 833
noncomputable def VQ:Ob:=λ P=>fo "_law_cells" "_law_cells" (top 66) "law_loomwright_k16_whole_drafts_turned" 807 498
noncomputable def Vq:Ob:=λ P=>tu #[]
noncomputable def WQ:Ob:=λ P=>co "_law_numbers" "_law_numbers" 835 235 2 3 500 true 501 .none .none (.ref 502) 838 839
noncomputable def X3:Ob:=λ P=>fo "_law_numbers" "_law_numbers" (top 67) "law_loomwright_k16_whole_drafts_turned" 807 503
noncomputable def Zs:Ob:=λ P=>tu #[]
noncomputable def Wo:Ob:=λ P=>co "_law_draft" "_law_draft" 841 237 2 3 505 true 506 .none .none (.ref 507) 844 845
noncomputable def Xf:Ob:=λ P=>fo "_law_draft" "_law_draft" (top 68) "law_loomwright_k16_whole_drafts_turned" 807 508
noncomputable def YM:Ob:=λ P=>tu #[]
noncomputable def VM:Ob:=λ P=>co "_law_copied" "_law_copied" 847 251 1 3 510 true 511 .none .none (.ref 512) 850 851
noncomputable def Xd:Ob:=λ P=>fo "_law_copied" "_law_copied" (top 69) "law_loomwright_k16_whole_drafts_turned" 807 513
noncomputable def Vg:Ob:=λ P=>tu #[]
noncomputable def Yr:Ob:=λ P=>tu #[(.str "_law_due" 856),(.str "_law_shafts" 857),(.str "_law_treadles" 858),(.str "_law_threading" 859),(.str "_law_ties" 860),(.str "_law_treading" 861),(.str "_law_warp" 862),(.str "_law_weft" 863)]
noncomputable def WW:Ob:=λ P=>tu #[]
noncomputable def Wb:Ob:=λ P=>co "_law_made" "_law_made" 853 257 1 3 515 true 516 (.ref 517) (.ref 518) (.ref 519) 864 865
noncomputable def W9:Ob:=λ P=>fo "_law_made" "_law_made" (top 70) "law_loomwright_k16_whole_drafts_turned" 807 520
noncomputable def Vm:Ob:=λ P=>tu #[]
noncomputable def Z2:Ob:=λ P=>tu #[(.str "_law_due" 870),(.str "_law_end" 871),(.str "_law_pick" 872),(.str "_law_treadle" 873)]
noncomputable def WO:Ob:=λ P=>tu #[]
noncomputable def Wf:Ob:=λ P=>co "_law_is_up" "_law_is_up" 867 260 3 3 522 true 523 (.ref 524) (.ref 525) (.ref 526) 874 875
noncomputable def YB:Ob:=λ P=>fo "_law_is_up" "_law_is_up" (top 71) "law_loomwright_k16_whole_drafts_turned" 807 527
noncomputable def WK:Ob:=λ P=>tu #[]
noncomputable def Z1:Ob:=λ P=>co "_law_made_plain" "_law_made_plain" 877 265 2 3 529 true 530 .none .none (.ref 531) 880 881
noncomputable def Zk:Ob:=λ P=>fo "_law_made_plain" "_law_made_plain" (top 72) "law_loomwright_k16_whole_drafts_turned" 807 532
noncomputable def VN:Ob:=λ P=>tu #[]
noncomputable def Ur:Ob:=λ P=>tu #[(.str "_law_due" 886),(.str "_law_number" 887),(.str "_law_threading" 888),(.str "_law_treading" 889),(.str "_law_at" 890)]
noncomputable def Yj:Ob:=λ P=>tu #[]
noncomputable def Wc:Ob:=λ P=>co "_law_spoilt" "_law_spoilt" 883 269 2 3 534 true 535 (.ref 536) (.ref 537) (.ref 538) 891 892
noncomputable def Vl:Ob:=λ P=>fo "_law_spoilt" "_law_spoilt" (top 73) "law_loomwright_k16_whole_drafts_turned" 807 539
noncomputable def WP:Ob:=λ P=>tu #[]
noncomputable def Uj:Ob:=λ P=>co "_law_lacks_plain" "_law_lacks_plain" 894 280 1 3 541 true 542 .none .none (.ref 543) 897 898
noncomputable def Wa:Ob:=λ P=>fo "_law_lacks_plain" "_law_lacks_plain" (top 74) "law_loomwright_k16_whole_drafts_turned" 807 544
noncomputable def WI:Ob:=λ P=>tu #[]
noncomputable def U9:Ob:=λ P=>co "_law_turned" "_law_turned" 900 286 2 3 546 true 547 .none .none (.ref 548) 903 904
noncomputable def Y7:Ob:=λ P=>fo "_law_turned" "_law_turned" (top 75) "law_loomwright_k16_whole_drafts_turned" 807 549
noncomputable def Ww:Ob:=λ P=>tu #[]
noncomputable def Xb:Ob:=λ P=>tu #[(.str "_law_way" 909),(.str "_law_due" 910),(.str "_law_end" 911),(.str "_law_pick" 912)]
noncomputable def YQ:Ob:=λ P=>tu #[]
noncomputable def U4:Ob:=λ P=>co "_law_at_turned" "_law_at_turned" 906 300 4 3 551 true 552 (.ref 553) (.ref 554) (.ref 555) 913 914
noncomputable def Yv:Ob:=λ P=>fo "_law_at_turned" "_law_at_turned" (top 76) "law_loomwright_k16_whole_drafts_turned" 807 556
noncomputable def Zn:Ob:=λ P=>tu #[]
noncomputable def Vy:Ob:=λ P=>tu #[(.str "_law_way" 919),(.str "_law_draft_here" 920),(.str "_law_error" 921),(.str "caught" 922)]
noncomputable def UR:Ob:=λ P=>tu #[]
noncomputable def US:Ob:=λ P=>co "_law_refused" "_law_refused" 916 308 2 3 558 true 559 (.ref 560) (.ref 561) (.ref 562) 923 924
noncomputable def UZ:Ob:=λ P=>fo "_law_refused" "_law_refused" (top 77) "law_loomwright_k16_whole_drafts_turned" 807 563
noncomputable def WU:Ob:=λ P=>tu #[]
noncomputable def Yi:Ob:=λ P=>tu #[(.str "_law_way" 929),(.str "_law_due" 930),(.str "_law_draft_here" 931),(.str "_law_found" 932),(.str "_law_told" 933),(.str "_law_cloth" 934),(.str "_law_pick" 935),(.str "_law_end" 936),(.str "_law_is_up_here" 937),(.str "_law_other" 938)]
noncomputable def Vh:Ob:=λ P=>tu #[]
noncomputable def YA:Ob:=λ P=>co "_law_right" "_law_right" 926 319 3 3 565 true 566 (.ref 567) (.ref 568) (.ref 569) 939 940
noncomputable def WZ:Ob:=λ P=>fo "_law_right" "_law_right" (top 78) "law_loomwright_k16_whole_drafts_turned" 807 570
noncomputable def Y9:Ob:=λ P=>tu #[]
noncomputable def Y8:Ob:=λ P=>tu #[(.str "_law_due" 945),(.str "_law_draft_here" 946),(.str "_law_lacking" 947),(.str "_law_way" 948)]
noncomputable def Wl:Ob:=λ P=>tu #[]
noncomputable def Zm:Ob:=λ P=>co "_law_all_right" "_law_all_right" 942 332 1 3 572 true 573 (.ref 574) (.ref 575) (.ref 576) 949 950
noncomputable def VH:Ob:=λ P=>fo "_law_all_right" "_law_all_right" (top 79) "law_loomwright_k16_whole_drafts_turned" 807 577
noncomputable def Xm:Ob:=λ P=>tu #[]
noncomputable def UM:Ob:=λ P=>tu #[(.str "_law_script" 955),(.str "_law_due" 956),(.str "_law_even" 957),(.str "_law_number" 958)]
noncomputable def Wr:Ob:=λ P=>tu #[]
noncomputable def Ut:Ob:=λ P=>co "law" "law" 952 344 1 3 579 true 580 (.ref 581) (.ref 582) (.ref 583) 959 960
noncomputable def X0:Ob:=λ P=>fo "law" "law" (top 80) "law_loomwright_k16_whole_drafts_turned" 807 584
noncomputable def aB (P:Params):List Obj:=Xm P::UM P::Wr P::Ut P::X0 P::[]
noncomputable def aj (P:Params):List Obj:=US P::UZ P::WU P::Yi P::Vh P::YA P::WZ P::Y9 P::Y8 P::Wl P::Zm P::VH P::aB P
noncomputable def av (P:Params):List Obj:=Wa P::WI P::U9 P::Y7 P::Ww P::Xb P::YQ P::U4 P::Yv P::Zn P::Vy P::UR P::aj P
noncomputable def ar (P:Params):List Obj:=Wf P::YB P::WK P::Z1 P::Zk P::VN P::Ur P::Yj P::Wc P::Vl P::WP P::Uj P::av P
noncomputable def aJ (P:Params):List Obj:=Xf P::YM P::VM P::Xd P::Vg P::Yr P::WW P::Wb P::W9 P::Vm P::Z2 P::WO P::ar P
noncomputable def aH (P:Params):List Obj:=Wn P::V2 P::YW P::Wq P::ZK P::W8 P::VQ P::Vq P::WQ P::X3 P::Zs P::Wo P::aJ P
noncomputable def ai (P:Params):List Obj:=Xz P::Xj P::WT P::Zx P::Zu P::Yb P::Xn P::UK P::V7 P::Um P::ZF P::UP P::aH P
noncomputable def ao (P:Params):List Obj:=W7 P::Vb P::VE P::Wd P::V0 P::Vi P::Xc P::WL P::Wv P::Yp P::UL P::WD P::ai P
noncomputable def aO (P:Params):List Obj:=VD P::Zl P::ZA P::Y3 P::Wj P::WV P::ZH P::Zv P::VT P::YL P::XY P::UD P::ao P
noncomputable def aP (P:Params):List Obj:=XS P::Xp P::Vw P::XI P::XF P::UO P::Yc P::ZD P::Z7 P::V9 P::Xv P::UV P::aO P
noncomputable def aR (P:Params):List Obj:=UE P::ZE P::XQ P::ZB P::Z3 P::Yu P::U6 P::X6 P::ZR P::ad P::Zp P::Zd P::aP P
noncomputable def aK (P:Params):List Obj:=XJ P::YC P::Z0 P::XB P::Vz P::W5 P::Ui P::V3 P::We P::Ve P::Wy P::ZZ P::aR P
noncomputable def aS (P:Params):List Obj:=Uq P::Xe P::Y0 P::YK P::WB P::Uk P::Ws P::XN P::Xk P::WX P::UI P::Ys P::aK P
noncomputable def aF (P:Params):List Obj:=VJ P::Yh P::UX P::XZ P::U3 P::Zf P::WE P::Zt P::Ym P::Zg P::ZN P::X2 P::aS P
noncomputable def ay (P:Params):List Obj:=VS P::Zh P::Zo P::Yk P::Zz P::Ye P::Yz P::Xq P::Vs P::VF P::Xa P::ZU P::aF P
noncomputable def aD (P:Params):List Obj:=YS P::aa P::VU P::Vv P::Xr P::XG P::XO P::Vf P::Zj P::UT P::Vn P::Z8 P::ay P
noncomputable def az (P:Params):List Obj:=Uu P::XR P::Zy P::UF P::VZ P::Ug P::WG P::U5 P::VG P::ZT P::V6 P::Wt P::aD P
noncomputable def au (P:Params):List Obj:=Xy P::YD P::Y4 P::Yt P::VX P::W1 P::YY P::UJ P::Vc P::W3 P::X4 P::Wk P::az P
noncomputable def aq (P:Params):List Obj:=XD P::W0 P::ZJ P::VW P::Y5 P::Zw P::X7 P::YU P::XE P::ZC P::WH P::ZV P::au P
noncomputable def ob9 (P:Params):List Obj:=V5 P::Vk P::XT P::Ud P::Vd P::X1 P::Y6 P::Xi P::Z5 P::Uv P::Wp P::VI P::aq P
noncomputable def ob8 (P:Params):List Obj:=Us P::W2 P::YR P::WN P::Uo P::WA P::UQ P::XV P::Wg P::YJ P::Z6 P::XM P::ob9 P
noncomputable def ob7 (P:Params):List Obj:=YZ P::Vr P::Vj P::Ua P::Vp P::UG P::X9 P::Ub P::Zc P::Ue P::ZL P::Wz P::ob8 P
noncomputable def ob6 (P:Params):List Obj:=Vo P::Y2 P::WM P::Xh P::Za P::UW P::Uc P::U2 P::Yd P::YG P::Yl P::Zr P::ob7 P
noncomputable def ob5 (P:Params):List Obj:=WR P::WS P::U7 P::ZW P::Zq P::WF P::YX P::Y1 P::YE P::Yw P::U8 P::Xx P::ob6 P
noncomputable def ob4 (P:Params):List Obj:=Xw P::Va P::Vu P::YT P::Yq P::Xu P::ZO P::UH P::Yg P::XA P::Uz P::Xg P::ob5 P
noncomputable def ob3 (P:Params):List Obj:=o87 P::o88 P::o89 P::o92 P::o99 P::VP P::VL P::V1 P::Yy P::Xo P::Up P::U1 P::ob4 P
noncomputable def ob2 (P:Params):List Obj:=o64 P::o66 P::o67 P::o68 P::o69 P::o70 P::o73 P::o80 P::o82 P::o83 P::o85 P::o86 P::ob3 P
noncomputable def ob1 (P:Params):List Obj:=o35 P::o42 P::o44 P::o45 P::o47 P::o48 P::o49 P::o50 P::o51 P::o54 P::o61 P::o63 P::ob2 P
def ob0 (P:Params):List Obj:=boot_o_2 P::o3 P::o15 P::o17 P::o18 P::o20 P::o21 P::o22 P::o29 P::o30 P::o31 P::o32 P::ob1 P
def frag (P:Params):Frag:=(nat_lit 2,boot_o_2 P)::(nat_lit 3,o3 P)::(nat_lit 15,o15 P)::(nat_lit 17,o17 P)::(nat_lit 18,o18 P)::(nat_lit 20,o20 P)::(nat_lit 21,o21 P)::(nat_lit 22,o22 P)::(nat_lit 29,o29 P)::(nat_lit 30,o30 P)::(nat_lit 31,o31 P)::(nat_lit 32,o32 P)::(nat_lit 35,o35 P)::(nat_lit 42,o42 P)::(nat_lit 44,o44 P)::(nat_lit 45,o45 P)::(nat_lit 47,o47 P)::(nat_lit 48,o48 P)::(nat_lit 49,o49 P)::(nat_lit 50,o50 P)::(nat_lit 51,o51 P)::(nat_lit 54,o54 P)::(nat_lit 61,o61 P)::(nat_lit 63,o63 P)::(nat_lit 64,o64 P)::(nat_lit 66,o66 P)::(nat_lit 67,o67 P)::(nat_lit 68,o68 P)::(nat_lit 69,o69 P)::(nat_lit 70,o70 P)::(nat_lit 73,o73 P)::(nat_lit 80,o80 P)::(nat_lit 82,o82 P)::(nat_lit 83,o83 P)::(nat_lit 85,o85 P)::(nat_lit 86,o86 P)::(nat_lit 87,o87 P)::(nat_lit 88,o88 P)::(nat_lit 89,o89 P)::(nat_lit 92,o92 P)::(nat_lit 99,o99 P)::(nat_lit 101,VP P)::(nat_lit 102,VL P)::(nat_lit 104,V1 P)::(nat_lit 105,Yy P)::(nat_lit 106,Xo P)::(nat_lit 107,Up P)::(nat_lit 108,U1 P)::(nat_lit 111,Xw P)::(nat_lit 118,Va P)::(nat_lit 120,Vu P)::(nat_lit 121,YT P)::(nat_lit 123,Yq P)::(nat_lit 124,Xu P)::(nat_lit 125,ZO P)::(nat_lit 126,UH P)::(nat_lit 127,Yg P)::(nat_lit 130,XA P)::(nat_lit 137,Uz P)::(nat_lit 138,Xg P)::(nat_lit 139,WR P)::(nat_lit 142,WS P)::(nat_lit 149,U7 P)::(nat_lit 150,ZW P)::(nat_lit 151,Zq P)::(nat_lit 154,WF P)::(nat_lit 161,YX P)::(nat_lit 162,Y1 P)::(nat_lit 163,YE P)::(nat_lit 166,Yw P)::(nat_lit 168,U8 P)::(nat_lit 169,Xx P)::(nat_lit 171,Vo P)::(nat_lit 172,Y2 P)::(nat_lit 173,WM P)::(nat_lit 175,Xh P)::(nat_lit 176,Za P)::(nat_lit 178,UW P)::(nat_lit 179,Uc P)::(nat_lit 180,U2 P)::(nat_lit 182,Yd P)::(nat_lit 183,YG P)::(nat_lit 185,Yl P)::(nat_lit 186,Zr P)::(nat_lit 187,YZ P)::(nat_lit 188,Vr P)::(nat_lit 190,Vj P)::(nat_lit 191,Ua P)::(nat_lit 193,Vp P)::(nat_lit 194,UG P)::(nat_lit 195,X9 P)::(nat_lit 197,Ub P)::(nat_lit 198,Zc P)::(nat_lit 200,Ue P)::(nat_lit 201,ZL P)::(nat_lit 202,Wz P)::(nat_lit 204,Us P)::(nat_lit 205,W2 P)::(nat_lit 207,YR P)::(nat_lit 208,WN P)::(nat_lit 209,Uo P)::(nat_lit 212,WA P)::(nat_lit 213,UQ P)::(nat_lit 214,XV P)::(nat_lit 217,Wg P)::(nat_lit 218,YJ P)::(nat_lit 219,Z6 P)::(nat_lit 222,XM P)::(nat_lit 223,V5 P)::(nat_lit 231,Vk P)::(nat_lit 234,XT P)::(nat_lit 235,Ud P)::(nat_lit 236,Vd P)::(nat_lit 239,X1 P)::(nat_lit 240,Y6 P)::(nat_lit 241,Xi P)::(nat_lit 243,Z5 P)::(nat_lit 244,Uv P)::(nat_lit 246,Wp P)::(nat_lit 247,VI P)::(nat_lit 248,XD P)::(nat_lit 250,W0 P)::(nat_lit 251,ZJ P)::(nat_lit 253,VW P)::(nat_lit 254,Y5 P)::(nat_lit 255,Zw P)::(nat_lit 256,X7 P)::(nat_lit 257,YU P)::(nat_lit 258,XE P)::(nat_lit 259,ZC P)::(nat_lit 262,WH P)::(nat_lit 264,ZV P)::(nat_lit 265,Xy P)::(nat_lit 267,YD P)::(nat_lit 268,Y4 P)::(nat_lit 269,Yt P)::(nat_lit 272,VX P)::(nat_lit 273,W1 P)::(nat_lit 274,YY P)::(nat_lit 276,UJ P)::(nat_lit 277,Vc P)::(nat_lit 279,W3 P)::(nat_lit 280,X4 P)::(nat_lit 281,Wk P)::(nat_lit 284,Uu P)::(nat_lit 285,XR P)::(nat_lit 286,Zy P)::(nat_lit 288,UF P)::(nat_lit 289,VZ P)::(nat_lit 291,Ug P)::(nat_lit 292,WG P)::(nat_lit 293,U5 P)::(nat_lit 296,VG P)::(nat_lit 297,ZT P)::(nat_lit 298,V6 P)::(nat_lit 301,Wt P)::(nat_lit 302,YS P)::(nat_lit 303,aa P)::(nat_lit 306,VU P)::(nat_lit 307,Vv P)::(nat_lit 308,Xr P)::(nat_lit 310,XG P)::(nat_lit 311,XO P)::(nat_lit 313,Vf P)::(nat_lit 314,Zj P)::(nat_lit 315,UT P)::(nat_lit 317,Vn P)::(nat_lit 318,Z8 P)::(nat_lit 320,VS P)::(nat_lit 321,Zh P)::(nat_lit 322,Zo P)::(nat_lit 324,Yk P)::(nat_lit 325,Zz P)::(nat_lit 327,Ye P)::(nat_lit 328,Yz P)::(nat_lit 329,Xq P)::(nat_lit 331,Vs P)::(nat_lit 332,VF P)::(nat_lit 334,Xa P)::(nat_lit 335,ZU P)::(nat_lit 336,VJ P)::(nat_lit 339,Yh P)::(nat_lit 340,UX P)::(nat_lit 341,XZ P)::(nat_lit 343,U3 P)::(nat_lit 344,Zf P)::(nat_lit 346,WE P)::(nat_lit 347,Zt P)::(nat_lit 348,Ym P)::(nat_lit 350,Zg P)::(nat_lit 351,ZN P)::(nat_lit 353,X2 P)::(nat_lit 354,Uq P)::(nat_lit 355,Xe P)::(nat_lit 358,Y0 P)::(nat_lit 359,YK P)::(nat_lit 360,WB P)::(nat_lit 363,Uk P)::(nat_lit 364,Ws P)::(nat_lit 372,XN P)::(nat_lit 374,Xk P)::(nat_lit 375,WX P)::(nat_lit 377,UI P)::(nat_lit 378,Ys P)::(nat_lit 379,XJ P)::(nat_lit 381,YC P)::(nat_lit 382,Z0 P)::(nat_lit 384,XB P)::(nat_lit 385,Vz P)::(nat_lit 386,W5 P)::(nat_lit 388,Ui P)::(nat_lit 389,V3 P)::(nat_lit 391,We P)::(nat_lit 392,Ve P)::(nat_lit 393,Wy P)::(nat_lit 395,ZZ P)::(nat_lit 396,UE P)::(nat_lit 398,ZE P)::(nat_lit 399,XQ P)::(nat_lit 400,ZB P)::(nat_lit 402,Z3 P)::(nat_lit 403,Yu P)::(nat_lit 405,U6 P)::(nat_lit 406,X6 P)::(nat_lit 407,ZR P)::(nat_lit 410,ad P)::(nat_lit 411,Zp P)::(nat_lit 412,Zd P)::(nat_lit 414,XS P)::(nat_lit 415,Xp P)::(nat_lit 417,Vw P)::(nat_lit 418,XI P)::(nat_lit 419,XF P)::(nat_lit 420,UO P)::(nat_lit 421,Yc P)::(nat_lit 422,ZD P)::(nat_lit 423,Z7 P)::(nat_lit 426,V9 P)::(nat_lit 429,Xv P)::(nat_lit 430,UV P)::(nat_lit 431,VD P)::(nat_lit 433,Zl P)::(nat_lit 434,ZA P)::(nat_lit 436,Y3 P)::(nat_lit 437,Wj P)::(nat_lit 438,WV P)::(nat_lit 441,ZH P)::(nat_lit 442,Zv P)::(nat_lit 443,VT P)::(nat_lit 446,YL P)::(nat_lit 447,XY P)::(nat_lit 448,UD P)::(nat_lit 451,W7 P)::(nat_lit 452,Vb P)::(nat_lit 453,VE P)::(nat_lit 456,Wd P)::(nat_lit 457,V0 P)::(nat_lit 458,Vi P)::(nat_lit 461,Xc P)::(nat_lit 462,WL P)::(nat_lit 463,Wv P)::(nat_lit 466,Yp P)::(nat_lit 467,UL P)::(nat_lit 468,WD P)::(nat_lit 471,Xz P)::(nat_lit 472,Xj P)::(nat_lit 473,WT P)::(nat_lit 476,Zx P)::(nat_lit 477,Zu P)::(nat_lit 478,Yb P)::(nat_lit 480,Xn P)::(nat_lit 481,UK P)::(nat_lit 483,V7 P)::(nat_lit 484,Um P)::(nat_lit 485,ZF P)::(nat_lit 488,UP P)::(nat_lit 489,Wn P)::(nat_lit 490,V2 P)::(nat_lit 493,YW P)::(nat_lit 494,Wq P)::(nat_lit 495,ZK P)::(nat_lit 498,W8 P)::(nat_lit 499,VQ P)::(nat_lit 500,Vq P)::(nat_lit 503,WQ P)::(nat_lit 504,X3 P)::(nat_lit 505,Zs P)::(nat_lit 508,Wo P)::(nat_lit 509,Xf P)::(nat_lit 510,YM P)::(nat_lit 513,VM P)::(nat_lit 514,Xd P)::(nat_lit 515,Vg P)::(nat_lit 517,Yr P)::(nat_lit 518,WW P)::(nat_lit 520,Wb P)::(nat_lit 521,W9 P)::(nat_lit 522,Vm P)::(nat_lit 524,Z2 P)::(nat_lit 525,WO P)::(nat_lit 527,Wf P)::(nat_lit 528,YB P)::(nat_lit 529,WK P)::(nat_lit 532,Z1 P)::(nat_lit 533,Zk P)::(nat_lit 534,VN P)::(nat_lit 536,Ur P)::(nat_lit 537,Yj P)::(nat_lit 539,Wc P)::(nat_lit 540,Vl P)::(nat_lit 541,WP P)::(nat_lit 544,Uj P)::(nat_lit 545,Wa P)::(nat_lit 546,WI P)::(nat_lit 549,U9 P)::(nat_lit 550,Y7 P)::(nat_lit 551,Ww P)::(nat_lit 553,Xb P)::(nat_lit 554,YQ P)::(nat_lit 556,U4 P)::(nat_lit 557,Yv P)::(nat_lit 558,Zn P)::(nat_lit 560,Vy P)::(nat_lit 561,UR P)::(nat_lit 563,US P)::(nat_lit 564,UZ P)::(nat_lit 565,WU P)::(nat_lit 567,Yi P)::(nat_lit 568,Vh P)::(nat_lit 570,YA P)::(nat_lit 571,WZ P)::(nat_lit 572,Y9 P)::(nat_lit 574,Y8 P)::(nat_lit 575,Wl P)::(nat_lit 577,Zm P)::(nat_lit 578,VH P)::(nat_lit 579,Xm P)::(nat_lit 581,UM P)::(nat_lit 582,Wr P)::(nat_lit 584,Ut P)::(nat_lit 585,X0 P)::[]
noncomputable def addrs:List Addr:=[2,3,15,17,18,20,21,22,29,30,31,32,35,42,44,45,47,48,49,50,51,54,61,63,64,66,67,68,69,70,73,80,82,83,85,86,87,88,89,92,99,101,102,104,105,106,107,108,111,118,120,121,123,124,125,126,127,130,137,138,139,142,149,150,151,154,161,162,163,166,168,169,171,172,173,175,176,178,179,180,182,183,185,186,187,188,190,191,193,194,195,197,198,200,201,202,204,205,207,208,209,212,213,214,217,218,219,222,223,231,234,235,236,239,240,241,243,244,246,247,248,250,251,253,254,255,256,257,258,259,262,264,265,267,268,269,272,273,274,276,277,279,280,281,284,285,286,288,289,291,292,293,296,297,298,301,302,303,306,307,308,310,311,313,314,315,317,318,320,321,322,324,325,327,328,329,331,332,334,335,336,339,340,341,343,344,346,347,348,350,351,353,354,355,358,359,360,363,364,372,374,375,377,378,379,381,382,384,385,386,388,389,391,392,393,395,396,398,399,400,402,403,405,406,407,410,411,412,414,415,417,418,419,420,421,422,423,426,429,430,431,433,434,436,437,438,441,442,443,446,447,448,451,452,453,456,457,458,461,462,463,466,467,468,471,472,473,476,477,478,480,481,483,484,485,488,489,490,493,494,495,498,499,500,503,504,505,508,509,510,513,514,515,517,518,520,521,522,524,525,527,528,529,532,533,534,536,537,539,540,541,544,545,546,549,550,551,553,554,556,557,558,560,561,563,564,565,567,568,570,571,572,574,575,577,578,579,581,582,584,585]
def fr0 (P:Params):Frag:=addrs.zip (ob0 P)
theorem Rw (P:Params):frag P=fr0 P:=by kernel_rfl
noncomputable def view:Program:={ PySem.Challenge.pw_loomwright_k16_whole_drafts_turned with main:={ PySem.Challenge.pw_loomwright_k16_whole_drafts_turned.main with body:=[top 0,top 1,top 2,top 3,top 4,top 6,top 7,top 8,top 9,top 10,top 11,top 12,top 13,top 14,top 16,top 17,top 18,top 19,top 21,top 22,top 23,top 24,top 25,top 26,top 27,top 28,top 29,top 30,top 32,top 33,top 34,top 35,top 36,top 37,top 39,top 40,top 41,top 42,top 43,top 44,top 45,top 46,top 48,top 49,top 51,top 52,top 53,top 54,top 56,top 57,top 58,top 59,top 60,top 61,top 63,top 64,top 65,top 66,top 67,top 68,top 69,top 70,top 71,top 72,top 73,top 74,top 75,top 76,top 77,top 78,top 79,top 80] } }
noncomputable abbrev Xt:Shared->Bool:=λ s=>xlAt view [] s&&recOk (RowW.records PySem.Challenge.rw_loomwright_k16_whole_drafts_turned.row.toRowW) s
theorem addrs_eq:∀ P:Params,addrs=(frag P).map (·.1):=λ _=>by kernel_rfl
abbrev hook:Hook:=kHook frag addrs addrs_eq
noncomputable def Sd:Ob:=λ P=>tu #[]
noncomputable def Sg:Ob:=λ P=>⟨.none,none,(.fields #[]), #[]⟩
noncomputable def RX:Ob:=λ P=>co "<module>" "<module>" 182 1 0 0 11 false 12 .none .none .none 185 186
noncomputable def Sf:Ob:=λ P=>⟨(.type "frame"),none, .plain, #[(some (.ref 13)),(some (.ref 3)),(some (.ref 3)),none,(some (.str "__main__" 164)),none,(some (.ref 0))]⟩
def Tl (P:Params):BT:=(.node (boot_o_7 P) .nil .nil)
noncomputable def RA (P:Params):BT:=(.node (Sd P) .nil .nil)
def SJ (P:Params):BT:=(.node (boot_o_9 P) .nil .nil)
noncomputable def QI (P:Params):BT:=(.node (RX P) .nil .nil)
def Ta (P:Params):BT:=(.node (boot_o_8 P) .nil .nil)
noncomputable def Ru (P:Params):BT:=(.node (Sg P) .nil .nil)
def QG (P:Params):BT:=(.node (boot_o_10 P) .nil .nil)
noncomputable def Qv (P:Params):BT:=(.node (Sf P) .nil .nil)
def s0 (P:Params) (os:OsState):SharedT:=⟨(.node (boot_o_0 P) (.node (boot_o_1 P) (.node (boot_o_3 P) (Tl P) (RA P)) (.node (boot_o_5 P) (SJ P) (QI P))) (.node (boot_o_2 P) (.node (boot_o_4 P) (Ta P) (Ru P)) (.node (boot_o_6 P) (QG P) (Qv P)))),15,{},Array.mk [],⟨0,0,0,0⟩,187,os⟩
def Tj (P:Params):BT:=(.node (boot_o_7 P) .nil .nil)
noncomputable def Q9 (P:Params):BT:=(.node (Sd P) .nil .nil)
def Ti (P:Params):BT:=(.node (boot_o_9 P) .nil .nil)
noncomputable def Ri (P:Params):BT:=(.node (RX P) .nil .nil)
def Sn (P:Params):BT:=(.node (boot_o_8 P) .nil .nil)
noncomputable def Qo (P:Params):BT:=(.node (Sg P) .nil .nil)
def Qw (P:Params):BT:=(.node (boot_o_10 P) .nil .nil)
noncomputable def QQ (P:Params):BT:=(.node (Sf P) .nil .nil)
def s1 (P:Params) (os:OsState):SharedT:=⟨(.node (boot_o_0 P) (.node (boot_o_1 P) (.node (boot_o_3 P) (Tj P) (Q9 P)) (.node (boot_o_5 P) (Ti P) (Ri P))) (.node (boot_o_2 P) (.node (boot_o_4 P) (Sn P) (Qo P)) (.node (boot_o_6 P) (Qw P) (QQ P)))),15,{},Array.mk [],⟨0,0,0,0⟩,187,os⟩
noncomputable def env0:Env:={ scope:=PySem.Challenge.pw_loomwright_k16_whole_drafts_turned.main.scope,locals:=mainNs,globals:=mainNs,cells:=[],code:= .ref 13,frame:=some 14 }
noncomputable def bd:List Stmt:=behindTheImports PySem.Challenge.pw_loomwright_k16_whole_drafts_turned
noncomputable def cd0:Code:= .body bd env0
noncomputable def b0:List Stmt:=bd.drop 0
noncomputable abbrev fuel:Nat:=12+(1+9978)
theorem YO:(λ _=>true) (HX.topT treeTable view (aWorld 1) 0 none,HX.goT treeTable view (aWorld 1) 0 none,view,fr0,PySem.Challenge.rw_loomwright_k16_whole_drafts_turned,cd0,b0,s0,s1)=true:=by k_qdec
theorem pre (w:World) (os:OsState):HX.goT treeTable PySem.Challenge.pw_loomwright_k16_whole_drafts_turned w 11 (some (.ref 6)) 12 ⟨HX.bootT w.params,11,{},Array.mk [],boot_drawn,boot_toks,os⟩ (topStub PySem.Challenge.pw_loomwright_k16_whole_drafts_turned)=some (s0 w.params os,⟨denote treeTable cd0,cd0,⟨0,0,0,0⟩,[topFrame ⟨0,0,0,0⟩]⟩):=by
  have _tw:=YO;rw [PySem.W.Fast.te16483141784210331187,PySem.W.Fast.te14364793385576792824,PySem.W.Fast.te11892475500146522536,PySem.W.Fast.te12686746080050838549,PySem.W.Fast.te503361018161073166,PySem.W.Fast.te9955712512934007454];kernel_rfl
theorem block (w:World) (os:OsState):segRunT treeTable PySem.Challenge.pw_loomwright_k16_whole_drafts_turned w 11 (some (.ref 6)) 1 1 (s0 w.params os) (blockOf bd env0 cd0 ⟨0,0,0,0⟩ [topFrame ⟨0,0,0,0⟩])=some (.next,s1 w.params os,cd0,⟨0,0,0,0⟩):=by
  rw [PySem.W.Fast.te10110043849684766642,PySem.W.Fast.te14364793385576792824,PySem.W.Fast.te12686746080050838549,PySem.W.Fast.te1788272628846210240,PySem.W.Fast.te16431662616213040666,PySem.W.Fast.te18378178143972226438,PySem.W.Fast.te503361018161073166,PySem.W.Fast.te9955712512934007454];kernel_rfl
theorem ah (w:World) (os:OsState):(HX.topT treeTable PySem.Challenge.pw_loomwright_k16_whole_drafts_turned w 11 (some (.ref 6)) 9978 (s1 w.params os) (restOf b0 env0 cd0 ⟨0,0,0,0⟩ [topFrame ⟨0,0,0,0⟩])).map (λ s=>((staticsOk (importedModules PySem.Challenge.pw_loomwright_k16_whole_drafts_turned.main.body) (boot_heap w.params) s.abs.heap&&namesBound PySem.Challenge.pw_loomwright_k16_whole_drafts_turned s.abs.heap&&gensDone s.abs&&laidKept (boot_heap w.params) s.abs.heap),addrs.map s.abs.heap.get?))=some (true,((fr0 w.params).map λ p=>some p.2)):=by
  rw [PySem.W.Fast.te5923862056798008813,PySem.W.Fast.te4519577196166263618,PySem.W.Fast.te14364793385576792824,PySem.W.Fast.te9621378704136392807,PySem.W.Fast.te1788272628846210240,PySem.W.Fast.te13006872122679832214,PySem.W.Fast.te18378178143972226438,PySem.W.Fast.te503361018161073166,PySem.W.Fast.te9955712512934007454];kernel_rfl
theorem aL (w:World) (os:OsState):(HX.topT treeTable PySem.Challenge.pw_loomwright_k16_whole_drafts_turned w 11 (some (.ref 6)) 9978 (s1 w.params os) (restOf b0 env0 cd0 ⟨0,0,0,0⟩ [topFrame ⟨0,0,0,0⟩])).map (λ s=>(λ o=>(o.1,o.2.1,o.2.2.1,o.2.2.2.1)) (openSeen view [] (importedModules PySem.Challenge.pw_loomwright_k16_whole_drafts_turned.main.body) Xt true s.abs))=some (expectedOf view,bltViewBooted,true,true):=by
  unfold Xt;rw [PySem.W.Fast.te5923862056798008813,PySem.W.Fast.te4187177175401517315,PySem.W.Fast.te2368527892694137696,PySem.W.Fast.te15225144947993219059,PySem.W.Fast.te4189865372369585421,PySem.W.Fast.te14364793385576792824,PySem.W.Fast.te9621378704136392807,PySem.W.Fast.te1788272628846210240,PySem.W.Fast.te13006872122679832214,PySem.W.Fast.te18378178143972226438,PySem.W.Fast.te503361018161073166,PySem.W.Fast.te9955712512934007454];kernel_rfl
theorem aw (w:World) (os:OsState):(HX.topT treeTable PySem.Challenge.pw_loomwright_k16_whole_drafts_turned w 11 (some (.ref 6)) 9978 (s1 w.params os) (restOf b0 env0 cd0 ⟨0,0,0,0⟩ [topFrame ⟨0,0,0,0⟩])).map (λ s=>(λ o=>(o.2.2.2.2.1,o.2.2.2.2.2.1,o.2.2.2.2.2.2.1,o.2.2.2.2.2.2.2.1,o.2.2.2.2.2.2.2.2)) (openSeen view [] (importedModules PySem.Challenge.pw_loomwright_k16_whole_drafts_turned.main.body) Xt true s.abs))=some (pinGoodD (drecsOf view),plainGoodE view (looseW view []),plainGoodD view [],wideGood view,clsGoodW view []):=by
  unfold Xt;rw [PySem.W.Fast.te5923862056798008813,PySem.W.Fast.te4187177175401517315,PySem.W.Fast.te2368527892694137696,PySem.W.Fast.te15225144947993219059,PySem.W.Fast.te4189865372369585421,PySem.W.Fast.te14364793385576792824,PySem.W.Fast.te9621378704136392807,PySem.W.Fast.te1788272628846210240,PySem.W.Fast.te13006872122679832214,PySem.W.Fast.te18378178143972226438,PySem.W.Fast.te503361018161073166,PySem.W.Fast.te9955712512934007454];kernel_rfl
theorem Xl:b0=bd:=by kernel_rfl
theorem left:LeftO PySem.Challenge.pw_loomwright_k16_whole_drafts_turned view [] Xt hook.obs hook.val fuel:=HX.left_run (by kernel_rfl) (by decide) (λ s=>by kernel_rfl) HX.hb λ w os=>by
  obtain ⟨s,r,l⟩:=Option.map_eq_some_iff.mp (ah w os);obtain ⟨s2,r2,l2⟩:=Option.map_eq_some_iff.mp (aL w os);cases r.symm.trans r2;obtain ⟨s3,r3,l3⟩:=Option.map_eq_some_iff.mp (aw w os);cases r.symm.trans r3;rw [<-Rw] at l;have t:=HX.topT_of r;rw [Xl] at t;have t:=piece_block (segRun_of (block w os)) t;have t:=go_top (HX.goT_of (pre w os)) t;exact ⟨s.abs,t,HX.three l (HX.nine l2 l3)⟩
end K16
namespace L2
open PySem PySem.Spec PyProof.Rows
abbrev Key:=Sum Int Str
noncomputable def Jj:Key->Value->Bool
  | .inl k,v=>Value.isInt k v
  | .inr x,v=>Value.isStrOf x v
noncomputable def aG (w:World):Key->Int
  | .inl k=>hashInt k
  | .inr x=>hashStr w x
theorem A7:∀ {k:Key} {v:Value},Jj k v=true->(∃ i t,k=Sum.inl i/\v=Value.int i t)\/(∃ x t,k=Sum.inr x/\v=Value.str x t)
  | .inl i,v,h=>by
    obtain ⟨t,e⟩:=Value.isInt_shape (k:=i) (v:=v) h;exact .inl ⟨i,t,rfl,e⟩
  | .inr x,v,h=>by
    obtain ⟨t,e⟩:=Value.isStrOf_shape (x:=x) (v:=v) h;exact .inr ⟨x,t,rfl,e⟩
theorem Og (i:Int) (t:Tok):Jj (.inl i) (.int i t)=true:=by simp [Jj,Value.isInt]
theorem NS (x:Str) (t:Tok):Jj (.inr x) (.str x t)=true:=by simp [Jj,Value.isStrOf]
theorem SR (a b:Int):decide ((Sum.inl a:Key)=Sum.inl b)=(a == b):=by
  by_cases e:a=b
  · subst e;simp
  · have h:¬ (Sum.inl a:Key)=Sum.inl b:=λ q=>e (Sum.inl.inj q);rw [decide_eq_false h];exact (beq_eq_false_iff_ne.mpr e).symm
theorem SM (a b:Str):decide ((Sum.inr a:Key)=Sum.inr b)=decide (a=b):=by
  by_cases e:a=b
  · subst e;simp
  · have h:¬ (Sum.inr a:Key)=Sum.inr b:=λ q=>e (Sum.inr.inj q);rw [decide_eq_false h,decide_eq_false e]
theorem SE (a:Int) (b:Str):decide ((Sum.inl a:Key)=Sum.inr b)=false:=decide_eq_false (λ q=>nomatch q)
theorem Tf (a:Str) (b:Int):decide ((Sum.inr a:Key)=Sum.inl b)=false:=decide_eq_false (λ q=>nomatch q)
noncomputable def Bb (prog:Program) (w:World):PySem.KeyKind prog w Key where
  is:=Jj
  hash:=aG w
  inj:=λ v a b ha hb=>by
    rcases A7 ha with ⟨i,t,rfl,rfl⟩ | ⟨x,t,rfl,rfl⟩
    · rcases A7 hb with ⟨j,u,rfl,e⟩ | ⟨y,u,rfl,e⟩
      · injection e with e1 _;rw [e1]
      · exact nomatch e
    · rcases A7 hb with ⟨j,u,rfl,e⟩ | ⟨y,u,rfl,e⟩
      · exact nomatch e
      · injection e with e1 _;rw [e1]
  byValue:=λ k v h=>by
    rcases A7 h with ⟨i,t,rfl,rfl⟩ | ⟨x,t,rfl,rfl⟩ <;> rfl
  pyHash:=λ hv h=>by
    rcases A7 hv with ⟨i,t,rfl,rfl⟩ | ⟨x,t,rfl,rfl⟩
    · exact wpAny_pyHash_int h
    · exact wpAny_pyHash_str h
  eqBool:=λ hu hv h=>by
    rcases A7 hu with ⟨i,t,rfl,rfl⟩ | ⟨x,t,rfl,rfl⟩
    · rcases A7 hv with ⟨j,u,rfl,rfl⟩ | ⟨y,u,rfl,rfl⟩
      · rw [SR] at h;exact wpAny_eqBool_int h
      · rw [SE] at h;exact SeqAt.EqAt.int_str i t y u _ _ _ _ h
    · rcases A7 hv with ⟨j,u,rfl,rfl⟩ | ⟨y,u,rfl,rfl⟩
      · rw [Tf] at h;exact SeqAt.EqAt.str_int x t j u _ _ _ _ h
      · rw [SM] at h;exact wpAny_eqBool_str h
  «strs» := λ k x t v h=>by
    rcases A7 h with ⟨i,u,rfl,e⟩ | ⟨y,u,rfl,e⟩
    · exact nomatch e
    · injection e with e1 _;subst e1;cases v <;> rfl
theorem K3 (prog:Program) (w:World) (i:Int) (t:Tok):(Bb prog w).is (.inl i) (.int i t)=true:=Og i t
theorem K2 (prog:Program) (w:World) (x:Str) (t:Tok):(Bb prog w).is (.inr x) (.str x t)=true:=NS x t
inductive V where
  | non | bl (b:Bool) | int (i:Int) | str (x:Str) | byt (b:Array UInt8) | flt (b:UInt64) | ref (a:Addr) | ty (n:String)
  deriving DecidableEq
def RelV:V->Value->Prop
  | .non,u=>u=Value.none
  | .bl b,u=>u=Value.bool b
  | .int i,u=>∃ t,u=Value.int i t
  | .str x,u=>∃ t,u=Value.str x t
  | .byt b,u=>∃ t,u=Value.bytes b t
  | .flt b,u=>∃ t,u=Value.float b t
  | .ref a,u=>u=Value.ref a
  | .ty n,u=>u=Value.type n
abbrev Vals:List V->List Value->Prop:=Paired RelV
theorem Vals.length {xs:List V} {us:List Value} (r:Vals xs us):xs.length=us.length:=Paired.length r
theorem Vals.get:∀ {xs:List V} {us:List Value} {i:Nat} {x:V},Vals xs us->xs[i]?=some x->∃ u,us[i]?=some u/\RelV x u
  | _,_,_,_, .nil,e=>by simp at e
  | _,_,0,_, .cons r _,e=>by simp at e;subst e;exact ⟨_,rfl,r⟩
  | _,_,i+1,x, .cons _ t,e=>by
    obtain ⟨u,h1,h2⟩:=Vals.get (i:=i) (x:=x) t (by simpa using e);exact ⟨u,by simpa using h1,h2⟩
theorem Vals.set {x:V} {u:Value} (r:RelV x u):∀ {xs:List V} {us:List Value} (i:Nat),Vals xs us->Vals (xs.set i x) (us.set i u)
  | _,_,_, .nil=> .nil
  | _,_,0, .cons _ t=> .cons r t
  | _,_,i+1, .cons q t=> .cons q (Vals.set r i t)
theorem Vals.append:∀ {xs ys:List V} {us ws:List Value},Vals xs us->Vals ys ws->Vals (xs++ys) (us++ws)
  | _,_,_,_, .nil,s=>s
  | _,_,_,_, .cons r t,s=> .cons r (Vals.append t s)
theorem Vals.take:∀ {xs:List V} {us:List Value} (n:Nat),Vals xs us->Vals (xs.take n) (us.take n)
  | _,_,0,_=> .nil
  | _,_,_+1, .nil=> .nil
  | _,_,n+1, .cons r t=> .cons r (Vals.take n t)
theorem Vals.drop:∀ {xs:List V} {us:List Value} (n:Nat),Vals xs us->Vals (xs.drop n) (us.drop n)
  | _,_,0,r=>r
  | _,_,_+1, .nil=> .nil
  | _,_,n+1, .cons _ t=>Vals.drop n t
def RelO:Option V->Option Value->Prop
  | some v,some u=>RelV v u
  | none,none=>True
  | _,_=>False
def KV {κ:Type}:List (κ × V)->List (κ × Value)->Prop:=Paired λ (p:κ × V) (q:κ × Value)=>p.1=q.1/\RelV p.2 q.2
noncomputable def kV:Key->V
  | .inl i=> .int i
  | .inr x=> .str x
inductive HO where
  | lst (xs:List V)
  | tup (xs:List V)
  | dK (kvs:List (Key × V)) | dT (kvs:List (List Key × V))
  | set (S:Int->Bool) (n:Nat)
  | ins (C dx:Addr) (fs:List (Str × V))
  | own (x:Addr)
  | xd (fs:List (Str × V))
  | met (f x:Addr)
  | rng (lo hi:Int)
  | frz (o:Obj) (u:HO)
  | tbl (ps:Array Value)
  | ext (φ:Heap->Prop)
abbrev Hp:=Addr->Option HO
noncomputable def upd (H:Hp) (a:Addr) (o:HO):Hp:=λ b=>if b=a then some o else H b
theorem Af {H:Hp} {a:Addr} {o:HO}:upd H a o a=some o:=by unfold upd;rw [if_pos rfl]
theorem Al {H:Hp} {a b:Addr} {o:HO} (h:b≠a):upd H a o b=H b:=by unfold upd;rw [if_neg h]
theorem GU {H:Hp} {a b:Addr} {o u:HO} (h:H a=some o) (h':H b=some u) (d:o≠u):a≠b:=by
  intro e;subst e;rw [h] at h';exact d (Option.some.inj h')
theorem Ap {H:Hp} {a b:Addr} {o:HO} (h:H a=some o) (h':H b=none):a≠b:=by
  intro e;subst e;rw [h] at h';cases h'
section
variable (P:Program) (w:World)
def ObjOk (H:Hp) (h:Heap) (a:Addr):HO->Prop
  | .lst xs=>xs.length<=sizeLine/\∃ (its:List Value) (n:Nat),Vals xs its/\h.get? a=some { cls:= .type "list",data:= .seq its.toArray n }
  | .tup xs=>xs.length<=sizeLine/\∃ its:List Value,Vals xs its/\IsTup h a its.toArray
  | .dK kvs=>kvs.length<=sizeLine/\(a == sysModules)=false/\∃ vs,KV kvs vs/\h.DictOf (Bb P w) a vs
  | .dT kvs=>kvs.length<=sizeLine/\(a == sysModules)=false/\∃ xs:List (List Key × Addr × Value),
      Paired (λ (p:List Key × V) (q:List Key × Addr × Value)=>p.1=q.1/\H q.2.1=some (.tup (p.1.map kV))/\RelV p.2 q.2.2) kvs xs/\
      ∃ o es ep,h.get? a=some o/\o.ExactDict/\o.data= .dict es ep/\es.toList=xs.map (entryOfKey (tupleKind (Bb P w)))/\(xs.map (·.1)).Nodup
  | .set S n=>h.SetOf (intKind P w) a S n
  | .ins C dx fs=>H dx=some (.own a)/\fs.length<=1000/\dx≠a/\h.get? a=some (PySem.W.instObj C dx)/\
      ∃ mA,h.Ns1 dx mA/\(∀ f,RelO (fs.lookup f) (mA f))/\PySem.Within mA (fs.map (·.1))
  | .own _=>∃ o,h.get? a=some o
  | .xd fs=>∃ mA,h.Ns1 a mA/\∀ f,RelO (fs.lookup f) (mA f)
  | .rng lo hi=>∃ t u v,h.get? a=some { cls:= .type "range",data:= .fields #[.int lo t, .int hi u, .int 1 v] }
  | .frz o u=>h.get? a=some o/\ObjOk H h a u
  | .tbl ps=>h.get? a=some { cls:= .none,data:= .fields ps }
  | .met f x=>h.get? a=some (PySem.W.methodObj (.ref f) (.ref x))
  | .ext φ=>φ h/\(∃ o,h.get? a=some o)/\∀ h1 h2:Heap,φ h1->(∀ o,h1.get? a=some o->h2.get? a=some o)->φ h2
def HOk (H:Hp) (h:Heap):Prop:=∀ a o,H a=some o->ObjOk P w H h a o
end
section
variable {P:Program} {w:World} {H H':Hp} {h h':Heap} {a:Addr} {o:HO}
theorem ObjOk.lt (x:ObjOk P w H h a o):a<h.objs.size:=by
  cases o with
  | lst xs=>obtain ⟨_,_,_,_,e⟩:=x;exact Heap.lt_size e
  | tup xs=>obtain ⟨_,_,_,p⟩:=x;exact p.lt
  | dK kvs=>obtain ⟨_,_,_,_,o,_,_,e,_⟩:=x;exact Heap.lt_size e
  | dT kvs=>obtain ⟨_,_,_,_,o,_,_,e,_⟩:=x;exact Heap.lt_size e
  | set S n=>obtain ⟨o,_,_,_,e,_⟩:=x;exact Heap.lt_size e
  | ins C dx fs=>obtain ⟨_,_,_,e,_⟩:=x;exact Heap.lt_size e
  | own y=>obtain ⟨_,e⟩:=x;exact Heap.lt_size e
  | xd fs=>obtain ⟨_,⟨_,_,_,e,_⟩,_⟩:=x;exact Heap.lt_size e
  | rng lo hi=>obtain ⟨_,_,_,e⟩:=x;exact Heap.lt_size e
  | frz ob u=>obtain ⟨e,_⟩:=x;exact Heap.lt_size e
  | tbl ps=>exact Heap.lt_size (show h.get? a=some _ from x)
  | met f y=>exact Heap.lt_size (show h.get? a=some _ from x)
  | ext φ=>obtain ⟨_,⟨_,e⟩,_⟩:=x;exact Heap.lt_size e
theorem Paired.mapP {α β:Type} {F G:α->β->Prop}:∀ {l₁:List α} {l₂:List β},Paired F l₁ l₂->(∀ a b,F a b->G a b)->Paired G l₁ l₂
  | _,_, .nil,_=> .nil
  | _,_, .cons r t,f=> .cons (f _ _ r) (Paired.mapP t f)
theorem ObjOk.stay (x:ObjOk P w H h a o) (k:∀ b u,(b=a\/H b=some (.own a))->h.get? b=some u->h'.get? b=some u)
    (ho:∀ b,H b=some (.own a)->H' b=some (.own a)) (ht:∀ b xs,H b=some (.tup xs)->H' b=some (.tup xs)):ObjOk P w H' h' a o:=by
  induction o with
  | lst xs=>obtain ⟨z,its,n,r,e⟩:=x;exact ⟨z,its,n,r,k _ _ (.inl rfl) e⟩
  | tup xs=>obtain ⟨z,its,r,ob,e,c⟩:=x;exact ⟨z,its,r,ob,k _ _ (.inl rfl) e,c⟩
  | dK kvs=>obtain ⟨z,y,vs,r,ob,es,ep,e,c⟩:=x;exact ⟨z,y,vs,r,ob,es,ep,k _ _ (.inl rfl) e,c⟩
  | dT kvs=>
    obtain ⟨z,y,xs,r,ob,es,ep,e,c⟩:=x;exact ⟨z,y,xs,Paired.mapP r λ p q z=>⟨z.1,ht _ _ z.2.1,z.2.2⟩,ob,es,ep,k _ _ (.inl rfl) e,c⟩
  | set S n=>obtain ⟨ob,es,ep,t,e,c⟩:=x;exact ⟨ob,es,ep,t,k _ _ (.inl rfl) e,c⟩
  | ins C dx fs=>
    obtain ⟨d,z,ne,e,mA,⟨od,es,ep,e2,c⟩,r⟩:=x;exact ⟨ho _ d,z,ne,k _ _ (.inl rfl) e,mA,⟨od,es,ep,k _ _ (.inr d) e2,c⟩,r⟩
  | own y=>obtain ⟨ob,e⟩:=x;exact ⟨ob,k _ _ (.inl rfl) e⟩
  | xd fs=>obtain ⟨mA,⟨od,es,ep,e,c⟩,r⟩:=x;exact ⟨mA,⟨od,es,ep,k _ _ (.inl rfl) e,c⟩,r⟩
  | rng lo hi=>obtain ⟨t,u,v,e⟩:=x;exact ⟨t,u,v,k _ _ (.inl rfl) e⟩
  | frz ob u ih=>obtain ⟨e,q⟩:=x;exact ⟨k _ _ (.inl rfl) e,ih q⟩
  | tbl ps=>
    have e:h.get? a=some { cls:= .none,data:= .fields ps }:=x;show h'.get? a=some { cls:= .none,data:= .fields ps };exact k a _ (.inl rfl) e
  | met f y=>
    have e:h.get? a=some (PySem.W.methodObj (.ref f) (.ref y)):=x;show h'.get? a=some (PySem.W.methodObj (.ref f) (.ref y));exact k a _ (.inl rfl) e
  | ext φ=>obtain ⟨p,⟨o,e⟩,st⟩:=x;exact ⟨st _ _ p λ o q=>k _ _ (.inl rfl) q,⟨o,k _ _ (.inl rfl) e⟩,st⟩
theorem HOk.lt (x:HOk P w H h) (e:H a=some o):a<h.objs.size:=(x a o e).lt
theorem HOk.fresh (x:HOk P w H h) (e:h.objs.size<=a):H a=none:=by
  cases q:H a with
  | none=>rfl
  | some u=>exact absurd (Nat.lt_of_lt_of_le (x.lt q) e) (Nat.lt_irrefl _)
theorem HOk.kept (x:HOk P w H h) (k:∀ b u,h.get? b=some u->h'.get? b=some u):HOk P w H h':=λ a o e=>
  (x a o e).stay (λ b u _ q=>k b u q) (λ _ q=>q) λ _ _ q=>q
theorem HOk.laid (x:HOk P w H h) (k:∀ b u,h.get? b=some u->h'.get? b=some u) (hp:h.objs.size<=a) (new:ObjOk P w (upd H a o) h' a o):HOk P w (upd H a o) h':=λ b u e=>by
  have hn:=x.fresh hp;by_cases hb:b=a
  · subst hb;rw [Af] at e;cases e;exact new
  · rw [Al hb] at e;exact (x b u e).stay (λ c v _ q=>k c v q) (λ c q=>by rw [Al (Ap q hn)];exact q) λ c xs q=>by rw [Al (Ap q hn)];exact q
end
def Rd (H:Hp) (a:Addr) (u:HO):Prop:=H a=some u\/∃ o,H a=some (.frz o u)
theorem Rd.ok {P:Program} {w:World} {H:Hp} {h:Heap} {a:Addr} {u:HO} (r:Rd H a u) (x:HOk P w H h):ObjOk P w H h a u:=by
  rcases r with r | ⟨o,r⟩
  · exact x a u r
  · obtain ⟨_,q⟩:=x a _ r;exact q
def Mut:Option HO->Prop
  | some (.lst _)=>True
  | some (.dK _)=>True
  | some (.dT _)=>True
  | some (.set _ _)=>True
  | some (.ins _ _ _)=>True
  | some (.ext _)=>True
  | _=>False
section
variable {P:Program} {w:World} {H:Hp} {h h':Heap} {x e:Addr} {o':HO}
theorem HOk.write (ok:HOk P w H h) (mu:Mut (H x)) (he:e=x\/H e=some (.own x)) (k:∀ b u,b≠e->h.get? b=some u->h'.get? b=some u) (heo:∃ u,h'.get? e=some u)
    (new:ObjOk P w (upd H x o') h' x o'):HOk P w (upd H x o') h':=λ b u q=>by
  have nown:∀ c y,H c=some (.own y)->c≠x:=λ c y r z=>by subst z;rw [r] at mu;exact mu
  have ntup:∀ c xs,H c=some (.tup xs)->c≠x:=λ c xs r z=>by subst z;rw [r] at mu;exact mu
  by_cases hb:b=x
  · subst hb;rw [Af] at q;cases q;exact new
  · rw [Al hb] at q;by_cases hbe:b=e
    · have q':H b=some (.own x):=by
        rcases he with z | z
        · exact absurd (hbe.trans z) hb
        · rw [hbe];exact z
      rw [q] at q';cases q';obtain ⟨v,hv⟩:=heo;exact ⟨v,by rw [hbe];exact hv⟩
    · refine (ok b u q).stay (λ c v hc r=>k c v ?_ r) (λ c r=>by rw [Al (nown c b r)];exact r) λ c xs r=>by rw [Al (ntup c xs r)];exact r
      rcases hc with rfl | hc
      · exact hbe
      · rintro rfl;rcases he with z | z
        · exact nown c b hc z
        · rw [hc] at z;cases z;exact hb rfl
end
structure Un (fs ex:List Addr) (H H':Hp) (h h':Heap):Prop where
  keep:∀ b o,h.get? b=some o->H b=none->b∉fs->b∉ex->h'.get? b=some o
  slot:∀ b o,h.get? b=some o->H b=none->b∈fs->b∉ex->∃ sl,h'.get? b=some { o with slots:=sl }
  free:∀ b o,h.get? b=some o->H b=none->b∉ex->H' b=none
  there:∀ b o,h.get? b=some o->b∉ex->∃ o',h'.get? b=some o'
  tups:∀ b xs,H b=some (.tup xs)->H' b=some (.tup xs)
  frzs:∀ b o u,H b=some (.frz o u)->H' b=some (.frz o u)
  tbls:∀ b ps,H b=some (.tbl ps)->∃ more,H' b=some (.tbl (ps++more))
section
variable {fs fs' ex ex':List Addr} {H H1 H2:Hp} {h h1 h2 h':Heap} {a x e:Addr} {o:HO}
theorem Un.any (u:Un fs ex H H1 h h1) {b:Addr} {ob:Obj} (q:h.get? b=some ob) (n:H b=none) (hx:b∉ex):∃ sl,h1.get? b=some { ob with slots:=sl }:=by
  by_cases hb:b∈fs
  · exact u.slot b ob q n hb hx
  · exact ⟨ob.slots,u.keep b ob q n hb hx⟩
theorem Un.kept (k:∀ b u,h.get? b=some u->h'.get? b=some u):Un fs ex H H h h':=
  ⟨λ b ob q _ _ _=>k b ob q,λ b ob q _ _ _=>⟨ob.slots,k b ob q⟩,λ _ _ _ n _=>n,λ b ob q _=>⟨ob,k b ob q⟩,λ _ _ q=>q,λ _ _ _ q=>q,λ _ ps q=>⟨#[],by rw [q];simp⟩⟩
theorem Un.refl:Un fs ex H H h h:=Un.kept λ _ _ q=>q
theorem Un.laid (k:∀ b u,h.get? b=some u->h'.get? b=some u) (hp:h.objs.size<=a) (hn:H a=none):Un fs ex H (upd H a o) h h' where
  keep:=λ b u q _ _ _=>k b u q
  slot:=λ b u q _ _ _=>⟨u.slots,k b u q⟩
  free:=λ b u q n _=>by rw [Al (Nat.ne_of_lt (Nat.lt_of_lt_of_le (Heap.lt_size q) hp))];exact n
  there:=λ b u q _=>⟨u,k b u q⟩
  tups:=λ b xs q=>by rw [Al (Ap q hn)];exact q
  frzs:=λ b u xs q=>by rw [Al (Ap q hn)];exact q
  tbls:=λ b ps q=>⟨#[],by rw [Al (Ap q hn),q];simp⟩
theorem Un.write (mu:Mut (H x)) (he:e=x\/H e=some (.own x)) (k:∀ b u,b≠e->h.get? b=some u->h'.get? b=some u) (heo:∃ u,h'.get? e=some u):Un fs ex H (upd H x o) h h':=by
  have hx:∀ b,H b=none->b≠x:=λ b n z=>by subst z;rw [n] at mu;exact mu
  have hb:∀ b,H b=none->b≠e:=λ b n z=>by
    subst z;rcases he with r | r
    · exact hx b n r
    · rw [n] at r;cases r
  have hm:∀ b u,H b=some u->¬ Mut (some u)->b≠x:=λ b u q nm z=>by subst z;rw [q] at mu;exact nm mu
  refine ⟨λ b u q n _ _=>k b u (hb b n) q,λ b u q n _ _=>⟨u.slots,k b u (hb b n) q⟩,λ b u q n _=>by rw [Al (hx b n)];exact n,λ b u q _=> ?_,
    λ b xs q=>by rw [Al (hm b _ q λ z=>z)];exact q,λ b u xs q=>by rw [Al (hm b _ q λ z=>z)];exact q,λ b ps q=>⟨#[],by rw [Al (hm b _ q λ z=>z),q];simp⟩⟩
  by_cases hbe:b=e
  · subst hbe;exact heo
  · exact ⟨u,k b u hbe q⟩
end
noncomputable def trk (h:Heap) (H:Hp):List Addr:=(List.range h.objs.size).filter λ a=>(H a).isSome
noncomputable def J2 (h:Heap) (H:Hp):Heap:=PySem.W.hideAll h (trk h H)
theorem Oa (h:Heap) (H:Hp):(J2 h H).objs.size=h.objs.size:=PySem.W.hideAll_size _ _
theorem PB {h:Heap} {H:Hp} {b:Addr} {o:Obj} (e:h.get? b=some o) (n:H b=none):(J2 h H).get? b=some o:=
  PySem.W.hideAll_get _ e λ hm=>by
    have q:(H b).isSome=true:=(List.mem_filter.mp hm).2;rw [n] at q;simp at q
theorem Rg {h:Heap} {H:Hp} {b:Addr} {o:Obj} (e:(J2 h H).get? b=some o):h.get? b=some o/\H b=none:=by
  have e':h.get? b=some o:=PySem.W.of_hideAll (trk h H) e;refine ⟨e',?_⟩;cases q:H b with
  | none=>rfl
  | some x=>
    have hm:b∈trk h H:=List.mem_filter.mpr ⟨List.mem_range.mpr (Heap.lt_size e'),by simp [q]⟩;have z:(J2 h H).get? b=none:=PySem.W.hideAll_none (trk h H) hm;rw [z] at e;cases e
noncomputable def Qg (g h:Heap) (L:Addr):List (Addr × Obj):=(List.range h.objs.size).filterMap λ a=>if a=L\/(g.get? a).isSome=true then none else (h.get? a).map λ o=>(a,o)
noncomputable def rest (g h:Heap) (L d:Addr):List (Addr × Obj):=(Qg g h L).filter λ p=>decide (p.1≠d)
structure Mod (K:PySem.W.Frag) (mg:Str->Option Value) (base:Heap):Prop where
  kin:K.In base
  glob:base.Ns mainGlobals mg
  blt:∃ mb,base.Ns builtinsNs mb/\∀ x:Str,x≠"__name__"->mb x=bootBuiltins x
  nolimit:base.NoLimit
structure Cx where
  prog:Program
  w:World
  K:PySem.W.Frag
  mg:Str->Option Value
  base:Heap
  A:Around
  N:List Str
  s₀:Shared
  H₀:Hp
  env:Env
  outer:List Env
  stack:List Env
  ex:List Addr
  fn:Str->Bool
  calm:Bool
  pn:List (Addr × Obj)
  xe:Value->Shared->Prop
noncomputable def frs (l:List Env):List Addr:=l.filterMap (·.frame)
noncomputable abbrev Cx.fs (X:Cx):List Addr:=frs X.outer
def Vis (sc:Scope) (x:Str):Prop:=sc.names.lookup x=some .local\/sc.names.lookup x=some .cell\/sc.names.lookup x=some .free
def Loc (sc:Scope) (x:Str):Prop:=sc.names.lookup x=some .local\/sc.names.lookup x=some .cell
def aI (env:Env) (h:Heap) (m:Str->Option Value) (x:Str) (u:Value):Prop:=
  (env.kindOf x=some .local/\m x=some u)\/((env.kindOf x=some .cell\/env.kindOf x=some .free)/\∃ c,env.cells.lookup x=some c/\h.IsCell c (some u))
structure Cx.Ok (X:Cx):Prop where
  mod:Mod X.K X.mg X.base
  kind:X.env.scope.kind= .function
  glob:X.env.globals=mainGlobals
  blt:X.env.builtins=builtinsNs
  above:X.s₀.heap.objs.size<=X.env.locals
  inj:∀ x y c,X.env.cells.lookup x=some c->X.env.cells.lookup y=some c->x=y
  has:∀ x,(X.env.kindOf x=some .cell\/X.env.kindOf x=some .free)->∃ c,X.env.cells.lookup x=some c
  cab:∀ x c,X.fn x=true->X.env.cells.lookup x=some c->X.s₀.heap.objs.size<=c
  hd:X.calm=true->X.A.handled=none
  frames:X.A.frames=some X.stack
  stk:X.stack=X.outer\/(X.stack=X.env::X.outer/\X.env.frame=some X.env.locals)
  exf:∀ b∈X.ex,b≠X.env.locals/\∀ x c,X.env.cells.lookup x=some c->c≠b
  bs:∀ b o,X.base.get? b=some o->X.s₀.heap.get? b=some o/\X.H₀ b=none
  bsz:X.base.objs.size<=X.s₀.heap.objs.size
  noex:∀ b o,X.base.get? b=some o->b∉X.ex
  exfs:∀ b∈X.ex,b∉X.fs
  funs:X.s₀.heap.FunFrames X.base X.outer
  frf:∀ b∈X.fs,X.H₀ b=none
structure Inv (X:Cx) (pins:List (Addr × Obj)) (σ:List (Option V)) (H:Hp) (s:Shared):Prop where
  ok:X.Ok
  os:s.os=X.s₀.os
  bare:AllBare s.gens
  base:Un X.fs X.ex X.H₀ H X.s₀.heap s.heap
  loc:∃ m,s.heap.Ns X.env.locals m/\∀ (i:Nat) (x:Str) (v:V),X.N[i]?=some x->σ[i]?=some (some v)->Vis X.env.scope x->∃ u,RelV v u/\aI X.env s.heap m x u
  cell:∀ x c,X.env.cells.lookup x=some c->∃ v,s.heap.IsCell c v
  free:H X.env.locals=none
  freeC:∀ x c,X.env.cells.lookup x=some c->H c=none
  pin:∀ p∈X.pn++pins,s.heap.get? p.1=some p.2/\H p.1=none/\p.1≠X.env.locals/\p.1∉X.fs/\∀ v,p.2.data≠ .cell v
  hok:HOk X.prog X.w H s.heap
  len:σ.length=X.N.length
section
variable {X:Cx} {pins:List (Addr × Obj)} {σ:List (Option V)} {H H':Hp} {s:Shared} {h':Heap}
theorem Cx.Ok.nofr (ok:X.Ok) {b:Addr} {o:Obj} (e:X.base.get? b=some o):b∉X.fs:=λ hb=>by
  have:=(ok.funs.mem hb).1;rw [e] at this;cases this
theorem Inv.bs (I:Inv X pins σ H s):∀ b o,X.base.get? b=some o->s.heap.get? b=some o/\H b=none:=λ b o e=>
  ⟨I.base.keep b o (I.ok.bs b o e).1 (I.ok.bs b o e).2 (I.ok.nofr e) (I.ok.noex b o e),I.base.free b o (I.ok.bs b o e).1 (I.ok.bs b o e).2 (I.ok.noex b o e)⟩
theorem Inv.bk (I:Inv X pins σ H s):∀ b o,X.base.get? b=some o->s.heap.get? b=some o:=λ b o e=>(I.bs b o e).1
theorem Inv.mod (I:Inv X pins σ H s):Mod X.K X.mg X.base:=I.ok.mod
theorem Inv.kIn (I:Inv X pins σ H s):X.K.In s.heap:=I.ok.mod.kin.keeps I.bk
theorem Inv.fr (I:Inv X pins σ H s):∃ m,Fr X.base X.env.locals s.heap m:=
  let ⟨m,hn,_⟩:=I.loc
  ⟨m,hn,I.bk,Nat.le_trans I.ok.bsz I.ok.above⟩
theorem Inv.lt (I:Inv X pins σ H s):X.env.locals<s.heap.objs.size:=let ⟨_,hn,_⟩:=I.loc;hn.lt
theorem Inv.sz (I:Inv X pins σ H s):X.s₀.heap.objs.size<=s.heap.objs.size:=Nat.le_trans I.ok.above (Nat.le_of_lt I.lt)
theorem Inv.nofs (I:Inv X pins σ H s) {a:Addr} (h:s.heap.objs.size<=a):a∉X.fs:=λ hb=>by
  obtain ⟨_,o,ho,_⟩:=I.ok.funs.mem hb;exact absurd (Nat.lt_of_lt_of_le (Heap.lt_size ho) (Nat.le_trans I.sz h)) (Nat.lt_irrefl _)
theorem Inv.cne (I:Inv X pins σ H s):∀ x c,X.env.cells.lookup x=some c->c≠X.env.locals:=λ x c e z=>by
  obtain ⟨v,o,ho,hd⟩:=I.cell x c e;obtain ⟨m,⟨o',es,ep,ho',hd',_⟩,_⟩:=I.loc;rw [z,ho'] at ho;cases ho;rw [hd'] at hd;cases hd
theorem Inv.funs (I:Inv X pins σ H s):s.heap.FunFrames X.base X.outer:=by
  have all:∀ (l:List Env),(∀ b∈frs l,b∈X.fs)->X.s₀.heap.FunFrames X.base l->s.heap.FunFrames X.base l:=by
    intro l
    induction l with
    | nil=>intro _ _;trivial
    | cons env r ih=>
      intro hs hl;obtain ⟨hk,⟨L,o,hf,hn,ho,hd⟩,hr⟩:=hl;have hL:L∈X.fs:=hs L (by unfold frs;rw [List.filterMap_cons,hf];exact List.mem_cons_self);obtain ⟨sl,e⟩:=I.base.slot L o ho (I.ok.frf L hL) hL λ z=>I.ok.exfs L z hL;exact ⟨hk,⟨L,_,hf,hn,e,hd⟩,ih (λ b hb=>hs b (by unfold frs;rw [List.filterMap_cons,hf];exact List.mem_cons_of_mem _ hb)) hr⟩
  exact all X.outer (λ _ hb=>hb) I.ok.funs
theorem Inv.stack (I:Inv X pins σ H s):s.heap.FunFrames X.base X.stack:=by
  rcases I.ok.stk with e | ⟨e,hf⟩
  · rw [e];exact I.funs
  · rw [e];obtain ⟨m,hn,_⟩:=I.loc;refine .cons (by rw [I.ok.kind];decide) hf hn ?_ I.funs;exact Heap.get?_none_of_le (Nat.le_trans I.ok.bsz I.ok.above)
theorem Inv.stkSub (I:Inv X pins σ H s):∀ b∈frs X.stack,b∈X.env.locals::X.fs:=λ b hb=>by
  rcases I.ok.stk with e | ⟨e,hf⟩
  · rw [e] at hb;exact List.mem_cons_of_mem _ hb
  · rw [e] at hb;unfold frs at hb;rw [List.filterMap_cons,hf] at hb;exact hb
theorem Inv.stkFree (I:Inv X pins σ H s):∀ b∈frs X.stack,H b=none:=λ b hb=>by
  rcases List.mem_cons.mp (I.stkSub b hb) with e | hb
  · rw [e];exact I.free
  · obtain ⟨_,o,ho,_⟩:=I.ok.funs.mem hb;exact I.base.free b o ho (I.ok.frf b hb) λ z=>I.ok.exfs b z hb
theorem Inv.step {g':Array GenState} {t':Nat} {d':Drawn} {ch:List Addr} (I:Inv X pins σ H s)
    (hch:∀ b∈ch,(b∈X.ex\/X.s₀.heap.objs.size<=b)/\b≠X.env.locals/\(∀ x c,X.env.cells.lookup x=some c->c≠b)/\∀ p∈X.pn++pins,p.1≠b)
    (keep:∀ b o,b≠X.env.locals->b∉X.fs->b∉ch->s.heap.get? b=some o->H b=none->h'.get? b=some o)
    (slot:∀ b o,b≠X.env.locals->b∈X.fs->b∉ch->s.heap.get? b=some o->H b=none->∃ sl,h'.get? b=some { o with slots:=sl }) (free:∀ b o,b∉ch->s.heap.get? b=some o->H b=none->H' b=none)
    (there:∀ b o,b∉ch->s.heap.get? b=some o->∃ o',h'.get? b=some o')
    (tups:∀ b xs,H b=some (.tup xs)->H' b=some (.tup xs)) (frzs:∀ b o u,H b=some (.frz o u)->H' b=some (.frz o u)) (tbls:∀ b ps,H b=some (.tbl ps)->∃ more,H' b=some (.tbl (ps++more)))
    (ns:∀ m,s.heap.Ns X.env.locals m->h'.Ns X.env.locals m) (hok:HOk X.prog X.w H' h') (hg:AllBare g'):
    Inv X pins σ H' { s with heap:=h',gens:=g',drawn:=d',toks:=t' }:=by
  have neL:∀ b o,X.s₀.heap.get? b=some o->b≠X.env.locals:=λ b o e=>Nat.ne_of_lt (Nat.lt_of_lt_of_le (Heap.lt_size e) I.ok.above);have neC:∀ b o,X.s₀.heap.get? b=some o->b∉X.ex->b∉ch:=λ b o e hx hb=>by
    rcases (hch b hb).1 with z | z
    · exact hx z
    · exact absurd (Nat.lt_of_lt_of_le (Heap.lt_size e) z) (Nat.lt_irrefl _)
  have cellK:∀ x c,X.env.cells.lookup x=some c->∀ v,s.heap.IsCell c v->h'.IsCell c v:=λ x c e v ⟨o,ho,hd⟩=>by
    have nch:c∉ch:=λ z=>(hch c z).2.2.1 x c e rfl;by_cases hc:c∈X.fs
    · obtain ⟨sl,q⟩:=slot c o (I.cne x c e) hc nch ho (I.freeC x c e);exact ⟨_,q,hd⟩
    · exact ⟨o,keep c o (I.cne x c e) hc nch ho (I.freeC x c e),hd⟩
  refine ⟨I.ok,I.os,hg,⟨λ b o e n hb hx=> ?_,λ b o e n hb hx=> ?_,λ b o e n hx=> ?_,λ b o e hx=> ?_,λ b xs e=>tups b xs (I.base.tups b xs e),λ b o xs e=>frzs b o xs (I.base.frzs b o xs e),λ b ps e=> ?_⟩,?_,λ x c e=> ?_,?_,λ x c e=> ?_,λ p hp=> ?_,hok,I.len⟩
  · exact keep b o (neL b o e) hb (neC b o e hx) (I.base.keep b o e n hb hx) (I.base.free b o e n hx)
  · obtain ⟨sl,e1⟩:=I.base.slot b o e n hb hx;obtain ⟨sl',e2⟩:=slot b _ (neL b o e) hb (neC b o e hx) e1 (I.base.free b o e n hx);exact ⟨sl',e2⟩
  · obtain ⟨o',e1⟩:=I.base.there b o e hx;exact free b o' (neC b o e hx) e1 (I.base.free b o e n hx)
  · obtain ⟨o',e1⟩:=I.base.there b o e hx;exact there b o' (neC b o e hx) e1
  · obtain ⟨m1,e1⟩:=I.base.tbls b ps e;obtain ⟨m2,e2⟩:=tbls b _ e1;exact ⟨m1++m2,by rw [e2,Array.append_assoc]⟩
  · obtain ⟨m,hn,hl⟩:=I.loc;refine ⟨m,ns m hn,λ i x v e1 e2 e3=> ?_⟩;obtain ⟨u,r,l⟩:=hl i x v e1 e2 e3;refine ⟨u,r,?_⟩;rcases l with l | ⟨k,c,e,z⟩
    · exact .inl l
    · exact .inr ⟨k,c,e,cellK x c e _ z⟩
  · obtain ⟨v,z⟩:=I.cell x c e;exact ⟨v,cellK x c e v z⟩
  · obtain ⟨m,⟨o,_,_,ho,_⟩,_⟩:=I.loc;exact free _ o (λ z=>(hch _ z).2.1 rfl) ho I.free
  · obtain ⟨v,o,ho,hd⟩:=I.cell x c e;exact free c o (λ z=>(hch c z).2.2.1 x c e rfl) ho (I.freeC x c e)
  · obtain ⟨e,n,ne,nf,d⟩:=I.pin p hp;have nch:p.1∉ch:=λ z=>(hch p.1 z).2.2.2 p hp rfl;exact ⟨keep p.1 p.2 ne nf nch e n,free p.1 p.2 nch e n,ne,nf,d⟩
theorem Inv.un {t':Nat} (I:Inv X pins σ H s) (u:Un X.fs [] H H' s.heap h') (hok:HOk X.prog X.w H' h'):Inv X pins σ H' { s with heap:=h',toks:=t' }:=by
  obtain ⟨m,⟨o,es,ep,ho,r⟩,_⟩:=id I.loc;obtain ⟨sl,hL⟩:=u.any ho I.free (by simp);exact I.step (g':=s.gens) (d':=s.drawn) (ch:=[]) (λ _ z=>nomatch z) (λ b o _ hb _ e n=>u.keep b o e n hb (by simp)) (λ b o _ hb _ e n=>u.slot b o e n hb (by simp)) (λ b o _ e n=>u.free b o e n (by simp)) (λ b o _ e=>u.there b o e (by simp)) u.tups u.frzs u.tbls (λ m' hm=>by
    obtain ⟨o',es',ep',ho',r'⟩:=hm;rw [ho] at ho';cases ho';exact ⟨_,es',ep',hL,r'⟩) hok I.bare
theorem Inv.call {g':Array GenState} {t':Nat} {d':Drawn} {ch:List Addr} (I:Inv X pins σ H s) (u:Un (frs X.stack) ch H H' s.heap h') (hok:HOk X.prog X.w H' h') (hg:AllBare g')
    (hch:∀ b∈ch,(b∈X.ex\/X.s₀.heap.objs.size<=b)/\b≠X.env.locals/\(∀ x c,X.env.cells.lookup x=some c->c≠b)/\∀ p∈X.pn++pins,p.1≠b):
    Inv X pins σ H' { s with heap:=h',gens:=g',drawn:=d',toks:=t' }:=by
  obtain ⟨m,⟨o,es,ep,ho,r⟩,_⟩:=id I.loc;obtain ⟨sl,hL⟩:=u.any ho I.free λ z=>(hch _ z).2.1 rfl;exact I.step (ch:=ch) hch (λ b o hL hb hc e n=>u.keep b o e n (λ z=>(List.mem_cons.mp (I.stkSub b z)).elim hL hb) hc) (λ b o _ _ hc e n=>u.any e n hc) (λ b o hc e n=>u.free b o e n hc) (λ b o hc e=>u.there b o e hc) u.tups u.frzs u.tbls (λ m' hm=>by
    obtain ⟨o',es',ep',ho',r'⟩:=hm;rw [ho] at ho';cases ho';exact ⟨_,es',ep',hL,r'⟩) hok hg
theorem Inv.turned {t':Nat} {it:Addr} (I:Inv X pins σ H s) (k:∀ b o,b≠it->s.heap.get? b=some o->h'.get? b=some o) (hn:H it=none) (hL:it≠X.env.locals)
    (h1:it∈X.ex\/X.s₀.heap.objs.size<=it) (h2:∀ x c,X.env.cells.lookup x=some c->c≠it) (h3:∀ p∈X.pn++pins,p.1≠it):Inv X pins σ H { s with heap:=h',toks:=t' }:=by
  have nit:∀ b u,H b=some u->b≠it:=λ b u e z=>by rw [z,hn] at e;cases e
  refine I.step (g':=s.gens) (d':=s.drawn) (ch:=[it]) (λ b hb=> ?_) (λ b o _ _ hc e _=>k b o (λ z=>hc (by simp [z])) e) (λ b o _ _ hc e _=>⟨o.slots,k b o (λ z=>hc (by simp [z])) e⟩) (λ _ _ _ _ n=>n)
    (λ b o hc e=>⟨o,k b o (λ z=>hc (by simp [z])) e⟩) (λ _ _ e=>e) (λ _ _ _ e=>e) (λ b ps e=>⟨#[],by rw [e];simp⟩) (λ m hm=> ?_) (λ b u e=> ?_) I.bare
  · have e:b=it:=by simpa using hb
    subst e;exact ⟨h1,hL,h2,h3⟩
  · obtain ⟨o,es,ep,ho,r⟩:=hm;exact ⟨o,es,ep,k _ o (Ne.symm hL) ho,r⟩
  · refine (I.hok b u e).stay (λ c v hc q=>k c v ?_ q) (λ _ q=>q) λ _ _ q=>q;rcases hc with z | z
    · rw [z];exact nit b u e
    · exact nit c _ z
theorem Inv.tok (I:Inv X pins σ H s) (t:Nat):Inv X pins σ H { s with toks:=t }:=I.un (h':=s.heap) (t':=t) Un.refl I.hok
theorem Inv.kept {t':Nat} (I:Inv X pins σ H s) (k:∀ b u,s.heap.get? b=some u->h'.get? b=some u):Inv X pins σ H { s with heap:=h',toks:=t' }:=I.un (Un.kept k) (I.hok.kept k)
theorem Inv.laid {a:Addr} {o:HO} {t':Nat} (I:Inv X pins σ H s) (k:∀ b u,s.heap.get? b=some u->h'.get? b=some u) (hp:s.heap.objs.size<=a) (new:ObjOk X.prog X.w (upd H a o) h' a o):
    Inv X pins σ (upd H a o) { s with heap:=h',toks:=t' }:=I.un (Un.laid k hp (I.hok.fresh hp)) (I.hok.laid k hp new)
theorem Inv.write {x e:Addr} {o:HO} {t':Nat} (I:Inv X pins σ H s) (mu:Mut (H x)) (he:e=x\/H e=some (.own x)) (k:∀ b u,b≠e->s.heap.get? b=some u->h'.get? b=some u) (heo:∃ u,h'.get? e=some u)
    (new:ObjOk X.prog X.w (upd H x o) h' x o):Inv X pins σ (upd H x o) { s with heap:=h',toks:=t' }:=I.un (Un.write mu he k heo) (I.hok.write mu he k heo new)
theorem Inv.weak {σ':List (Option V)} (I:Inv X pins σ H s) (hl:σ'.length=σ.length) (w:∀ (i:Nat) v,σ'[i]?=some (some v)->σ[i]?=some (some v)):Inv X pins σ' H s:=
  ⟨I.ok,I.os,I.bare,I.base,let ⟨m,hn,hl'⟩:=I.loc;⟨m,hn,λ i x v e1 e2 e3=>hl' i x v e1 (w i v e2) e3⟩,I.cell,I.free,I.freeC,I.pin,I.hok,hl.trans I.len⟩
theorem Inv.pins_of {pins':List (Addr × Obj)} (I:Inv X pins σ H s) (h:∀ p∈pins',s.heap.get? p.1=some p.2/\H p.1=none/\p.1≠X.env.locals/\p.1∉X.fs/\∀ v,p.2.data≠ .cell v):Inv X pins' σ H s:=
  ⟨I.ok,I.os,I.bare,I.base,I.loc,I.cell,I.free,I.freeC,λ p hp=>(List.mem_append.mp hp).elim (λ z=>I.pin p (List.mem_append_left _ z)) (h p),I.hok,I.len⟩
theorem Ic {N:List Str} (hN:N.Nodup) {i j:Nat} {x:Str} (a:N[i]?=some x) (b:N[j]?=some x):i=j:=by
  obtain ⟨h1,e1⟩:=List.getElem?_eq_some_iff.mp a;obtain ⟨h2,e2⟩:=List.getElem?_eq_some_iff.mp b;exact (List.getElem_inj hN).mp (e1.trans e2.symm)
theorem NT {M:Model} {A:Around} {E:Value->Shared->Prop} {i:Nat} {x:Str} {v:V} {u:Value} {Q:Unit->Shared->Prop} (I:Inv X pins σ H s) (hN:X.N.Nodup) (hi:X.N[i]?=some x) (hx:Loc X.env.scope x) (r:RelV v u)
    (h:∀ s',Inv X pins (σ.set i (some v)) H s'->(∃ a,Heap.SameBut a s.heap s'.heap/\(a=X.env.locals\/X.env.cells.lookup x=some a))->Q () s') (hf:X.fn x=true\/X.env.scope.names.lookup x=some .local:=by first | exact .inl rfl | exact .inr rfl | assumption):wpAny M A (storeName X.env x u) Q E s:=by
  obtain ⟨m,hn,hl⟩:=id I.loc;have hcls:(X.env.scope.kind == .class||(X.env.scope.kind == .module&&X.env.locals != X.env.globals))=false:=by rw [I.ok.kind];rfl
  have hiσ:i<σ.length:=by rw [I.len];exact (List.getElem?_eq_some_iff.mp hi).1
  have cne:=I.cne;have tracked:∀ {a:Addr} {h':Heap},(∃ o,s.heap.get? a=some o/\H a=none)->Heap.SameBut a s.heap h'->HOk X.prog X.w H h':=λ {a h'} ha hs b ob e=>by
    obtain ⟨_,_,hfree⟩:=ha;refine (I.hok b ob e).stay (λ c w' hc q=>(hs.2 c ?_).trans q) (λ _ q=>q) λ _ _ q=>q;rintro rfl;rcases hc with rfl | hc
    · rw [hfree] at e;cases e
    · rw [hfree] at hc;cases hc
  rcases hx with hk | hk
  · refine wpAny_storeName_local hk hn (λ h' hn' hs=> ?_) hcls;obtain ⟨oL,_,_,hoL,_⟩:=id hn;refine h _ ⟨I.ok,I.os,I.bare,⟨λ b o e n hb hx=> ?_,λ b o e n hb hx=> ?_,I.base.free,λ b o e hx=> ?_,I.base.tups,I.base.frzs,I.base.tbls⟩,⟨_,hn',λ j y v' e1 e2 e3=> ?_⟩,λ y c e=> ?_,I.free,I.freeC,λ p hp=> ?_,tracked ⟨oL,hoL,I.free⟩ hs,by simpa using I.len⟩ ⟨_,hs, .inl rfl⟩
    · exact (hs.2 b (Nat.ne_of_lt (Nat.lt_of_lt_of_le (Heap.lt_size e) I.ok.above))).trans (I.base.keep b o e n hb hx)
    · obtain ⟨sl,e1⟩:=I.base.slot b o e n hb hx;exact ⟨sl,(hs.2 b (Nat.ne_of_lt (Nat.lt_of_lt_of_le (Heap.lt_size e) I.ok.above))).trans e1⟩
    · obtain ⟨o',e1⟩:=I.base.there b o e hx;exact ⟨o',(hs.2 b (Nat.ne_of_lt (Nat.lt_of_lt_of_le (Heap.lt_size e) I.ok.above))).trans e1⟩
    · by_cases hj:j=i
      · subst hj;rw [hi] at e1;cases e1;rw [List.getElem?_set_self hiσ] at e2;cases e2;exact ⟨u,r, .inl ⟨hk,by simp⟩⟩
      · rw [List.getElem?_set_ne (Ne.symm hj)] at e2;obtain ⟨u',r',q⟩:=hl j y v' e1 e2 e3;refine ⟨u',r',?_⟩;rcases q with ⟨k,e⟩ | ⟨k,c,e,z⟩
        · refine .inl ⟨k,?_⟩;have:y≠x:=λ e=>hj (Ic hN e1 (e▸hi));simp [this,e]
        · exact .inr ⟨k,c,e,z.sameBut hs (cne y c e)⟩
    · obtain ⟨w',z⟩:=I.cell y c e;exact ⟨w',z.sameBut hs (cne y c e)⟩
    · obtain ⟨e,n,ne,nf,d⟩:=I.pin p hp;exact ⟨(hs.2 p.1 ne).trans e,n,ne,nf,d⟩
  · have hfn:X.fn x=true:=by
      rcases hf with z | z
      · exact z
      · rw [z] at hk;cases hk
    obtain ⟨c,hc⟩:=I.ok.has x (.inl hk);obtain ⟨w',z⟩:=I.cell x c hc;refine wpAny_storeName_cell I.ok.kind hk hc z (λ h' hc' hs=> ?_);obtain ⟨oc,hoc,hocd⟩:=id z;refine h { s with heap:=h' } ⟨I.ok,I.os,I.bare,⟨λ b o e n hb hx=> ?_,λ b o e n hb hx=> ?_,I.base.free,λ b o e hx=> ?_,I.base.tups,I.base.frzs,I.base.tbls⟩,⟨m,hn.sameBut hs (Ne.symm (cne x c hc)),λ j y v' e1 e2 e3=> ?_⟩,λ y c' e=> ?_,I.free,I.freeC,λ p hp=> ?_,tracked ⟨oc,hoc,I.freeC x c hc⟩ hs,by simpa using I.len⟩ ⟨c,hs, .inr hc⟩
    · exact (hs.2 b (Nat.ne_of_lt (Nat.lt_of_lt_of_le (Heap.lt_size e) (I.ok.cab x c hfn hc)))).trans (I.base.keep b o e n hb hx)
    · obtain ⟨sl,e1⟩:=I.base.slot b o e n hb hx;exact ⟨sl,(hs.2 b (Nat.ne_of_lt (Nat.lt_of_lt_of_le (Heap.lt_size e) (I.ok.cab x c hfn hc)))).trans e1⟩
    · obtain ⟨o',e1⟩:=I.base.there b o e hx;exact ⟨o',(hs.2 b (Nat.ne_of_lt (Nat.lt_of_lt_of_le (Heap.lt_size e) (I.ok.cab x c hfn hc)))).trans e1⟩
    · by_cases hj:j=i
      · subst hj;rw [hi] at e1;cases e1;rw [List.getElem?_set_self hiσ] at e2;cases e2;exact ⟨u,r, .inr ⟨.inl hk,c,hc,hc'⟩⟩
      · rw [List.getElem?_set_ne (Ne.symm hj)] at e2;obtain ⟨u',r',q⟩:=hl j y v' e1 e2 e3;refine ⟨u',r',?_⟩;rcases q with q | ⟨k,c',e,z'⟩
        · exact .inl q
        · refine .inr ⟨k,c',e,z'.sameBut hs ?_⟩;rintro rfl;exact hj (Ic hN e1 (I.ok.inj _ _ _ e hc▸hi))
    · by_cases hcc:c'=c
      · subst hcc;exact ⟨_,hc'⟩
      · obtain ⟨w2,z2⟩:=I.cell y c' e;exact ⟨w2,z2.sameBut hs hcc⟩
    · obtain ⟨e,n,ne,nf,d⟩:=I.pin p hp;refine ⟨(hs.2 p.1 ?_).trans e,n,ne,nf,d⟩;intro q;rw [q,hoc] at e;have q':oc=p.2:=Option.some.inj e;exact d w' (by rw [<-q'];exact hocd)
theorem CG {M:Model} {A:Around} {E:Value->Shared->Prop} {i:Nat} {x:Str} {v:V} {u:Value} {Q:Unit->Shared->Prop} (I:Inv X pins σ H s) (hN:X.N.Nodup) (hi:X.N[i]?=some x) (hx:Loc X.env.scope x) (r:RelV v u)
    (h:∀ s',Inv X pins (σ.set i (some v)) H s'->Q () s') (hf:X.fn x=true\/X.env.scope.names.lookup x=some .local:=by first | exact .inl rfl | exact .inr rfl | assumption):wpAny M A (storeName X.env x u) Q E s:=
  NT I hN hi hx r (λ s' I' _=>h s' I') hf
theorem Inv.call' {s':Shared} {ch:List Addr} (I:Inv X pins σ H s) (ho:s'.os=s.os) (u:Un (frs X.stack) ch H H' s.heap s'.heap) (hok:HOk X.prog X.w H' s'.heap) (hg:AllBare s'.gens)
    (hch:∀ b∈ch,(b∈X.ex\/X.s₀.heap.objs.size<=b)/\b≠X.env.locals/\(∀ x c,X.env.cells.lookup x=some c->c≠b)/\∀ p∈X.pn++pins,p.1≠b):Inv X pins σ H' s':=by
  obtain ⟨h',g',d',t',o'⟩:=s';have e:o'=s.os:=ho;subst e;exact I.call (g':=g') (t':=t') (d':=d') u hok hg hch
end
abbrev XK:=Value->Option Addr->Hp->Prop
abbrev St:=List (Option V)
abbrev VK:=V->Hp->Prop
abbrev TE:=St->Hp->VK->Prop
abbrev TT:=St->Hp->(Bool->Hp->Prop)->Prop
abbrev TA:=St->Hp->(List V->Hp->Prop)->Prop
structure Ends where
  nx:St->Hp->Prop
  rt:VK
  bk:St->Hp->Prop:=λ _ _=>False
  ct:St->Hp->Prop:=λ _ _=>False
abbrev TS:=Ends->St->Hp->Prop
def EP (X:Cx) (pins:List (Addr × Obj)) (σ:St) (Q:VK) (u:Value) (s':Shared):Prop:=∃ v H',Inv X pins σ H' s'/\RelV v u/\Q v H'
def TP (X:Cx) (pins:List (Addr × Obj)) (σ:St) (Q:Bool->Hp->Prop) (b:Bool) (s':Shared):Prop:=∃ H',Inv X pins σ H' s'/\Q b H'
def AP (X:Cx) (pins:List (Addr × Obj)) (σ:St) (Q:List V->Hp->Prop) (us:List Value) (s':Shared):Prop:=∃ vs H',Inv X pins σ H' s'/\Vals vs us/\Q vs H'
def SP (X:Cx) (pins:List (Addr × Obj)) (D:Ends) (f:Flow) (s':Shared):Prop:=
  match f with
  | .next=>∃ σ' H',Inv X pins σ' H' s'/\D.nx σ' H'
  | .brk=>∃ σ' H',Inv X pins σ' H' s'/\D.bk σ' H'
  | .cont=>∃ σ' H',Inv X pins σ' H' s'/\D.ct σ' H'
  | .ret u=>∃ v σ' H',Inv X pins σ' H' s'/\RelV v u/\D.rt v H'
def PE (X:Cx) (e:Expr) (t:TE):Prop:=
  ∀ (pins:List (Addr × Obj)) (s:Shared) (σ:St) (H:Hp) (Q:VK),Inv X pins σ H s->t σ H Q->wpAny (model X.prog X.w) X.A (eval e X.env) (EP X pins σ Q) X.xe s
def PT (X:Cx) (e:Expr) (t:TT):Prop:=
  ∀ (pins:List (Addr × Obj)) (s:Shared) (σ:St) (H:Hp) (Q:Bool->Hp->Prop),Inv X pins σ H s->t σ H Q->wpAny (model X.prog X.w) X.A (isTrue e X.env (eval e X.env)) (TP X pins σ Q) X.xe s
def PW (X:Cx) (e:Expr) (t:TT):Prop:=
  ∀ (whole:Sem Value) (pins:List (Addr × Obj)) (s:Shared) (σ:St) (H:Hp) (Q:Bool->Hp->Prop),Inv X pins σ H s->t σ H Q->wpAny (model X.prog X.w) X.A (isTrue e X.env whole) (TP X pins σ Q) X.xe s
theorem PW.pt {X:Cx} {e:Expr} {t:TT} (h:PW X e t):PT X e t:=h _
def PA (X:Cx) (es:List Expr) (t:TA):Prop:=
  ∀ (pos:Pos) (pins:List (Addr × Obj)) (s:Shared) (σ:St) (H:Hp) (Q:List V->Hp->Prop),Inv X pins σ H s->t σ H Q->wpAny (model X.prog X.w) X.A (spliced (backTo pos (starEach es X.env))) (AP X pins σ Q) X.xe s
def PS (X:Cx) (st:Stmt) (t:TS):Prop:=
  ∀ (pins:List (Addr × Obj)) (s:Shared) (σ:St) (H:Hp) (D:Ends),Inv X pins σ H s->t D σ H->wpAny (model X.prog X.w) X.A (exec st X.env) (SP X pins D) X.xe s
def PSs (X:Cx) (st:List Stmt) (t:TS):Prop:=
  ∀ (pins:List (Addr × Obj)) (s:Shared) (σ:St) (H:Hp) (D:Ends),Inv X pins σ H s->t D σ H->wpAny (model X.prog X.w) X.A (execs st X.env) (SP X pins D) X.xe s
theorem thn {α:Type} {t:Sem α} {Q Q':α->Shared->Prop} {M:Model} {A:Around} {E:Value->Shared->Prop} {s:Shared} (h:wpAny M A t Q E s) (hQ:∀ a s,Q a s->Q' a s):wpAny M A t Q' E s:=wpAny_mono h hQ λ _ _ x=>x
section
variable {X:Cx}
def TQ (i:Nat):TE:=λ σ H Q=>∃ v,σ[i]?=some (some v)/\Q v H
def tC (v:V):TE:=λ _ H Q=>Q v H
theorem TX {i:Nat} {x:Str} {pos:Pos} (hN:X.N[i]?=some x) (hv:Vis X.env.scope x) (hd:(x == ("__debug__":Str))=false:=by decide) (hcd:(x == ("__classdict__":Str))=false:=by decide):PE X (.Name x pos) (TQ i):=by
  intro pins s σ H Q I h;obtain ⟨v,e,h⟩:=h;obtain ⟨m,hn,hl⟩:=I.loc;obtain ⟨u,r,l⟩:=hl i x v hN e hv;have fin:EP X pins σ Q u s:=⟨v,H,I,r,h⟩;rcases l with ⟨hk,hm⟩ | ⟨hk,c,hc,hcell⟩
  · exact wpAny_Name (wpAny_loadName_local I.ok.kind hk hn hm fin) hd
  · rcases hk with hk | hk
    · exact wpAny_Name (wpAny_loadName_cell I.ok.kind hk hc hcell fin) hd
    · exact wpAny_Name (wpAny_loadName_free I.ok.kind hk hc hcell fin hcd) hd
theorem Ae {i j pos}:PE X (.Constant (.int i) j pos) (tC (.int i)):=λ _ _ _ H _ I h=>wpAny_Constant_int ⟨.int i,H,I.tok _,⟨_,rfl⟩,h⟩
theorem Ek {b j pos}:PE X (.Constant (.bool b) j pos) (tC (.bl b)):=λ _ _ _ H _ I h=>Constant_bool ⟨.bl b,H,I,rfl,h⟩
theorem L6 {j pos}:PE X (.Constant .none j pos) (tC .non):=λ _ _ _ H _ I h=>Constant_none ⟨.non,H,I,rfl,h⟩
theorem As {x j pos}:PE X (.Constant (.str x) j pos) (tC (.str x)):=λ _ _ _ H _ I h=>Calls.Constant_str ⟨.str x,H,I.tok _,⟨_,rfl⟩,h⟩
def Gl (X:Cx) (x:Str):Prop:=X.env.kindOf x=some .globalImplicit
theorem EL {E:Value->Shared->Prop} {pins:List (Addr × Obj)} {s:Shared} {σ:St} {H:Hp} {x:Str} {u:Value} {pos:Pos} {Q:Value->Shared->Prop} (I:Inv X pins σ H s) (hg:Gl X x) (hm:X.mg x=some u) (h:Q u s)
    (hd:(x == ("__debug__":Str))=false:=by decide):wpAny (model X.prog X.w) X.A (eval (.Name x pos) X.env) Q E s:=
  Calls.Name_function_global I.ok.kind hg (Calls.loadGlobal_global (by rw [I.ok.glob];exact I.mod.glob.keeps I.bk) hm h) hd
theorem B3 {E:Value->Shared->Prop} {pins:List (Addr × Obj)} {s:Shared} {σ:St} {H:Hp} {x:Str} {u:Value} {pos:Pos} {Q:Value->Shared->Prop} (I:Inv X pins σ H s) (hg:Gl X x) (hm:X.mg x=none) (hv:bootBuiltins x=some u) (h:Q u s)
    (hn:x≠"__name__":=by decide) (hd:(x == ("__debug__":Str))=false:=by decide):wpAny (model X.prog X.w) X.A (eval (.Name x pos) X.env) Q E s:=by
  obtain ⟨mb,h1,h2⟩:=I.mod.blt;exact Calls.Name_function_global I.ok.kind hg (Calls.loadGlobal_builtin (by rw [I.ok.glob];exact I.mod.glob.keeps I.bk) hm (by rw [I.ok.blt];exact h1.keeps I.bk) ((h2 x hn).trans hv) h) hd
theorem KB {x:Str} {v:V} {u:Value} {pos:Pos} (hg:Gl X x) (hm:X.mg x=some u) (r:RelV v u) (hd:(x == ("__debug__":Str))=false:=by decide):PE X (.Name x pos) (tC v):=
  λ _ _ _ H _ I h=>EL I hg hm ⟨v,H,I,r,h⟩ hd
theorem Rs {x:Str} {v:V} {u:Value} {pos:Pos} (hg:Gl X x) (hm:X.mg x=none) (hv:bootBuiltins x=some u) (r:RelV v u) (hn:x≠"__name__":=by decide) (hd:(x == ("__debug__":Str))=false:=by decide):PE X (.Name x pos) (tC v):=
  λ _ _ _ H _ I h=>B3 I hg hm hv ⟨v,H,I,r,h⟩ hn hd
variable {a b:Expr} {ta tb:TE} {pos:Pos}
def PC (X:Cx) (op:CmpOp) (a b:Expr) (t:TE):Prop:=
  ∀ (pins:List (Addr × Obj)) (s:Shared) (σ:St) (H:Hp) (Q:VK),Inv X pins σ H s->t σ H Q->
    wpAny (model X.prog X.w) X.A (eval a X.env) (λ v s₁=>wpAny (model X.prog X.w) X.A (eval b X.env) (λ u s₂=>wpAny (model X.prog X.w) X.A (compareOp op v u) (EP X pins σ Q) X.xe s₂) X.xe s₁) X.xe s
def tB (t:TE):TT:=λ σ H Q=>t σ H λ x H1=>∃ c,x= .bl c/\Q c H1
theorem Ba {e:Expr} {t:TE} (h:PE X e t) (he:∀ whole,isTrue e X.env whole=(do let v <-whole;standAt e.pos;holding [v] (truthy v)):=by intro _;rfl):PT X e (tB t):=by
  intro pins s σ H Q I hw;refine isTrue_plain (thn (h pins s σ H _ I hw) λ v s1 ⟨x,H1,I1,r1,q1⟩=> ?_) (he _);obtain ⟨d,rfl,q⟩:=q1;cases r1;exact wpAny_truthy_bool ⟨H1,I1,q⟩
variable {tA tB':TT} {rest:List Expr}
def Zi (t u:TT):TT:=λ σ H Q=>t σ H λ c H1=>if c=true then u σ H1 Q else Q false H1
def tOr (t u:TT):TT:=λ σ H Q=>t σ H λ c H1=>if c=true then Q true H1 else u σ H1 Q
def VC (t:TT):TT:=λ σ H Q=>t σ H λ c H1=>Q (!c) H1
theorem Qn (ha:PT X a tA):PW X (.BoolOp .And [a] pos) tA:=by
  intro wh pins s σ H Q I h;refine isTrue_and (thn (ha pins s σ H Q I h) λ c s1 e=> ?_);cases c with
  | true=>exact isTrue_and_nil e
  | false=>exact e
theorem GJ (ha:PT X a tA):PW X (.BoolOp .Or [a] pos) tA:=by
  intro wh pins s σ H Q I h;refine isTrue_or (thn (ha pins s σ H Q I h) λ c s1 e=> ?_);cases c with
  | false=>exact isTrue_or_nil e
  | true=>exact e
theorem TF (ha:PT X a tA) (hb:PW X (.BoolOp .And (b::rest) pos) tB'):PW X (.BoolOp .And (a::b::rest) pos) (Zi tA tB'):=by
  intro wh pins s σ H Q I h;refine isTrue_and (thn (ha pins s σ H _ I h) λ c s1 ⟨H1,I1,q1⟩=> ?_);cases c with
  | true=>exact hb wh pins s1 σ H1 Q I1 q1
  | false=>exact ⟨H1,I1,q1⟩
theorem Hv (ha:PT X a tA) (hb:PW X (.BoolOp .Or (b::rest) pos) tB'):PW X (.BoolOp .Or (a::b::rest) pos) (tOr tA tB'):=by
  intro wh pins s σ H Q I h;refine isTrue_or (thn (ha pins s σ H _ I h) λ c s1 ⟨H1,I1,q1⟩=> ?_);cases c with
  | true=>exact ⟨H1,I1,q1⟩
  | false=>exact hb wh pins s1 σ H1 Q I1 q1
theorem BC (ha:PT X a tA):PT X (.UnaryOp .Not a pos) (VC tA):=by
  intro pins s σ H Q I h;exact isTrue_not (ha pins s σ H (λ c H1=>Q (!c) H1) I h)
def RY (ta tb:TE):TE:=λ σ H Q=>ta σ H λ x H1=>∃ c,x= .bl c/\if c=true then tb σ H1 Q else Q (.bl false) H1
def Sc (ta:TE):TE:=λ σ H Q=>ta σ H λ x H1=>∃ c,x= .bl c/\Q (.bl (!c)) H1
theorem Ef {op} {t:TE} (h:PE X a t):PE X (.BoolOp op [a] pos) t:=λ pins s σ H Q I hw=>BoolOp_one (h pins s σ H Q I hw)
theorem C7 (ha:PE X a ta) (hb:PE X (.BoolOp .And (b::rest) pos) tb):PE X (.BoolOp .And (a::b::rest) pos) (RY ta tb):=by
  intro pins s σ H Q I h;refine BoolOp_and (thn (ha pins s σ H _ I h) λ v s1 ⟨x,H1,I1,r1,q1⟩=> ?_);obtain ⟨c,rfl,q1⟩:=q1;cases r1;refine wpAny_truthy_bool ?_;cases c with
  | true=>exact hb pins s1 σ H1 Q I1 q1
  | false=>exact ⟨.bl false,H1,I1,rfl,q1⟩
theorem JS (ha:PE X a ta):PE X (.UnaryOp .Not a pos) (Sc ta):=by
  intro pins s σ H Q I h;refine UnaryOp_ (thn (ha pins s σ H _ I h) λ v s1 ⟨x,H1,I1,r1,q1⟩=> ?_);obtain ⟨c,rfl,q1⟩:=q1;cases r1;exact not_of (wpAny_truthy_bool ⟨.bl (!c),H1,I1,rfl,q1⟩)
def tIf (t:TT) (ta tb:TE):TE:=λ σ H Q=>t σ H λ c H1=>if c=true then ta σ H1 Q else tb σ H1 Q
theorem PV {c:Expr} (hc:PT X c tA) (ha:PE X a ta) (hb:PE X b tb):PE X (.IfExp c a b pos) (tIf tA ta tb):=by
  intro pins s σ H Q I h;refine wpAny_IfExp (thn (hc pins s σ H _ I h) λ d s1 ⟨H1,I1,q1⟩=> ?_);cases d with
  | true=>exact ha pins s1 σ H1 Q I1 q1
  | false=>exact hb pins s1 σ H1 Q I1 q1
end
def SqL (K:PySem.W.Frag) (H:Hp) (a:Addr) (xs:List V):Prop:=
  Rd H a (.lst xs)\/
    ∃ (o:Obj) (its:Array Value) (n:Nat),K.lookup a=some o/\o.cls= .type "list"/\o.dict=none/\o.data= .seq its n/\its.size<=sizeLine/\Vals xs its.toList
def SqT (K:PySem.W.Frag) (H:Hp) (a:Addr) (xs:List V):Prop:=
  Rd H a (.tup xs)\/
    ∃ (o:Obj) (its:Array Value) (n:Nat),K.lookup a=some o/\o.cls= .type "tuple"/\o.data= .seq its n/\its.size<=sizeLine/\Vals xs its.toList
noncomputable def ae:Value->Option V
  | .none=>some .non
  | .bool b=>some (.bl b)
  | .int i _=>some (.int i)
  | .str x _=>some (.str x)
  | .bytes b _=>some (.byt b)
  | .float b _=>some (.flt b)
  | .ref a=>some (.ref a)
  | .type n=>some (.ty n)
  | _=>none
theorem RelV.abs {x:V} {u:Value} (r:RelV x u):ae u=some x:=by
  cases x with
  | non=>cases r;rfl
  | bl _=>cases r;rfl
  | int _=>obtain ⟨t,rfl⟩:=r;rfl
  | str _=>obtain ⟨t,rfl⟩:=r;rfl
  | byt _=>obtain ⟨t,rfl⟩:=r;rfl
  | flt _=>obtain ⟨t,rfl⟩:=r;rfl
  | ref _=>cases r;rfl
  | ty _=>cases r;rfl
theorem RelV.inj {x y:V} {u:Value} (r:RelV x u) (q:RelV y u):x=y:=Option.some.inj (r.abs.symm.trans q.abs)
theorem Vals.inj:∀ {xs ys:List V} {us:List Value},Vals xs us->Vals ys us->xs=ys
  | _,_,_, .nil, .nil=>rfl
  | _,_,_, .cons r t, .cons r' t'=>by rw [r.inj r',Vals.inj t t']
section
variable {X:Cx} {pins:List (Addr × Obj)} {σ:St} {H:Hp} {s:Shared} {a:Addr} {xs ys:List V}
theorem SqL.of {K:PySem.W.Frag} (h:H a=some (.lst xs)):SqL K H a xs:= .inl (.inl h)
theorem SqT.of {K:PySem.W.Frag} (h:H a=some (.tup xs)):SqT K H a xs:= .inl (.inl h)
theorem Inv.list (I:Inv X pins σ H s) (h:SqL X.K H a xs):∃ its:List Value,Vals xs its/\PlainL s.heap a its.toArray/\xs.length<=sizeLine:=by
  rcases h with h | ⟨o,its,n,hk,hc,hd,hs,hz,r⟩
  · obtain ⟨z,its,n,r,e⟩:=h.ok I.hok;exact ⟨its,r,⟨_,n,e,rfl,rfl,rfl⟩,z⟩
  · refine ⟨its.toList,r,⟨o,n,I.kIn a o hk,hc,hd,by simpa using hs⟩,?_⟩;have e:=r.length;simp only [Array.length_toList] at e;omega
theorem Inv.tuple (I:Inv X pins σ H s) (h:SqT X.K H a xs):∃ its:List Value,Vals xs its/\IsTup s.heap a its.toArray/\xs.length<=sizeLine:=by
  rcases h with h | ⟨o,its,n,hk,hc,hs,hz,r⟩
  · obtain ⟨z,its,r,p⟩:=h.ok I.hok;exact ⟨its,r,p,z⟩
  · refine ⟨its.toList,r,⟨o,I.kIn a o hk,hc,n,by simpa using hs⟩,?_⟩;have e:=r.length;simp only [Array.length_toList] at e;omega
theorem Inv.list_inj (I:Inv X pins σ H s) (h:SqL X.K H a xs) (h':SqL X.K H a ys):xs=ys:=by
  obtain ⟨its,r,⟨o,n,e,_,_,d⟩,_⟩:=I.list h;obtain ⟨its',r',⟨o',n',e',_,_,d'⟩,_⟩:=I.list h';rw [e] at e';cases e';rw [d] at d';injection d' with d1 _;have:its=its':=by simpa using congrArg Array.toList d1
  subst this;exact r.inj r'
theorem Inv.tuple_inj (I:Inv X pins σ H s) (h:SqT X.K H a xs) (h':SqT X.K H a ys):xs=ys:=by
  obtain ⟨its,r,⟨o,e,_,n,d⟩,_⟩:=I.tuple h;obtain ⟨its',r',⟨o',e',_,n',d'⟩,_⟩:=I.tuple h';rw [e] at e';cases e';rw [d] at d';injection d' with d1 _;have:its=its':=by simpa using congrArg Array.toList d1
  subst this;exact r.inj r'
end
noncomputable abbrev Cx.wish (X:Cx) (E:Value->Shared->Prop):Cx:={ X with xe:=E }
noncomputable abbrev Cx.nox (X:Cx):Cx:=X.wish λ _ _=>False
theorem Cx.Ok.wish {X:Cx} (ok:X.Ok) (E:Value->Shared->Prop):(X.wish E).Ok:=
  ⟨ok.mod,ok.kind,ok.glob,ok.blt,ok.above,ok.inj,ok.has,ok.cab,ok.hd,ok.frames,ok.stk,ok.exf,ok.bs,ok.bsz,ok.noex,ok.exfs,ok.funs,ok.frf⟩
theorem Cx.Ok.unwish {X:Cx} {E:Value->Shared->Prop} (ok:(X.wish E).Ok):X.Ok:=
  ⟨ok.mod,ok.kind,ok.glob,ok.blt,ok.above,ok.inj,ok.has,ok.cab,ok.hd,ok.frames,ok.stk,ok.exf,ok.bs,ok.bsz,ok.noex,ok.exfs,ok.funs,ok.frf⟩
section
variable {X:Cx} {pins:List (Addr × Obj)} {σ:St} {H:Hp} {s:Shared} {E:Value->Shared->Prop}
theorem Inv.wish (I:Inv X pins σ H s) (E:Value->Shared->Prop):Inv (X.wish E) pins σ H s:=⟨I.ok.wish E,I.os,I.bare,I.base,I.loc,I.cell,I.free,I.freeC,I.pin,I.hok,I.len⟩
theorem Inv.unwish (I:Inv (X.wish E) pins σ H s):Inv X pins σ H s:=⟨I.ok.unwish,I.os,I.bare,I.base,I.loc,I.cell,I.free,I.freeC,I.pin,I.hok,I.len⟩
theorem SP.unwish {D:Ends} {f:Flow} {s':Shared} (h:SP (X.wish E) pins D f s'):SP X pins D f s':=by
  cases f with
  | next=>obtain ⟨σ',H',I,q⟩:=h;exact ⟨σ',H',I.unwish,q⟩
  | brk=>obtain ⟨σ',H',I,q⟩:=h;exact ⟨σ',H',I.unwish,q⟩
  | cont=>obtain ⟨σ',H',I,q⟩:=h;exact ⟨σ',H',I.unwish,q⟩
  | ret u=>obtain ⟨v,σ',H',I,r,q⟩:=h;exact ⟨v,σ',H',I.unwish,r,q⟩
theorem PSs.nox {st:List Stmt} {t:TS} (h:PSs X.nox st t):PSs X st t:=λ pins s σ H D I hw=>
  wpAny_mono (h pins s σ H D (I.wish _) hw) (λ _ _ q=>q.unwish) λ _ _ z=>False.elim z
end
section
variable {X:Cx} {st:Stmt} {rest:List Stmt} {t u:TS} {e:Expr} {te:TE} {pos:Pos}
def Sj:TS:=λ D σ H=>D.nx σ H
def Wi (t u:TS):TS:=λ D σ H=>t { D with nx:=u D } σ H
theorem Au:PSs X [] Sj:=λ _ _ σ H _ I h=>wpAny_execs_nil ⟨σ,H,I,h⟩
theorem Ac (h1:PS X st t) (h2:PSs X rest u):PSs X (st::rest) (Wi t u):=by
  intro pins s σ H D I h;refine wpAny_execs_cons (thn (h1 pins s σ H { D with nx:=u D } I h) λ f s1 q=> ?_);cases f with
  | next=>
    obtain ⟨σ',H',I',q⟩:=q;exact h2 pins s1 σ' H' D I' q
  | ret v=>exact q
  | brk=>exact q
  | cont=>exact q
theorem Ag (h1:PS X st t):PSs X [st] t:=by
  intro pins s σ H D I h;refine wpAny_execs_cons (thn (h1 pins s σ H D I h) λ f s1 q=> ?_);cases f with
  | next=>exact wpAny_execs_nil q
  | ret v=>exact q
  | brk=>exact q
  | cont=>exact q
theorem Inv.quiet {pins:List (Addr × Obj)} {σ:St} {H:Hp} {s:Shared} (I:Inv X pins σ H s):interactive X.env=false:=by simp [interactive,I.ok.kind]
def RG (te:TE):TS:=λ D σ H=>te σ H λ _ H1=>D.nx σ H1
theorem AZ (he:PE X e te) (hs:swapsWith e none pos.line X.env=pure false:=by rfl):PS X (.Expr e pos) (RG te):=by
  intro pins s σ H D I h;exact wpAny_Expr_any (thn (he pins s σ H _ I h) λ v s1 ⟨x,H1,I1,r1,q1⟩=>⟨σ,H1,I1,q1⟩) I.quiet hs
def UY (te:TE):TS:=λ D σ H=>te σ H D.rt
theorem Aj (he:PE X e te):PS X (.Return (some e) pos) (UY te):=by
  intro pins s σ H D I h;exact wpAny_Return_some (thn (he pins s σ H _ I h) λ v s1 ⟨x,H1,I1,r1,q1⟩=>⟨x,σ,H1,I1,r1,q1⟩)
def QV (c:TT) (t u:TS):TS:=λ D σ H=>c σ H λ b H1=>if b=true then t D σ H1 else u D σ H1
theorem AV {c:Expr} {a b:List Stmt} {tc:TT} (hc:PT X c tc) (ha:PSs X a t) (hb:PSs X b u):PS X (.If c a b pos) (QV tc t u):=by
  intro pins s σ H D I h;refine wpAny_If (thn (hc pins s σ H _ I h) λ d s1 ⟨H1,I1,q1⟩=> ?_);cases d with
  | true=>exact ha pins s1 σ H1 D I1 q1
  | false=>exact hb pins s1 σ H1 D I1 q1
def Te:TS:=λ _ _ _=>False
theorem OK:PS X st Te:=λ _ _ _ _ _ _ h=>h.elim
end
abbrev TG:=V->St->Hp->(St->Hp->Prop)->Prop
abbrev TGs:=List V->St->Hp->(St->Hp->Prop)->Prop
def PG (X:Cx) (target:Expr) (t:TG):Prop:=
  ∀ (pins:List (Addr × Obj)) (s:Shared) (σ:St) (H:Hp) (v:V) (u:Value) (Q:St->Hp->Prop),Inv X pins σ H s->RelV v u->t v σ H Q->
    wpAny (model X.prog X.w) X.A (assign target X.env u) (λ _ s'=>∃ σ' H',Inv X pins σ' H' s'/\Q σ' H') X.xe s
def PGs (X:Cx) (ts:List Expr) (t:TGs):Prop:=
  ∀ (pins:List (Addr × Obj)) (s:Shared) (σ:St) (H:Hp) (vs:List V) (us:List Value) (Q:St->Hp->Prop),Inv X pins σ H s->Vals vs us->t vs σ H Q->
    wpAny (model X.prog X.w) X.A (assignInOrder ((assignEach ts X.env).map (·.2)) us) (λ _ s'=>∃ σ' H',Inv X pins σ' H' s'/\Q σ' H') X.xe s
abbrev Rm:=V->V->V->Hp->(Hp->Prop)->Prop
def W6 (X:Cx) (t:Rm):Prop:=
  ∀ (pins:List (Addr × Obj)) (s:Shared) (σ:St) (H:Hp) (o i v:V) (ov iv u:Value) (Q:Hp->Prop),Inv X pins σ H s->RelV o ov->RelV i iv->RelV v u->t o i v H Q->
    wpAny (model X.prog X.w) X.A (setItem ov iv u) (λ _ s'=>∃ H',Inv X pins σ H' s'/\Q H') X.xe s
abbrev TIp:=V->V->Hp->VK->Prop
def PIp (X:Cx) (op:Operator) (t:TIp):Prop:=
  ∀ (pins:List (Addr × Obj)) (s:Shared) (σ:St) (H:Hp) (x y:V) (v u:Value) (Q:VK),Inv X pins σ H s->RelV x v->RelV y u->t x y H Q->
    wpAny (model X.prog X.w) X.A (inplaceOp op v u) (EP X pins σ Q) X.xe s
section
variable {X:Cx} {pos:Pos}
def AE (i:Nat):TG:=λ v σ H Q=>Q (σ.set i (some v)) H
theorem Az {i:Nat} {x:Str} (hN:X.N.Nodup) (hi:X.N[i]?=some x) (hx:Loc X.env.scope x) (hf:X.fn x=true\/X.env.scope.names.lookup x=some .local:=by first | exact .inl rfl | exact .inr rfl | assumption):PG X (.Name x pos) (AE i):=by
  intro pins s σ H v u Q I r h;exact wpAny_assign_Name (CG I hN hi hx r (λ s' I'=>⟨_,H,I',h⟩) hf)
def IK:TGs:=λ vs σ H Q=>vs=[]/\Q σ H
def BX (t:TG) (u:TGs):TGs:=λ vs σ H Q=>∃ v r,vs=v::r/\t v σ H λ σ' H'=>u r σ' H' Q
theorem FR:PGs X [] IK:=by
  intro pins s σ H vs us Q I r h;obtain ⟨e,h⟩:=h;subst e;cases r;exact assignInOrder_nil ⟨σ,H,I,h⟩
theorem AI {e:Expr} {es:List Expr} {t:TG} {u:TGs} (h1:PG X e t) (h2:PGs X es u)
    (hs:(assignEach (e::es) X.env).map (·.2)=assign e X.env::(assignEach es X.env).map (·.2):=by rfl):PGs X (e::es) (BX t u):=by
  intro pins s σ H vs us Q I r h;obtain ⟨v,vr,e1,h⟩:=h;subst e1;cases r with
  | cons r rr=>
    rw [hs];refine assignInOrder_cons (thn (h1 pins s σ H _ _ _ I r h) λ _ s1 ⟨σ1,H1,I1,q1⟩=> ?_);exact h2 pins s1 σ1 H1 _ _ Q I1 rr q1
def Ht (K:PySem.W.Frag) (n:Nat) (t:TGs):TG:=λ v σ H Q=>∃ a xs,v= .ref a/\SqT K H a xs/\xs.length=n/\t xs σ H Q
theorem Ot {es:List Expr} {k:Nat} {t:TGs} {n:Nat} (hc:X.calm=true) (h:PGs X es t)
    (hn:(assignEach es X.env).length=n:=by rfl) (hst:(assignEach es X.env).findIdx? (·.1)=none:=by rfl):PG X (.Tuple es k pos) (Ht X.K n t):=by
  intro pins s σ H v u Q I r hw;obtain ⟨a,xs,e1,hq,hl,hw⟩:=hw;subst e1;cases r;obtain ⟨its,rv,ht,hz⟩:=I.tuple hq;refine assign_Tuple_tuple (I.ok.hd hc) ht (by simp [hn, <-hl,rv.length]) hst λ h' hx=> ?_;have I1:Inv X pins σ H { s with heap:=h' }:=I.kept (t':=s.toks) λ b o e=>hx b o (Nat.ne_of_lt (Heap.lt_size e)) e;exact h pins _ σ H xs _ Q I1 (by simpa using rv) hw
def UU (to ti:TE) (t:Rm):TG:=λ v σ H Q=>to σ H λ o H1=>ti σ H1 λ i H2=>t o i v H2 λ H3=>Q σ H3
theorem L5 {o i:Expr} {to ti:TE} {t:Rm} (ho:PE X o to) (hi:PE X i ti) (hs:W6 X t)
    (ha:∀ v,assign (.Subscript o i pos) X.env v=(do
      let ov <-holding [v] (eval o X.env);let iv <-holding [v,ov] (eval i X.env)
      standAt pos
      holding [v,ov,iv] (setItem ov iv v)
      release [v,ov,iv] []):=by intro _;rfl):PG X (.Subscript o i pos) (UU to ti t):=by
  intro pins s σ H v u Q I r h;rw [ha];refine wpAny_bind (wpAny_holding (thn (ho pins s σ H _ I h) λ ov s1 ⟨x,H1,I1,r1,q1⟩=> ?_));refine wpAny_bind (wpAny_holding (thn (hi pins s1 σ H1 _ I1 q1) λ iv s2 ⟨y,H2,I2,r2,q2⟩=> ?_));refine wpAny_bind (wpAny_standAt (wpAny_bind (wpAny_holding (thn (hs pins s2 σ H2 x y v ov iv u _ I2 r1 r2 r q2) λ _ s3 ⟨H3,I3,q3⟩=> ?_))));exact wpAny_release ⟨σ,H3,I3,q3⟩
def Lk (te:TE) (g:TG):TS:=λ D σ H=>te σ H λ x H1=>g x σ H1 D.nx
theorem Ij {tg e:Expr} {te:TE} {g:TG} (he:PE X e te) (hg:PG X tg g) (hs:swapsWithSole [tg] e pos.line X.env=pure false:=by rfl) (hw:swappedStores [tg] e X.env=pure none:=by rfl)
    (h1:(assignEach [tg] X.env).map (·.2)=[assign tg X.env]:=by rfl):PS X (.Assign [tg] e pos) (Lk te g):=by
  intro pins s σ H D I h;refine wpAny_Assign_stores (thn (he pins s σ H _ I h) λ v s1 ⟨x,H1,I1,r1,q1⟩=> ?_) hs hw;rw [h1];exact thn (hg pins s1 σ H1 x v _ I1 r1 q1) λ _ s2 q=>q
theorem Ay {i:Nat} {x:Str} {e:Expr} {te:TE} {pos':Pos} (hN:X.N.Nodup) (hi:X.N[i]?=some x) (hx:Loc X.env.scope x) (he:PE X e te) (hs:swapsWith e (some (.Name x pos')) pos.line X.env=pure false:=by rfl) (hf:X.fn x=true\/X.env.scope.names.lookup x=some .local:=by first | exact .inl rfl | exact .inr rfl | assumption):
    PS X (.Assign [.Name x pos'] e pos) (Lk te (AE i)):=by
  intro pins s σ H D I h;refine wpAny_Assign_Name (thn (he pins s σ H _ I h) λ v s1 ⟨y,H1,I1,r1,q1⟩=> ?_) hs;exact CG I1 hN hi hx r1 (λ s2 I2=>⟨_,H1,I2,q1⟩) hf
def YH (i:Nat) (te:TE) (ti:TIp):TS:=λ D σ H=>∃ x,σ[i]?=some (some x)/\te σ H λ y H1=>ti x y H1 λ z H2=>D.nx (σ.set i (some z)) H2
theorem O9 {i:Nat} {x:Str} {e:Expr} {te:TE} {op:Operator} {ti:TIp} {pos':Pos} (hN:X.N.Nodup) (hi:X.N[i]?=some x) (hx:Loc X.env.scope x) (he:PE X e te) (ho:PIp X op ti) (hf:X.fn x=true\/X.env.scope.names.lookup x=some .local:=by first | exact .inl rfl | exact .inr rfl | assumption):
    PS X (.AugAssign (.Name x pos') op e pos) (YH i te ti):=by
  intro pins s σ H D I h;obtain ⟨v,e1,h⟩:=h;obtain ⟨m,hn,hl⟩:=I.loc;have vis:Vis X.env.scope x:=by rcases hx with k | k;exact .inl k;exact .inr (.inl k)
  obtain ⟨u,r,l⟩:=hl i x v hi e1 vis;refine wpAny_AugAssign_Name ?_;have go:wpAny (model X.prog X.w) X.A (eval e X.env) (λ w s₂=>wpAny (model X.prog X.w) X.A (inplaceOp op u w) (λ r s₃=>wpAny (model X.prog X.w) X.A (storeName X.env x r) (λ _=>SP X pins D .next) X.xe s₃) X.xe s₂) X.xe s:=by
    refine thn (he pins s σ H _ I h) λ w s1 ⟨y,H1,I1,r1,q1⟩=> ?_;refine thn (ho pins s1 σ H1 v y u w _ I1 r r1 q1) λ z s2 ⟨zv,H2,I2,r2,q2⟩=> ?_;exact CG I2 hN hi hx r2 (λ s3 I3=>⟨_,H2,I3,q2⟩) hf
  rcases l with ⟨hk,hm⟩ | ⟨hk,c,hc,hcell⟩
  · exact wpAny_loadName_local I.ok.kind hk hn hm go
  · rcases hk with hk | hk
    · exact wpAny_loadName_cell I.ok.kind hk hc hcell go
    · rcases hx with k | k
      · have:X.env.scope.names.lookup x=some .free:=hk;rw [k] at this;cases this
      · have:X.env.scope.names.lookup x=some .free:=hk;rw [k] at this;cases this
end
section
variable {X:Cx} {pos:Pos}
end
structure It where
  go:Nat->Hp->Prop
  yld:Nat->Hp->V->Hp->Prop
  stop:Nat->Hp->Prop
def Cj (X:Cx) (pins:List (Addr × Obj)) (H:Hp) (b:Addr):Prop:=
  H b=none/\b≠X.env.locals/\b∉X.fs/\(b∈X.ex\/X.s₀.heap.objs.size<=b)/\(∀ x c,X.env.cells.lookup x=some c->c≠b)/\∀ p∈X.pn++pins,p.1≠b
theorem Inv.fpOk {X:Cx} {pins:List (Addr × Obj)} {σ:St} {H H':Hp} {s:Shared} {b:Addr} (I:Inv X pins σ H s) (hb:s.heap.objs.size<=b) (hn:H' b=none):Cj X pins H' b:=by
  refine ⟨hn,Nat.ne_of_gt (Nat.lt_of_lt_of_le I.lt hb),I.nofs hb, .inr (Nat.le_trans I.sz hb),λ x c e z=> ?_,λ p hp z=> ?_⟩
  · obtain ⟨v,q⟩:=I.cell x c e;exact absurd (Nat.lt_of_lt_of_le q.lt (by rw [z];exact hb)) (Nat.lt_irrefl _)
  · exact absurd (Nat.lt_of_lt_of_le (Heap.lt_size (I.pin p hp).1) (by rw [z];exact hb)) (Nat.lt_irrefl _)
structure Turn (P:Program) (w:World) (K:PySem.W.Frag) (tg:Expr) (J:It) (fp:List Addr) (it:Addr) (tn:Nat->Heap->Prop):Prop where
  mem:it∈fp
  obj:∀ i h,tn i h->∀ b∈fp,∃ o,h.get? b=some o/\∀ v,o.data≠ .cell v
  keep:∀ i h h',tn i h->(∀ b∈fp,∀ o,h.get? b=some o->h'.get? b=some o)->tn i h'
  item:∀ (X:Cx),X.prog=P->X.w=w->X.K=K->X.calm=true->∀ (i:Nat) (pins:List (Addr × Obj)) (s:Shared) (σ:St) (H:Hp) (E:Value->Shared->Prop),Inv X pins σ H s->(∀ b∈fp,Cj X pins H b)->tn i s.heap->J.go i H->
    wpAny (model P w) X.A (pyNext (.ref it)) (λ r s1=>∃ u,r=some u/\
      wpAny (model P w) X.A (letOwnedTupleGo tg (.ref it) u) (λ _ s2=>∃ x H',Inv X pins σ H' s2/\RelV x u/\J.yld i H x H'/\tn (i+1) s2.heap/\∀ b∈fp,H' b=none) E s1) E s
  done:∀ (X:Cx),X.prog=P->X.w=w->X.K=K->X.calm=true->∀ (i:Nat) (pins:List (Addr × Obj)) (s:Shared) (σ:St) (H:Hp) (E:Value->Shared->Prop),Inv X pins σ H s->(∀ b∈fp,Cj X pins H b)->tn i s.heap->J.stop i H->
    wpAny (model P w) X.A (pyNext (.ref it)) (λ r s1=>r=none/\Inv X pins σ H s1) E s
  self:∀ (A:Around) (i:Nat) (s:Shared) (Q:Value->Shared->Prop) (E:Value->Shared->Prop),tn i s.heap->Q (.ref it) s->wpAny (model P w) A (pyIter (.ref it)) Q E s
abbrev TI:=St->Hp->(It->Hp->Prop)->Prop
def PIE (X:Cx) (pins:List (Addr × Obj)) (σ:St) (tg:Expr) (R:It->Hp->Prop) (itv:Value) (s2:Shared):Prop:=
  ∃ (it:Addr) (fp:List Addr) (tn:Nat->Heap->Prop) (J:It) (H':Hp),itv= .ref it/\Inv X pins σ H' s2/\Turn X.prog X.w X.K tg J fp it tn/\tn 0 s2.heap/\(∀ b∈fp,Cj X pins H' b)/\R J H'
def PI (X:Cx) (tg iter:Expr) (wi:TI):Prop:=
  ∀ (pins:List (Addr × Obj)) (s:Shared) (σ:St) (H:Hp) (R:It->Hp->Prop),Inv X pins σ H s->wi σ H R->
    wpAny (model X.prog X.w) X.A (eval iter X.env) (λ v s1=>wpAny (model X.prog X.w) X.A (pyIter v) (PIE X pins σ tg R) X.xe s1) X.xe s
theorem LC {M:Model} {A:Around} {E:Value->Shared->Prop} {s:Shared} {tg:Expr} {it:Addr} {u:Value} {o:Obj} {n:String} {vs:Array Value} {Q:Unit->Shared->Prop} (ho:s.heap.get? it=some o) (hc:o.cls= .type n) (hd:o.data= .fields vs)
    (hn:["enumerate","zip","dict_itemiterator","dict_reverseitemiterator","odict_iterator","itertools.zip_longest","itertools.pairwise"].contains n=false) (hQ:Q () s):wpAny M A (letOwnedTupleGo tg (.ref it) u) Q E s:=by
  unfold letOwnedTupleGo;cases tg <;> first
    | exact wpAny_pure hQ
    | (cases u <;> first
        | exact wpAny_pure hQ
        | (refine wpAny_bind (wpAny_load ho ?_)
           rw [hc,hd];show wpAny M A (if (["enumerate","zip","dict_itemiterator","dict_reverseitemiterator","odict_iterator","itertools.zip_longest","itertools.pairwise"].contains n&&vs[0]? == some (rawInt _))=true then _ else _) Q E s;rw [if_neg (by intro h;rw [hn,Bool.false_and] at h;cases h)];exact wpAny_pure hQ))
noncomputable def Itl (K:PySem.W.Frag) (a:Addr):It:=
  ⟨λ i H=>∃ xs x,SqL K H a xs/\xs[i]?=some x,λ i H x H'=>H'=H/\∀ xs,SqL K H a xs->xs[i]?=some x,λ i H=>∃ xs,SqL K H a xs/\xs.length<=i⟩
noncomputable def Itt (K:PySem.W.Frag) (a:Addr):It:=
  ⟨λ i H=>∃ xs x,SqT K H a xs/\xs[i]?=some x,λ i H x H'=>H'=H/\∀ xs,SqT K H a xs->xs[i]?=some x,λ i H=>∃ xs,SqT K H a xs/\xs.length<=i⟩
noncomputable def Itr (lo:Int) (n:Nat):It:=⟨λ i _=>i<n,λ i H x H'=>H'=H/\x= .int (lo+i),λ i _=>n<=i⟩
theorem Js {P:Program} {w:World} {K:PySem.W.Frag} {tg:Expr} (a it:Addr):Turn P w K tg (Itl K a) [it] it (λ i h=>h.IsListIter it a i) where
  mem:=by simp
  obj:=λ i h st b hb=>by
    have e:b=it:=by simpa using hb
    subst e;obtain ⟨o,e,c,d⟩:=st;exact ⟨o,e,λ v z=>by rw [d] at z;cases z⟩
  keep:=λ i h h' st k=>st.at λ o e=>k it (by simp) o e
  item:=by
    intro X hP hw hK hc i pins s σ H E I hf st hg;subst hP hw hK;obtain ⟨xs,x,hq,hx⟩:=hg;obtain ⟨its,rv,p,hz⟩:=I.list hq;obtain ⟨u,hu,ru⟩:=rv.get hx;obtain ⟨f0,f1,f2,f3,f4,f5⟩:=hf it (by simp);refine wpAny_pyNext_list_item st p.isList (x:=u) (by simpa using hu) λ h' st' sb=> ?_;have I1:Inv X pins σ H { s with heap:=h' }:=I.turned (t':=s.toks) (λ b o hb e=>(sb.2 b hb).trans e) f0 f1 f3 f4 f5;obtain ⟨o,e,c,d⟩:=id st';exact ⟨u,rfl,LC (s:={ s with heap:=h' }) e c d (by decide) ⟨x,H,I1,ru,⟨rfl,λ ys hy=>by rw [I.list_inj hy hq];exact hx⟩,st',λ b hb=>(hf b hb).1⟩⟩
  done:=by
    intro X hP hw hK hc i pins s σ H E I hf st hg;subst hP hw hK;obtain ⟨xs,hq,hx⟩:=hg;obtain ⟨its,rv,p,hz⟩:=I.list hq;obtain ⟨f0,f1,f2,f3,f4,f5⟩:=hf it (by simp);have hl:=rv.length;exact wpAny_pyNext_list_end (I.ok.hd hc) st p.isList (by simp;omega) λ h' eb=>⟨rfl,I.turned (t':=s.toks) (λ b o hb e=>eb b o hb e) f0 f1 f3 f4 f5⟩
  self:=λ _ _ _ _ _ st h=>wpAny_pyIter_listiter st h
theorem Ib {P:Program} {w:World} {K:PySem.W.Frag} {tg:Expr} (a it:Addr):Turn P w K tg (Itt K a) [it] it (λ i h=>h.IsTupleIter it a i) where
  mem:=by simp
  obj:=λ i h st b hb=>by
    have e:b=it:=by simpa using hb
    subst e;obtain ⟨o,e,c,d⟩:=st;exact ⟨o,e,λ v z=>by rw [d] at z;cases z⟩
  keep:=λ i h h' st k=>st.at λ o e=>k it (by simp) o e
  item:=by
    intro X hP hw hK hc i pins s σ H E I hf st hg;subst hP hw hK;obtain ⟨xs,x,hq,hx⟩:=hg;obtain ⟨its,rv,p,hz⟩:=I.tuple hq;obtain ⟨u,hu,ru⟩:=rv.get hx;obtain ⟨f0,f1,f2,f3,f4,f5⟩:=hf it (by simp);refine wpAny_pyNext_tuple_item st (show s.heap.IsTuple a its.toArray from p) (x:=u) (by simpa using hu) λ h' st' sb=> ?_;have I1:Inv X pins σ H { s with heap:=h' }:=I.turned (t':=s.toks) (λ b o hb e=>(sb.2 b hb).trans e) f0 f1 f3 f4 f5;obtain ⟨o,e,c,d⟩:=id st';exact ⟨u,rfl,LC (s:={ s with heap:=h' }) e c d (by decide) ⟨x,H,I1,ru,⟨rfl,λ ys hy=>by rw [I.tuple_inj hy hq];exact hx⟩,st',λ b hb=>(hf b hb).1⟩⟩
  done:=by
    intro X hP hw hK hc i pins s σ H E I hf st hg;subst hP hw hK;obtain ⟨xs,hq,hx⟩:=hg;obtain ⟨its,rv,p,hz⟩:=I.tuple hq;obtain ⟨f0,f1,f2,f3,f4,f5⟩:=hf it (by simp);have hl:=rv.length;exact wpAny_pyNext_tuple_end (I.ok.hd hc) st (show s.heap.IsTuple a its.toArray from p) (by simp;omega) λ h' eb=>⟨rfl,I.turned (t':=s.toks) (λ b o hb e=>eb b o hb e) f0 f1 f3 f4 f5⟩
  self:=λ _ _ _ _ _ st h=>wpAny_pyIter_tupleiter st h
theorem LN {P:Program} {w:World} {K:PySem.W.Frag} {tg:Expr} (it:Addr) (lo:Int) (n:Nat):Turn P w K tg (Itr lo n) [it] it (λ i h=>IsRangeIter h it (lo+(i:Nat)*1) ((n:Int) - (i:Nat)) 1) where
  mem:=by simp
  obj:=λ i h st b hb=>by
    have e:b=it:=by simpa using hb
    subst e;exact ⟨_,st,λ v z=>by
      have z':Data.fields _=Data.cell v:=z;cases z'⟩
  keep:=λ i h h' st k=>k it (by simp) _ st
  item:=by
    intro X hP hw hK hc i pins s σ H E I hf st hg;subst hP hw hK;obtain ⟨f0,f1,f2,f3,f4,f5⟩:=hf it (by simp);have W:=Walks.range (prog:=X.prog) (w:=X.w) (I.ok.hd hc) it lo 1 n;refine W.item i s _ _ hg st λ v h' tk hv st' kk=> ?_;obtain ⟨t,rfl⟩:=hv;have I1:Inv X pins σ H { s with heap:=h',toks:=tk }:=I.turned (λ b o hb e=>kk b o (by simpa using hb) e) f0 f1 f3 f4 f5;refine ⟨_,rfl,LC (s:={ s with heap:=h',toks:=tk }) (n:="range_iterator") st' rfl rfl (by decide) ⟨.int (lo+i),H,I1,⟨t,?_⟩,⟨rfl,rfl⟩,st',λ b hb=>(hf b hb).1⟩⟩;rw [Int.mul_one]
  done:=by
    intro X hP hw hK hc i pins s σ H E I hf st hg;subst hP hw hK;obtain ⟨f0,f1,f2,f3,f4,f5⟩:=hf it (by simp);exact wpAny_pyNext_range_end (I.ok.hd hc) st (by have:n<=i:=hg;omega) λ h' eb=>⟨rfl,I.turned (t':=s.toks) (λ b o hb e=>eb b o hb e) f0 f1 f3 f4 f5⟩
  self:=λ _ _ _ _ _ st h=>wpAny_pyIter_rangeiter st h
section
variable {X:Cx} {tg:Expr}
def Oq (K:PySem.W.Frag) (tl:TE):TI:=λ σ H R=>tl σ H λ x H1=>∃ a,x= .ref a/\(∃ xs,SqL K H1 a xs)/\R (Itl K a) H1
def Tg (K:PySem.W.Frag) (tl:TE):TI:=λ σ H R=>tl σ H λ x H1=>∃ a,x= .ref a/\(∃ xs,SqT K H1 a xs)/\R (Itt K a) H1
theorem Rl {l:Expr} {tl:TE} (hl:PE X l tl):PI X tg l (Oq X.K tl):=by
  intro pins s σ H R I h;refine thn (hl pins s σ H _ I h) λ v s1 ⟨x,H1,I1,r1,q1⟩=> ?_;obtain ⟨a,e,⟨xs,hq⟩,q⟩:=q1;subst e;cases r1;obtain ⟨its,rv,p,hz⟩:=I1.list hq;refine wpAny_pyIter_list p.isList ?_;refine ⟨s1.heap.objs.size,[s1.heap.objs.size],_,_,H1,rfl,I1.kept (t':=s1.toks) λ b o e=>Heap.get?_push_of_some _ e,Js a _,⟨_,Heap.get?_push_size _ rfl,rfl,rfl⟩,λ b hb=> ?_,q⟩;have e:b=s1.heap.objs.size:=by simpa using hb
  subst e;exact I1.fpOk (Nat.le_refl _) (I1.hok.fresh (Nat.le_refl _))
theorem SY {l:Expr} {tl:TE} (hl:PE X l tl):PI X tg l (Tg X.K tl):=by
  intro pins s σ H R I h;refine thn (hl pins s σ H _ I h) λ v s1 ⟨x,H1,I1,r1,q1⟩=> ?_;obtain ⟨a,e,⟨xs,hq⟩,q⟩:=q1;subst e;cases r1;obtain ⟨its,rv,p,hz⟩:=I1.tuple hq;refine wpAny_pyIter_tuple (show s1.heap.IsTuple a its.toArray from p) ?_;refine ⟨s1.heap.objs.size,[s1.heap.objs.size],_,_,H1,rfl,I1.kept (t':=s1.toks) λ b o e=>Heap.get?_push_of_some _ e,Ib a _,⟨_,Heap.get?_push_size _ rfl,rfl,rfl⟩,λ b hb=> ?_,q⟩;have e:b=s1.heap.objs.size:=by simpa using hb
  subst e;exact I1.fpOk (Nat.le_refl _) (I1.hok.fresh (Nat.le_refl _))
theorem KY {pins:List (Addr × Obj)} {σ:St} {H:Hp} {s:Shared} {R:It->Hp->Prop} {E:Value->Shared->Prop} {lo hi:Int} {t u v:Tok} {tk:Nat} (I:Inv X pins σ H s) (h1: -(2 ^ 62)<=lo) (h2:lo<2 ^ 62) (h3: -(2 ^ 62)<=hi) (h4:hi<2 ^ 62)
    (q:R (Itr lo (hi - lo).toNat) H):wpAny (model X.prog X.w) X.A (pyIter (.ref s.heap.objs.size)) (PIE X pins σ tg R) E { s with heap:=s.heap.push { cls:= .type "range",data:= .fields #[.int lo t, .int hi u, .int 1 v] },toks:=tk }:=by
  refine wpAny_pyIter_range (IsRange.new ..) (small_one h1 h2 h3 h4) ?_;have I1:Inv X pins σ H { s with heap:=s.heap.push { cls:= .type "range",data:= .fields #[.int lo t, .int hi u, .int 1 v] },toks:=tk }:=I.kept λ b o e=>Heap.get?_push_of_some _ e;refine ⟨(s.heap.push { cls:= .type "range",data:= .fields #[.int lo t, .int hi u, .int 1 v] }).objs.size,[(s.heap.push { cls:= .type "range",data:= .fields #[.int lo t, .int hi u, .int 1 v] }).objs.size],_,_,H,rfl,
    I1.kept (t':=tk) λ b o e=>Heap.get?_push_of_some _ e,LN _ lo (hi - lo).toNat,?_,λ b hb=> ?_,q⟩
  · have e1:lo+((0:Nat):Int)*1=lo:=by simp
    have e2:(((hi - lo).toNat:Nat):Int) - ((0:Nat):Int)=Builtin.Range.rangeSize lo hi 1:=by rw [rangeSize_one];split <;> omega
    show IsRangeIter _ _ (lo+((0:Nat):Int)*1) ((((hi - lo).toNat:Nat):Int) - ((0:Nat):Int)) 1;rw [e1,e2];exact Heap.get?_push_size _ rfl
  · have e:b=(s.heap.push { cls:= .type "range",data:= .fields #[.int lo t, .int hi u, .int 1 v] }).objs.size:=by simpa using hb
    subst e;exact I1.fpOk (Nat.le_refl _) (I1.hok.fresh (Nat.le_refl _))
def RQ (ta:TA):TI:=λ σ H R=>ta σ H λ vs H1=>∃ j:Int,vs=[.int j]/\ -(2 ^ 62)<=j/\j<2 ^ 62/\R (Itr 0 j.toNat) H1
def R0 (ta:TA):TI:=λ σ H R=>ta σ H λ vs H1=>∃ i j:Int,vs=[.int i, .int j]/\(-(2 ^ 62)<=i/\i<2 ^ 62/\ -(2 ^ 62)<=j/\j<2 ^ 62)/\R (Itr i (j - i).toNat) H1
theorem Db {a:Expr} {ta:TA} {p pos:Pos} (hg:Gl X "range") (hm:X.mg "range"=none) (ha:PA X [a] ta) (hs:starEach [a] X.env=[(false,eval a X.env)]:=by rfl):PI X tg (.Call (.Name "range" p) [a] [] pos) (RQ ta):=by
  intro pins s σ H R I h;refine Call_ (B3 I hg hm boot_range (PyProof.Rows.callWith_type1 (thn (ha pos pins s σ H _ I h) λ us s1 ⟨vs,H1,I1,r1,q1⟩=> ?_) hs rfl));obtain ⟨j,e,q1,q2,q⟩:=q1;subst e;cases r1 with
  | cons r rr=>
    cases rr;obtain ⟨t,rfl⟩:=r;exact call_range_1 (KY I1 (by omega) (by omega) q1 q2 (by simpa using q))
theorem BG {a b:Expr} {ta:TA} {p pos:Pos} (hg:Gl X "range") (hm:X.mg "range"=none) (ha:PA X [a,b] ta) (hs:starEach [a,b] X.env=[(false,eval a X.env),(false,eval b X.env)]:=by rfl) (hs2:starEach [b] X.env=[(false,eval b X.env)]:=by rfl):
    PI X tg (.Call (.Name "range" p) [a,b] [] pos) (R0 ta):=by
  intro pins s σ H R I h;refine Call_ (B3 I hg hm boot_range (PyProof.Rows.callWith_type1 (thn (ha pos pins s σ H _ I h) λ us s1 ⟨vs,H1,I1,r1,q1⟩=> ?_) (by rw [hs,hs2]) (by rw [hs2];rfl)));obtain ⟨i,j,e,⟨q1,q2,q3,q4⟩,q⟩:=q1;subst e;cases r1 with
  | cons r rr=>
    cases rr with
    | cons r' rr=>
      cases rr;obtain ⟨t,rfl⟩:=r;obtain ⟨t',rfl⟩:=r';exact call_range_2 (KY I1 q1 q2 q3 q4 q)
def Yo (wi:TI) (g:TG) (tb:TS):TS:=λ D σ H=>wi σ H λ J H1=>∃ W:Nat->Nat->St->Hp->Prop,(∃ m,W 0 m σ H1)/\∀ i m σ H,W i m σ H->
  (J.stop i H/\D.nx σ H)\/(J.go i H/\∃ N:St->Hp->Prop,(∀ σ' H',N σ' H'->∃ m',m'<m/\W (i+1) m' σ' H')/\∀ x H',J.yld i H x H'->g x σ H' λ σ2 H2=>tb { D with nx:=N,ct:=N,bk:=D.nx } σ2 H2)
noncomputable def Gs (fp:List Addr) (h:Heap):List (Addr × Obj):=fp.filterMap λ b=>(h.get? b).map λ o=>(b,o)
theorem B6 {fp:List Addr} {h:Heap} {b:Addr} {o:Obj} (hb:b∈fp) (e:h.get? b=some o):(b,o)∈Gs fp h:=List.mem_filterMap.mpr ⟨b,hb,by rw [e];rfl⟩
theorem NW {fp:List Addr} {h:Heap} {p:Addr × Obj} (hp:p∈Gs fp h):p.1∈fp/\h.get? p.1=some p.2:=by
  obtain ⟨b,hb,e⟩:=List.mem_filterMap.mp hp;cases q:h.get? b with
  | none=>rw [q] at e;cases e
  | some o=>
    rw [q] at e;have e':(b,o)=p:=Option.some.inj e;subst e';exact ⟨hb,q⟩
theorem Inv.pinned {pins:List (Addr × Obj)} {σ:St} {H:Hp} {s:Shared} {fp:List Addr} (I:Inv X pins σ H s) (hf:∀ b∈fp,Cj X pins H b) (ho:∀ b∈fp,∃ o,s.heap.get? b=some o/\∀ v,o.data≠ .cell v):Inv X (pins++Gs fp s.heap) σ H s:=
  I.pins_of λ p hp=>(List.mem_append.mp hp).elim (λ z=>I.pin p (List.mem_append_right _ z)) λ z=>by
    obtain ⟨hb,e⟩:=NW z;obtain ⟨f0,f1,f2,_⟩:=hf p.1 hb;obtain ⟨o,e',d⟩:=ho p.1 hb;rw [e] at e';cases e';exact ⟨e,f0,f1,f2,d⟩
theorem Inv.unpinned {pins pl:List (Addr × Obj)} {σ:St} {H:Hp} {s:Shared} (I:Inv X (pins++pl) σ H s):Inv X pins σ H s:=I.pins_of λ p hp=>I.pin p (List.mem_append_right _ (List.mem_append_left _ hp))
theorem C6 {iter:Expr} {body:List Stmt} {wi:TI} {g:TG} {tb:TS} {pos:Pos} (hp:PassesOwn (model X.prog X.w) X.A X.env X.xe) (hc:X.calm=true) (hi:PI X tg iter wi) (hg:PG X tg g) (hb:PSs X body tb)
    (hs:∀ x,foldedSetIterable iter X.env x=pure x:=by intro _;rfl):PS X (.For tg iter body [] pos) (Yo wi g tb):=by
  intro pins s σ H D I h;refine wpAny_For (thn (hi pins s σ H _ I h) λ v s1 h1=>thn h1 λ itv s2 h2=> ?_) hs;obtain ⟨it,fp,tn,J,H2,e,I2,T,st2,f2,W,⟨m0,w0⟩,turn⟩:=h2;subst e;have stat:∀ {H':Hp},(∀ b∈fp,H' b=none)->∀ b∈fp,Cj X pins H' b:=λ hn b hb=>⟨hn b hb,(f2 b hb).2⟩;refine codeAny_forLoop_any (λ n s'=>∃ i σ' H',Inv X pins σ' H' s'/\tn i s'.heap/\(∀ b∈fp,H' b=none)/\W i n σ' H') ?_ m0 ⟨0,σ,H2,I2,st2,λ b hb=>(f2 b hb).1,w0⟩;rintro n s3 ⟨i,σ3,H3,I3,st3,fr3,w3⟩;rcases turn i n σ3 H3 w3 with ⟨stop,qn⟩ | ⟨go,N,hN,step⟩
  · refine wpAny_passesOwn hp (thn (T.done X rfl rfl rfl hc i pins s3 σ3 H3 X.xe I3 (stat fr3) st3 stop) λ r s4 ⟨hr,I4⟩=> ?_);subst hr;exact wpAny_execs_nil ⟨σ3,H3,I4,qn⟩
  · refine wpAny_passesOwn hp (thn (T.item X rfl rfl rfl hc i pins s3 σ3 H3 X.xe I3 (stat fr3) st3 go) λ r s4 ⟨u,hr,h4⟩=> ?_);subst hr;refine wpAny_passesOwn hp (thn h4 λ _ s5 ⟨x,H5,I5,r5,y5,st5,fr5⟩=> ?_);have I5':=I5.pinned (stat fr5) (T.obj _ _ st5);refine wpAny_passesOwn hp (thn (hg _ s5 σ3 H5 x u _ I5' r5 (step x H5 y5)) λ _ s6 ⟨σ6,H6,I6,q6⟩=> ?_);refine wpAny_passesOwn hp (thn (hb _ s6 σ6 H6 _ I6 q6) λ f s7 q7=> ?_);have again:∀ {σ7:St} {H7:Hp},Inv X (pins++Gs fp s5.heap) σ7 H7 s7->N σ7 H7->∃ m,m<n/\∃ i σ' H',Inv X pins σ' H' s7/\tn i s7.heap/\(∀ b∈fp,H' b=none)/\W i m σ' H':=λ {σ7 H7} I7 n7=>by
      obtain ⟨m',hm,w7⟩:=hN σ7 H7 n7;refine ⟨m',hm,i+1,σ7,H7,I7.unpinned,T.keep _ _ _ st5 λ b hb o e=>(I7.pin (b,o) (List.mem_append_right _ (List.mem_append_right _ (B6 hb e)))).1,λ b hb=> ?_,w7⟩;obtain ⟨o,e,d⟩:=T.obj _ _ st5 b hb;exact (I7.pin (b,o) (List.mem_append_right _ (List.mem_append_right _ (B6 hb e)))).2.1
    cases f with
    | next=>obtain ⟨σ7,H7,I7,n7⟩:=q7;exact again I7 n7
    | cont=>obtain ⟨σ7,H7,I7,n7⟩:=q7;exact again I7 n7
    | brk=>obtain ⟨σ7,H7,I7,q7⟩:=q7;exact ⟨σ7,H7,I7.unpinned,q7⟩
    | ret v=>obtain ⟨x7,σ7,H7,I7,r7,q7⟩:=q7;exact ⟨x7,σ7,H7,I7.unpinned,r7,q7⟩
end
abbrev R2:=V->V->Hp->VK->Prop
def OpR (X:Cx) (f:Value->Value->Sem Value) (r:R2):Prop:=
  ∀ (pins:List (Addr × Obj)) (s:Shared) (σ:St) (H:Hp) (x y:V) (v u:Value) (Q:VK),Inv X pins σ H s->RelV x v->RelV y u->r x y H Q->
    wpAny (model X.prog X.w) X.A (f v u) (EP X pins σ Q) X.xe s
def UnR (X:Cx) (f:Value->Sem Value) (r:V->Hp->VK->Prop):Prop:=
  ∀ (pins:List (Addr × Obj)) (s:Shared) (σ:St) (H:Hp) (x:V) (v:Value) (Q:VK),Inv X pins σ H s->RelV x v->r x H Q->
    wpAny (model X.prog X.w) X.A (f v) (EP X pins σ Q) X.xe s
def BR (X:Cx) (f:Value) (r:List V->Hp->VK->Prop):Prop:=
  ∀ (pins:List (Addr × Obj)) (s:Shared) (σ:St) (H:Hp) (xs:List V) (us:List Value) (Q:VK),Inv X pins σ H s->Vals xs us->r xs H Q->
    wpAny (model X.prog X.w) X.A (call f us) (EP X pins σ Q) X.xe s
def aQ (X:Cx) (r:V->Hp->(Bool->Hp->Prop)->Prop):Prop:=
  ∀ (pins:List (Addr × Obj)) (s:Shared) (σ:St) (H:Hp) (x:V) (v:Value) (Q:Bool->Hp->Prop),Inv X pins σ H s->RelV x v->r x H Q->
    wpAny (model X.prog X.w) X.A (truthy v) (TP X pins σ Q) X.xe s
def tOp (r:R2) (ta tb:TE):TE:=λ σ H Q=>ta σ H λ x H1=>tb σ H1 λ y H2=>r x y H2 Q
def tUn (r:V->Hp->VK->Prop) (ta:TE):TE:=λ σ H Q=>ta σ H λ x H1=>r x H1 Q
def rI (C:Int->Int->Prop) (g:Int->Int->V):R2:=λ x y H Q=>∃ i j,x= .int i/\y= .int j/\C i j/\Q (g i j) H
def rI0 (g:Int->Int->V):R2:=λ x y H Q=>∃ i j,x= .int i/\y= .int j/\Q (g i j) H
def rU (g:Int->V):V->Hp->VK->Prop:=λ x H Q=>∃ i,x= .int i/\Q (g i) H
section
variable {X:Cx} {a b c:Expr} {ta tb tc:TE} {pos:Pos}
theorem Sq (ha:PE X a ta) (hb:PE X b tb) {pins:List (Addr × Obj)} {s:Shared} {σ:St} {H:Hp} {R:V->V->Hp->Prop} (I:Inv X pins σ H s)
    (h:ta σ H λ x H1=>tb σ H1 λ y H2=>R x y H2) {Q:Value->Shared->Prop} {f:Value->Value->Sem Value}
    (hf:∀ v u s2 x y H2,Inv X pins σ H2 s2->RelV x v->RelV y u->R x y H2->wpAny (model X.prog X.w) X.A (f v u) Q X.xe s2):
    wpAny (model X.prog X.w) X.A (eval a X.env) (λ v s₁=>wpAny (model X.prog X.w) X.A (eval b X.env) (λ u s₂=>wpAny (model X.prog X.w) X.A (f v u) Q X.xe s₂) X.xe s₁) X.xe s:=by
  refine thn (ha pins s σ H _ I h) λ v s1 ⟨x,H1,I1,r1,q1⟩=> ?_;refine thn (hb pins s1 σ H1 _ I1 q1) λ u s2 ⟨y,H2,I2,r2,q2⟩=> ?_;exact hf v u s2 x y H2 I2 r1 r2 q2
theorem Am {op:Operator} {r:R2} (ho:OpR X (binaryOp op) r) (ha:PE X a ta) (hb:PE X b tb):PE X (.BinOp a op b pos) (tOp r ta tb):=by
  intro pins s σ H Q I h;exact wpAny_BinOp (Sq ha hb I h λ v u s2 x y H2 I2 rx ry q=>ho pins s2 σ H2 x y v u Q I2 rx ry q)
theorem Nq {op:UnaryOp} {r:V->Hp->VK->Prop} (ho:UnR X (unaryOp op) r) (ha:PE X a ta):PE X (.UnaryOp op a pos) (tUn r ta):=by
  intro pins s σ H Q I h;exact UnaryOp_ (thn (ha pins s σ H _ I h) λ v s1 ⟨x,H1,I1,r1,q1⟩=>ho pins s1 σ H1 x v Q I1 r1 q1)
theorem opI {f:Value->Value->Sem Value} {C:Int->Int->Prop} {g:Int->Int->Int}
    (rule:∀ (i j:Int) (t u:Tok) (s:Shared) (Q:Value->Shared->Prop) (E:Value->Shared->Prop),C i j->Q (.int (g i j) s.toks) { s with toks:=s.toks+1 }->wpAny (model X.prog X.w) X.A (f (.int i t) (.int j u)) Q E s):
    OpR X f (rI C λ i j=> .int (g i j)):=by
  intro pins s σ H x y v u Q I rx ry h;obtain ⟨i,j,rfl,rfl,hc,q⟩:=h;obtain ⟨t,rfl⟩:=rx;obtain ⟨t',rfl⟩:=ry;exact rule i j t t' s _ _ hc ⟨.int (g i j),H,I.tok _,⟨_,rfl⟩,q⟩
theorem OR {f:Value->Value->Sem Value} {g:Int->Int->Int}
    (rule:∀ (i j:Int) (t u:Tok) (s:Shared) (Q:Value->Shared->Prop) (E:Value->Shared->Prop),Q (.int (g i j) s.toks) { s with toks:=s.toks+1 }->wpAny (model X.prog X.w) X.A (f (.int i t) (.int j u)) Q E s):
    OpR X f (rI0 λ i j=> .int (g i j)):=by
  intro pins s σ H x y v u Q I rx ry h;obtain ⟨i,j,rfl,rfl,q⟩:=h;obtain ⟨t,rfl⟩:=rx;obtain ⟨t',rfl⟩:=ry;exact rule i j t t' s _ _ ⟨.int (g i j),H,I.tok _,⟨_,rfl⟩,q⟩
theorem ZM {f:Value->Value->Sem Value} {g:Int->Int->Bool}
    (rule:∀ (i j:Int) (t u:Tok) (s:Shared) (Q:Value->Shared->Prop) (E:Value->Shared->Prop),Q (.bool (g i j)) s->wpAny (model X.prog X.w) X.A (f (.int i t) (.int j u)) Q E s):
    OpR X f (rI0 λ i j=> .bl (g i j)):=by
  intro pins s σ H x y v u Q I rx ry h;obtain ⟨i,j,rfl,rfl,q⟩:=h;obtain ⟨t,rfl⟩:=rx;obtain ⟨t',rfl⟩:=ry;exact rule i j t t' s _ _ ⟨.bl (g i j),H,I,rfl,q⟩
def aC (i j:Int):Prop:=0<=j/\j<=1000000/\i.natAbs<2 ^ 64
def CMul (i j:Int):Prop:=(-(2 ^ 64)<i/\i<2 ^ 64)\/(-(2 ^ 64)<j/\j<2 ^ 64)
theorem CMul.ok {i j:Int} (h:CMul i j):IntMulOk i j:=by
  rcases h with ⟨h1,h2⟩ | ⟨h1,h2⟩
  · exact .of_left (intBits_le_64 h1 h2)
  · exact .of_right (intBits_le_64 h1 h2)
theorem LQ (k:Nat):(0:Int)<=2 ^ k:=by
  rw [two_pow_cast];exact Int.natCast_nonneg _
theorem AR:OpR X (binaryOp .Add) (rI0 λ i j=> .int (i+j)):=OR λ _ _ _ _ _ _ _ q=>add_int q
theorem Cm:OpR X (binaryOp .Sub) (rI0 λ i j=> .int (i - j)):=OR λ _ _ _ _ _ _ _ q=>sub_int q
theorem Kd:OpR X (binaryOp .Mult) (rI CMul λ i j=> .int (i*j)):=opI λ _ _ _ _ _ _ _ hc q=>mul_int q hc.ok
theorem A5:OpR X (binaryOp .Mod) (rI (λ _ j=>0<j) λ i j=> .int (i%j)):=opI λ i j _ _ _ _ _ hc q=>by
  have h1:(0:Int)<j:=hc;exact mod_int' (by omega) (by rw [Int.fmod_eq_emod_of_nonneg i (by omega)];exact q)
theorem KA:OpR X (binaryOp .LShift) (rI aC λ i j=> .int (i*2 ^ j.toNat)):=opI λ _ _ _ _ _ _ _ hc q=>lshift_int_small hc.1 hc.2.1 hc.2.2 q
theorem SX:OpR X (binaryOp .RShift) (rI (λ _ j=>0<=j) λ i j=> .int (i / 2 ^ j.toNat)):=opI λ i j _ _ _ _ _ hc q=>
  rshift_int hc (by rw [Int.fdiv_eq_ediv_of_nonneg i (LQ _)];exact q)
theorem OT:OpR X (binaryOp .BitAnd) (rI0 λ i j=> .int (Builtin.bitAnd i j)):=OR λ _ _ _ _ _ _ _ q=>and_int q
theorem SG:OpR X (binaryOp .BitXor) (rI0 λ i j=> .int (Builtin.bitXor i j)):=OR λ _ _ _ _ _ _ _ q=>xor_int q
theorem OO:OpR X (inplaceOp .BitOr) (rI0 λ i j=> .int (Builtin.bitOr i j)):=OR λ _ _ _ _ _ _ _ q=>ior_int q
theorem unI {f:Value->Sem Value} {g:Int->Int}
    (rule:∀ (i:Int) (t:Tok) (s:Shared) (Q:Value->Shared->Prop) (E:Value->Shared->Prop),Q (.int (g i) s.toks) { s with toks:=s.toks+1 }->wpAny (model X.prog X.w) X.A (f (.int i t)) Q E s):
    UnR X f (rU λ i=> .int (g i)):=by
  intro pins s σ H x v Q I rx h;obtain ⟨i,rfl,q⟩:=h;obtain ⟨t,rfl⟩:=rx;exact rule i t s _ _ ⟨.int (g i),H,I.tok _,⟨_,rfl⟩,q⟩
theorem J4:UnR X (unaryOp .USub) (rU λ i=> .int (-i)):=unI λ _ _ _ _ _ q=>neg_int q
end
noncomputable def Sl:V->V->Bool
  | .non, .non=>true | .non, .int _=>true | .int _, .non=>true | .non, .bl _=>true | .bl _, .non=>true | .non, .str _=>true | .str _, .non=>true
  | .int _, .int _=>true | .bl _, .bl _=>true | .str _, .str _=>true | .byt _, .byt _=>true
  | .int _, .str _=>true | .str _, .int _=>true | .bl _, .str _=>true | .str _, .bl _=>true
  | _,_=>false
def rEq:R2:=λ x y H Q=>Sl x y=true/\Q (.bl (decide (x=y))) H
def rNe:R2:=λ x y H Q=>Sl x y=true/\Q (.bl (!decide (x=y))) H
theorem MI {i j:Int}:decide (V.int i=V.int j)=(i == j):=by
  rw [Bool.eq_iff_iff];simp
theorem OW {i j:Bool}:decide (V.bl i=V.bl j)=(i == j):=by
  rw [Bool.eq_iff_iff];simp
theorem Ni {i j:Str}:decide (V.str i=V.str j)=(i == j):=by
  rw [Bool.eq_iff_iff];simp
theorem Nc {i j:Array UInt8}:decide (V.byt i=V.byt j)=(i.toList == j.toList):=by
  rw [Bool.eq_iff_iff];cases i;cases j;simp
section
variable {X:Cx} {a b c:Expr} {ta tb tc:TE} {pos:Pos}
theorem AC {pins:List (Addr × Obj)} {σ:St} {H:Hp} {s:Shared} {Q:VK} {k k':Bool} (I:Inv X pins σ H s) (q:Q (.bl k) H) (e:k=k'):EP X pins σ Q (.bool k') s:=by
  subst e;exact ⟨.bl k,H,I,rfl,q⟩
theorem Cp:OpR X (compareOp .Eq) rEq:=by
  intro pins s σ H x y v u Q I rx ry h;obtain ⟨hs,q⟩:=h;cases x with
  | non=>
    cases rx;cases y with
    | non=>cases ry;exact PySem.EqNone.eq_none_none (AC I q (by simp))
    | bl j=>cases ry;exact PySem.EqNone.eq_none_bool (AC I q (by simp))
    | int j=>obtain ⟨t',rfl⟩:=ry;exact PySem.EqNone.eq_none_int (AC I q (by simp))
    | str j=>obtain ⟨t',rfl⟩:=ry;exact PySem.EqNone.eq_none_str (AC I q (by simp))
    | _=>exact absurd (show false=true from hs) Bool.false_ne_true
  | bl i=>
    cases rx;cases y with
    | non=>cases ry;exact PySem.EqNone.eq_bool_none (AC I q (by simp))
    | bl j=>cases ry;exact eq_bool (AC I q OW)
    | str j=>obtain ⟨t',rfl⟩:=ry;exact PySem.EqMixed.eq_bool_str (AC I q (by simp))
    | _=>exact absurd (show false=true from hs) Bool.false_ne_true
  | int i=>
    obtain ⟨t,rfl⟩:=rx;cases y with
    | non=>cases ry;exact PySem.EqNone.eq_int_none (AC I q (by simp))
    | int j=>obtain ⟨t',rfl⟩:=ry;exact eq_int (AC I q MI)
    | str j=>obtain ⟨t',rfl⟩:=ry;exact PySem.EqMixed.eq_int_str (AC I q (by simp))
    | _=>exact absurd (show false=true from hs) Bool.false_ne_true
  | str i=>
    obtain ⟨t,rfl⟩:=rx;cases y with
    | non=>cases ry;exact PySem.EqNone.eq_str_none (AC I q (by simp))
    | bl j=>cases ry;exact PySem.EqMixed.eq_str_bool (AC I q (by simp))
    | int j=>obtain ⟨t',rfl⟩:=ry;exact PySem.EqMixed.eq_str_int (AC I q (by simp))
    | str j=>obtain ⟨t',rfl⟩:=ry;exact eq_str (AC I q Ni)
    | _=>exact absurd (show false=true from hs) Bool.false_ne_true
  | byt i=>
    obtain ⟨t,rfl⟩:=rx;cases y with
    | byt j=>obtain ⟨t',rfl⟩:=ry;exact PySem.W.eq_bytes (AC I q Nc)
    | _=>exact absurd (show false=true from hs) Bool.false_ne_true
  | _=>cases y <;> exact absurd (show false=true from hs) Bool.false_ne_true
theorem JK:OpR X (compareOp .NotEq) rNe:=by
  intro pins s σ H x y v u Q I rx ry h;obtain ⟨hs,q⟩:=h;cases x with
  | non=>
    cases rx;cases y with
    | non=>cases ry;exact PySem.EqNone.ne_none_none (AC I q (by simp))
    | bl j=>cases ry;exact PySem.EqNone.ne_none_bool (AC I q (by simp))
    | int j=>obtain ⟨t',rfl⟩:=ry;exact PySem.EqNone.ne_none_int (AC I q (by simp))
    | str j=>obtain ⟨t',rfl⟩:=ry;exact PySem.EqNone.ne_none_str (AC I q (by simp))
    | _=>exact absurd (show false=true from hs) Bool.false_ne_true
  | bl i=>
    cases rx;cases y with
    | non=>cases ry;exact PySem.EqNone.ne_bool_none (AC I q (by simp))
    | bl j=>cases ry;exact ne_bool (AC I q (congrArg not OW))
    | str j=>obtain ⟨t',rfl⟩:=ry;exact PySem.EqMixed.ne_bool_str (AC I q (by simp))
    | _=>exact absurd (show false=true from hs) Bool.false_ne_true
  | int i=>
    obtain ⟨t,rfl⟩:=rx;cases y with
    | non=>cases ry;exact PySem.EqNone.ne_int_none (AC I q (by simp))
    | int j=>obtain ⟨t',rfl⟩:=ry;exact ne_int (AC I q (congrArg not MI))
    | str j=>obtain ⟨t',rfl⟩:=ry;exact PySem.EqMixed.ne_int_str (AC I q (by simp))
    | _=>exact absurd (show false=true from hs) Bool.false_ne_true
  | str i=>
    obtain ⟨t,rfl⟩:=rx;cases y with
    | non=>cases ry;exact PySem.EqNone.ne_str_none (AC I q (by simp))
    | bl j=>cases ry;exact PySem.EqMixed.ne_str_bool (AC I q (by simp))
    | int j=>obtain ⟨t',rfl⟩:=ry;exact PySem.EqMixed.ne_str_int (AC I q (by simp))
    | str j=>obtain ⟨t',rfl⟩:=ry;exact ne_str (AC I q (congrArg not Ni))
    | _=>exact absurd (show false=true from hs) Bool.false_ne_true
  | byt i=>
    obtain ⟨t,rfl⟩:=rx;cases y with
    | byt j=>obtain ⟨t',rfl⟩:=ry;exact PySem.W.ne_bytes (AC I q (congrArg not Nc))
    | _=>exact absurd (show false=true from hs) Bool.false_ne_true
  | _=>cases y <;> exact absurd (show false=true from hs) Bool.false_ne_true
theorem RI:OpR X (compareOp .LtE) (rI0 λ i j=> .bl (decide (i<=j))):=ZM λ _ _ _ _ _ _ _ q=>le_int q
theorem R4:OpR X (compareOp .Gt) (rI0 λ i j=> .bl (decide (j<i))):=ZM λ _ _ _ _ _ _ _ q=>gt_int q
theorem NL:OpR X (compareOp .In) (λ x y H Q=>∃ i j,x= .str i/\y= .str j/\Q (.bl (!(Builtin.Str.occurrences j i 0 j.length 1).isEmpty)) H):=by
  intro pins s σ H x y v u Q I rx ry h;obtain ⟨i,j,rfl,rfl,q⟩:=h;obtain ⟨t,rfl⟩:=rx;obtain ⟨t',rfl⟩:=ry;exact in_str (AC I q rfl)
theorem TM:OpR X (compareOp .Is) (λ x y H Q=>y= .non/\Q (.bl (decide (x= .non))) H):=by
  intro pins s σ H x y v u Q I rx ry h;obtain ⟨rfl,q⟩:=h;cases ry;refine is_none_gen (AC I q ?_);cases x <;> first
    | (cases rx;rfl)
    | (obtain ⟨t,rfl⟩:=rx;rfl)
theorem Rn:OpR X (compareOp .IsNot) (λ x y H Q=>y= .non/\Q (.bl (!decide (x= .non))) H):=by
  intro pins s σ H x y v u Q I rx ry h;obtain ⟨rfl,q⟩:=h;cases ry;refine isnot_none_gen (AC I q ?_);cases x <;> first
    | (cases rx;rfl)
    | (obtain ⟨t,rfl⟩:=rx;rfl)
theorem AG (b:Expr) {op:CmpOp} (h:op≠ .In:=by decide) (h2:op≠ .NotIn:=by decide):behindInMarks op b=false:=by
  have e1:(op == CmpOp.In)=false:=by cases op <;> first | rfl | exact absurd rfl h
  have e2:(op == CmpOp.NotIn)=false:=by cases op <;> first | rfl | exact absurd rfl h2
  cases b <;> simp [behindInMarks,e1,e2]
theorem DY {op:CmpOp} {r:R2} (ho:OpR X (compareOp op) r) (ha:PE X a ta) (hb:PE X b tb) (hm:behindInMarks op b=false):PE X (.Compare a [op] [b] pos) (tOp r ta tb):=by
  intro pins s σ H Q I h;exact wpAny_Compare1 (Sq ha hb I h λ v u s2 x y H2 I2 rx ry q=>ho pins s2 σ H2 x y v u Q I2 rx ry q) hm
def Sb (t:TE):TT:=λ σ H Q=>t σ H λ x H'=>∃ k,x= .bl k/\Q k H'
theorem Av {op:CmpOp} {r:R2} (ho:OpR X (compareOp op) r) (ha:PE X a ta) (hb:PE X b tb) (hm:behindInMarks op b=false):PT X (.Compare a [op] [b] pos) (Sb (tOp r ta tb)):=by
  intro pins s σ H Q I h;refine wpAny_isTrue_Compare1 (thn (ha pins s σ H _ I h) λ v s1 ⟨x,H1,I1,r1,q1⟩=>thn (hb pins s1 σ H1 _ I1 q1) λ u s2 ⟨y,H2,I2,r2,q2⟩=>
    thn (ho pins s2 σ H2 x y v u _ I2 r1 r2 q2) λ c s3 ⟨z,H3,I3,r3,k,e,q3⟩=> ?_) hm
  subst e;cases r3;exact wpAny_truthy_bool ⟨H3,I3,q3⟩
def P4 (r r':R2) (ta tb tc:TE):TE:=λ σ H Q=>ta σ H λ x H1=>tb σ H1 λ y H2=>r x y H2 λ z H3=>∃ k,z= .bl k/\
  (if k=true then tc σ H3 λ w' H4=>r' y w' H4 Q else Q (.bl false) H3)
theorem Pe {op op':CmpOp} {r r':R2} (ho:OpR X (compareOp op) r) (ho':OpR X (compareOp op') r') (ha:PE X a ta) (hb:PE X b tb) (hc:PE X c tc)
    (hm:lastMarks [op,op'] [b,c]=false:=by with_unfolding_all rfl):PE X (.Compare a [op,op'] [b,c] pos) (P4 r r' ta tb tc):=by
  intro pins s σ H Q I h;refine Compare_chain (thn (ha pins s σ H _ I h) λ v s1 ⟨x,H1,I1,r1,q1⟩=>chain_link (thn (hb pins s1 σ H1 _ I1 q1) λ u s2 ⟨y,H2,I2,r2,q2⟩=>
    thn (ho pins s2 σ H2 x y v u _ I2 r1 r2 q2) λ d s3 ⟨z,H3,I3,r3,k,e,q3⟩=> ?_)) hm
  subst e;cases r3;refine wpAny_truthy_bool ?_;cases k with
  | false=>exact ite_ff ⟨.bl false,H3,I3,rfl,q3⟩
  | true=>exact ite_tt (chain_last (thn (hc pins s3 σ H3 _ I3 q3) λ w' s4 ⟨z',H4,I4,r4,q4⟩=>ho' pins s4 σ H4 y z' u w' Q I4 r2 r4 q4))
def ak (K:PySem.W.Frag) (x:V) (H:Hp) (k:Bool):Prop:=
  match x with
  | .non=>k=false
  | .bl b=>k=b
  | .int i=>k=(i != 0)
  | .str y=>y.length<=sizeLine/\k=((y.length:Int) != 0)
  | .byt y=>y.size<=sizeLine/\k=((y.size:Int) != 0)
  | .ref p=>(∃ xs,SqL K H p xs/\k= !xs.isEmpty)\/(∃ xs,SqT K H p xs/\k= !xs.isEmpty)\/∃ kvs,H p=some (.dK kvs)/\k= !kvs.isEmpty
  | _=>False
theorem Ik {xs:List V} {its:List Value} (r:Vals xs its):(!its.toArray.isEmpty)= !xs.isEmpty:=by
  cases r <;> simp
theorem GA:(sizeLine:Nat)<2 ^ 63:=by rw [sizeLine_eq];decide
theorem Ig {x:V} {us:List Value} (r:Vals [x] us):∃ u,us=[u]/\RelV x u:=by
  cases r with
  | cons r1 r2=>cases r2;exact ⟨_,rfl,r1⟩
theorem LD {x y:V} {us:List Value} (r:Vals [x,y] us):∃ u w',us=[u,w']/\RelV x u/\RelV y w':=by
  cases r with
  | cons r1 r2=>
    cases r2 with
    | cons r3 r4=>cases r4;exact ⟨_,_,rfl,r1,r3⟩
theorem NO:BR X (.type "int") (λ xs H Q=>(∃ i,xs=[.int i]/\Q (.int i) H)\/∃ k,xs=[.bl k]/\Q (.int (if k then 1 else 0)) H):=by
  intro pins s σ H xs us Q I r h;rcases h with ⟨i,rfl,q⟩ | ⟨k,rfl,q⟩
  · obtain ⟨u,rfl,t,rfl⟩:=Ig r;exact call_int_int ⟨.int i,H,I,⟨_,rfl⟩,q⟩
  · obtain ⟨u,rfl,r1⟩:=Ig r;cases r1;exact call_int_bool ⟨.int (if k then 1 else 0),H,I.tok _,⟨_,rfl⟩,q⟩
def Wm (K:PySem.W.Frag) (x:V) (H:Hp) (n:Nat):Prop:=
  match x with
  | .str y=>y.length<=sizeLine/\n=y.length
  | .byt y=>y.size<=sizeLine/\n=y.size
  | .ref p=>(∃ xs,SqL K H p xs/\n=xs.length)\/∃ xs,SqT K H p xs/\n=xs.length
  | _=>False
theorem Ps:BR X (.builtin "len") (λ xs H Q=>∃ x n,xs=[x]/\Wm X.K x H n/\Q (.int n) H):=by
  intro pins s σ H xs us Q I r h;obtain ⟨x,n,rfl,e,q⟩:=h;obtain ⟨u,rfl,rx⟩:=Ig r;have hl:=GA;have hs:sizeLine=16777216:=sizeLine_eq;cases x with
  | str y=>
    obtain ⟨t,rfl⟩:=rx;obtain ⟨hy,e'⟩:y.length<=sizeLine/\n=y.length:=e;subst e';exact len_str (by omega) ⟨.int _,H,I.tok _,⟨_,rfl⟩,q⟩
  | byt y=>
    obtain ⟨t,rfl⟩:=rx;obtain ⟨hy,e'⟩:y.size<=sizeLine/\n=y.size:=e;subst e';exact PySem.W.len_bytes (by omega) ⟨.int _,H,I.tok _,⟨_,rfl⟩,q⟩
  | ref p=>
    cases rx;have e':(∃ xs,SqL X.K H p xs/\n=xs.length)\/∃ xs,SqT X.K H p xs/\n=xs.length:=e;rcases e' with ⟨xs,hx,e'⟩ | ⟨xs,hx,e'⟩
    · subst e';obtain ⟨its,r',pl,hz⟩:=I.list hx;have hlen:=r'.length;exact Calls.call_len_list pl.isList (by simp only [List.size_toArray];omega) ⟨.int xs.length,H,I.tok _,⟨_,by simp only [List.size_toArray];rw [hlen]⟩,q⟩
    · subst e';obtain ⟨its,r',pl,hz⟩:=I.tuple hx;have hlen:=r'.length;exact len_tuple pl (by simp only [List.size_toArray];omega) ⟨.int xs.length,H,I.tok _,⟨_,by simp only [List.size_toArray];rw [hlen]⟩,q⟩
  | _=>exact (show False from e).elim
end
structure ObjM (h:Heap) (x dx C:Addr) (mA:Str->Option Value):Prop where
  obj:h.get? x=some (PySem.W.instObj C dx)
  ns:h.Ns1 dx mA
  ne:dx≠x
theorem NV {h:Heap} {dx:Addr} {mA:Str->Option Value} (n:h.Ns1 dx mA):∃ od,h.get? dx=some od/\∀ name,PySem.W.lookIn name od=some (mA name):=by
  obtain ⟨o,es,ep,ho,hd,hk,_,hm⟩:=n;refine ⟨o,ho,λ name=> ?_⟩;have e:=hm name;unfold nsFind findBy at e;rw [<-Array.find?_toList] at e;unfold PySem.W.lookIn;rw [hd];dsimp only;split
  · rename_i y q
    rw [q] at e;exact congrArg some e
  · rename_i q
    rw [q] at e;have a:es.toList.any (·.refKey)=false:=by
      rw [List.any_eq_false];intro y hy;obtain ⟨z,t,hkey⟩:=hk y (Array.mem_toList_iff.mp hy);simp [DictEntry.refKey,hkey]
    have a':¬ es.toList.any (·.refKey)=true:=by rw [a];exact Bool.false_ne_true
    rw [if_neg a'];exact congrArg some e
theorem ObjM.look {h:Heap} {x dx C:Addr} {mA:Str->Option Value} (I:ObjM h x dx C mA):∃ od,PySem.W.InstAt h x (PySem.W.instObj C dx) C (some od)/\∀ name,PySem.W.lookIn name od=some (mA name):=
  let ⟨od,ho,hl⟩:=NV I.ns
  ⟨od,⟨I.obj,rfl,rfl,ho⟩,hl⟩
section
variable {prog:Program} {w:World} {A:Around} {E:Value->Shared->Prop} {s:Shared} {K:PySem.W.Frag} {x dx C f:Addr} {mA:Str->Option Value} {name:Str} {v:Value}
theorem Qu {expr:Bool} {Q:Value->Shared->Prop} (X:K.In s.heap) (I:ObjM s.heap x dx C mA) (hg:PySem.W.plainGet K C name=true) (hh:PySem.W.hasDictIn K C=true)
    (ha:PySem.W.findIn K (.ref C) name=some none) (hv:mA name=some v) (hv':PySem.W.handedIn v=true) (h:Q v { s with toks:=s.toks+1 }):
    wpAny (model prog w) A (getAttr (.ref x) name expr) Q E s:=by
  obtain ⟨od,J,hl⟩:=I.look;exact PySem.W.get_value X J (PySem.W.plainGet_of hg).1 (PySem.W.findObj_own hh ha rfl (by rw [hl,hv])) hv' h
theorem O4 {pl:Sem Bool} {Q:Value × List Value->Shared->Prop} (X:K.In s.heap) (I:ObjM s.heap x dx C mA) (hg:PySem.W.plainGet K C name=true)
    (hf:PySem.W.findIn K (.ref C) name=some (some (.ref f))) (ht:PySem.W.isFn K (.ref f)=true) (hv:mA name=none) (h:Q (.ref f,[.ref x]) s):
    wpAny (model prog w) A (getMethod (.ref x) name pl) Q E s:=by
  obtain ⟨od,J,hl⟩:=I.look;exact PySem.W.method_fn X J (PySem.W.plainGet_of hg).1 (PySem.W.plainGet_of hg).2 hf (beq_iff_eq.mp ht) (by show (PySem.W.lookIn name od).map (·.isSome)=some false;rw [hl,hv];rfl) h
theorem RB {ns:List Str} {Q:Unit->Shared->Prop} (X:K.In s.heap) (I:ObjM s.heap x dx C mA)
    (hs:PySem.W.findIn K (.ref C) "__setattr__"=some (some (.builtin "object.__setattr__"))) (hp:PySem.W.plainOver K C=true) (ht:PySem.W.takerIn K C name=some none) (hh:PySem.W.hasDictIn K C=true)
    (hw:PySem.Within mA ns) (hsz:ns.length<=sizeLine)
    (h:∀ h',ObjM h' x dx C (λ y=>if y=name then some v else mA y)->Heap.SameBut dx s.heap h'->Q () { s with heap:=h',toks:=s.toks+2 }):
    wpAny (model prog w) A (setAttr (.ref x) name v) Q E s:=by
  obtain ⟨od,J,hl⟩:=I.look;refine PySem.W.set_plain X J hs (PySem.W.osa_open (s:={ s with toks:=s.toks+1 }) (r:=none) X J hp ht λ b=> ?_);obtain ⟨cd,hc,hd'⟩:=PySem.W.any_some hh;have hx:s.heap.get? x=some ⟨.ref C,some dx, .plain, #[]⟩:=I.obj;refine wpAny_bind (wpAny_pure (wpAny_bind (wpAny_bind (wpAny_loadPart hx (wpAny_bind (PySem.W.Looks.here (s:={ s with toks:=s.toks+1 }) (PySem.W.looks_clsIn X hc) ?_))))));rw [hd'];refine wpAny_pure (a:=some dx) (wpAny_bind (wpAny_pure (wpAny_bind ?_)));refine wpAny_nsSet1 (s:={ s with toks:=s.toks+1 }) I.ns λ h' hn2 hs2=> ?_;obtain ⟨oD,esD,epD,hoD,hdD,hcD⟩:=hn2.count (PySem.Within.cons name v hw);refine wpAny_bind (wpAny_lookBehind hoD (by rw [hdD];exact pastItsLine_dict (Nat.le_trans hcD (by rw [List.length_cons];omega))) ?_);exact wpAny_pure (h _ ⟨(hs2.2 _ (Ne.symm I.ne)).trans I.obj,hn2,I.ne⟩ hs2)
theorem Pa {R:Result->Shared->Prop} {vs:List Value} {kw:List (Str × Value)} (X:K.In s.heap) (hm:PySem.W.makesIn K C=true)
    (hi:PySem.W.findIn K (.ref C) "__init__"=some (some (.ref f))) (hf:PySem.W.typeIn K (.ref f)=some (.type "function"))
    (h:codeAny (model prog w) (A.under (.builtin "type.__call__" ⟨.ref C::vs,kw⟩)) (.call (.ref f) ⟨.ref (s.heap.objs.size+1)::vs,kw⟩) (PySem.W.InitBack (s.heap.objs.size+1) R)
      { s with heap:=(s.heap.push PySem.W.emptyDict).push (PySem.W.instObj C s.heap.objs.size) }):
    codeAny (model prog w) A (.call (.ref C) ⟨vs,kw⟩) R s:=by
  obtain ⟨hh,g,d,t,os⟩:=s;exact PySem.W.make_core (PySem.W.makes_of X hm) (PySem.W.looks_findIn X hi) (λ self=>PySem.W.bind_fn X self hf) (.inl rfl) h
end
noncomputable def AX (f:Str) (v:V):List (Str × V)->List (Str × V)
  | []=>[(f,v)]
  | (g,x)::r=>if g=f then (g,v)::r else (g,x)::AX f v r
theorem Ep (f g:Str) (v:V):∀ fs:List (Str × V),(AX f v fs).lookup g=if g=f then some v else fs.lookup g
  | []=>by
    show List.lookup g [(f,v)]=_;by_cases h:g=f
    · have hb:(g == f)=true:=beq_iff_eq.mpr h;simp only [List.lookup,hb,if_pos h]
    · have hb:(g == f)=false:=beq_eq_false_iff_ne.mpr h;simp only [List.lookup,hb,if_neg h]
  | (k,x)::r=>by
    have ih:=Ep f g v r;rw [show AX f v ((k,x)::r)=(if k=f then (k,v)::r else (k,x)::AX f v r) from rfl];by_cases hk:k=f
    · rw [if_pos hk];by_cases h:g=k
      · have hb:(g == k)=true:=beq_iff_eq.mpr h;simp only [List.lookup,hb,if_pos (h.trans hk)]
      · have hb:(g == k)=false:=beq_eq_false_iff_ne.mpr h;simp only [List.lookup,hb,if_neg (λ e:g=f=>h (e.trans hk.symm))]
    · rw [if_neg hk];by_cases h:g=k
      · have hb:(g == k)=true:=beq_iff_eq.mpr h;simp only [List.lookup,hb,if_neg (λ e:g=f=>hk (h.symm.trans e))]
      · have hb:(g == k)=false:=beq_eq_false_iff_ne.mpr h;simp only [List.lookup,hb];exact ih
theorem Di (f:Str) (v:V):∀ fs:List (Str × V),f∈(AX f v fs).map (·.1)/\∀ g,g∈fs.map (·.1)->g∈(AX f v fs).map (·.1)
  | []=>⟨by simp [AX],λ g h=>by simp at h⟩
  | (k,x)::r=>by
    obtain ⟨i1,i2⟩:=Di f v r;rw [show AX f v ((k,x)::r)=(if k=f then (k,v)::r else (k,x)::AX f v r) from rfl];by_cases hk:k=f
    · rw [if_pos hk];subst hk;exact ⟨by simp,λ g h=>by simpa using h⟩
    · rw [if_neg hk];refine ⟨?_,λ g h=> ?_⟩
      · rw [List.map_cons];exact List.mem_cons_of_mem _ i1
      · rw [List.map_cons] at h ⊢;rcases List.mem_cons.mp h with e | e
        · exact List.mem_cons.mpr (.inl e)
        · exact List.mem_cons_of_mem _ (i2 g e)
theorem GS (f:Str) (v:V):∀ fs:List (Str × V),(AX f v fs).length<=fs.length+1
  | []=>by simp [AX]
  | (k,x)::r=>by
    have ih:=GS f v r;rw [show AX f v ((k,x)::r)=(if k=f then (k,v)::r else (k,x)::AX f v r) from rfl];by_cases hk:k=f
    · rw [if_pos hk,List.length_cons,List.length_cons];omega
    · rw [if_neg hk,List.length_cons,List.length_cons];omega
theorem RelO.some_of {v:V} {o:Option Value} (r:RelO (some v) o):∃ u,o=some u/\RelV v u:=by
  cases o with
  | none=>exact (show False from r).elim
  | some u=>exact ⟨u,rfl,r⟩
theorem RelO.none_of {o:Option Value} (r:RelO none o):o=none:=by
  cases o with
  | none=>rfl
  | some u=>exact (show False from r).elim
theorem Jo {v:V} {u:Value} (r:RelV v u):PySem.W.handedIn u=true:=by
  cases v with
  | non=>cases (show u=Value.none from r);rfl
  | bl b=>cases (show u=Value.bool b from r);rfl
  | int i=>obtain ⟨t,e⟩:=(show ∃ t,u=Value.int i t from r);cases e;rfl
  | str x=>obtain ⟨t,e⟩:=(show ∃ t,u=Value.str x t from r);cases e;rfl
  | byt b=>obtain ⟨t,e⟩:=(show ∃ t,u=Value.bytes b t from r);cases e;rfl
  | flt b=>obtain ⟨t,e⟩:=(show ∃ t,u=Value.float b t from r);cases e;rfl
  | ref a=>cases (show u=Value.ref a from r);rfl
  | ty n=>cases (show u=Value.type n from r);rfl
section
variable {P:Program} {w:World} {H H':Hp} {h h':Heap} {a C dx:Addr} {fs fs':List (Str × V)}
theorem FD (hok:HOk P w H h) (e:H a=some (.ins C dx fs)):∃ mA,ObjM h a dx C mA/\(∀ f,RelO (fs.lookup f) (mA f))/\PySem.Within mA (fs.map (·.1))/\fs.length<=1000/\H dx=some (.own a):=by
  obtain ⟨d,z,ne,ob,mA,n,r,q⟩:=(show ObjOk P w H h a (.ins C dx fs) from hok a _ e);exact ⟨mA,⟨ob,n,ne⟩,r,q,z,d⟩
end
structure Cls (K:PySem.W.Frag) (C:Addr):Prop where
  pg:PySem.W.plainGet K C Str.empty=true
  hd:PySem.W.hasDictIn K C=true
  po:PySem.W.plainOver K C=true
  sa:PySem.W.findIn K (.ref C) "__setattr__"=some (some (.builtin "object.__setattr__"))
theorem Cls.get {K:PySem.W.Frag} {C:Addr} (c:Cls K C) (f:Str):PySem.W.plainGet K C f=true:=c.pg
def NoAttr (K:PySem.W.Frag) (C:Addr) (f:Str):Prop:=PySem.W.findIn K (.ref C) f=some none
theorem NoAttr.taker {K:PySem.W.Frag} {C:Addr} {f:Str} (n:NoAttr K C f):PySem.W.takerIn K C f=some none:=by
  unfold PySem.W.takerIn;rw [show PySem.W.findIn K (.ref C) f=some none from n];rfl
structure Con (K:PySem.W.Frag) (C:Addr) (f:Str) (v:V) (u:Value):Prop where
  at_:PySem.W.findIn K (.ref C) f=some (some u)
  rel:RelV v u
  get:PySem.W.specialIn K u "__get__"=some none
  cp:PySem.W.copiedNames.contains f=false
structure Meth (K:PySem.W.Frag) (C:Addr) (m:Str) (f:Addr):Prop where
  at_:PySem.W.findIn K (.ref C) m=some (some (.ref f))
  fn:PySem.W.isFn K (.ref f)=true
  kp:PySem.W.keepIn K (.ref f)=true
section
variable {X:Cx} {pins:List (Addr × Obj)} {σ:St} {H:Hp} {s:Shared} {a C dx:Addr} {fs:List (Str × V)} {f:Str} {v:V} {A:Around} {E:Value->Shared->Prop}
theorem Mq {b:Bool} {Q:Value->Shared->Prop} (I:Inv X pins σ H s) (e:H a=some (.ins C dx fs)) (c:Cls X.K C) (n:NoAttr X.K C f) (l:fs.lookup f=some v)
    (h:∀ u s',Inv X pins σ H s'->RelV v u->Q u s'):wpAny (model X.prog X.w) A (getAttr (.ref a) f b) Q E s:=by
  obtain ⟨mA,O,r,_,_,_⟩:=FD I.hok e;obtain ⟨u,hu,ru⟩:=RelO.some_of (v:=v) (o:=mA f) (by rw [<-l];exact r f);exact Qu I.kIn O (c.get f) c.hd n hu (Jo ru) (h u _ (I.tok _) ru)
theorem Ff {m:Str} {g:Addr} {pl:Sem Bool} {Q:Value × List Value->Shared->Prop} (I:Inv X pins σ H s) (e:H a=some (.ins C dx fs)) (c:Cls X.K C) (k:Meth X.K C m g) (l:fs.lookup m=none)
    (h:Q (.ref g,[.ref a]) s):wpAny (model X.prog X.w) A (getMethod (.ref a) m pl) Q E s:=by
  obtain ⟨mA,O,r,_,_,_⟩:=FD I.hok e;have hn:mA m=none:=RelO.none_of (by rw [<-l];exact r m);exact O4 I.kIn O (c.get m) k.at_ k.fn hn h
theorem LT {y:V} {u:Value} {Q:Unit->Shared->Prop} (I:Inv X pins σ H s) (e:H a=some (.ins C dx fs)) (c:Cls X.K C) (n:NoAttr X.K C f) (hl:fs.length<1000) (ry:RelV y u)
    (h:∀ s',Inv X pins σ (upd H a (.ins C dx (AX f y fs))) s'->Q () s'):wpAny (model X.prog X.w) A (setAttr (.ref a) f u) Q E s:=by
  obtain ⟨mA,O,r,wi,_,ho⟩:=FD I.hok e;have hz:(fs.map (·.1)).length<=sizeLine:=by rw [List.length_map,sizeLine_eq];omega
  refine RB I.kIn O c.sa c.po n.taker c.hd wi hz λ h' O' sb=>h _ ?_;have hd:∃ o,h'.get? dx=some o:=let ⟨o,_,_,e',_⟩:=O'.ns;⟨o,e'⟩;refine I.write (x:=a) (e:=dx) (by rw [e];exact True.intro) (.inr ho) (λ b q hb z=>(sb.2 b hb).trans z) hd ?_;refine ⟨by rw [Al O.ne];exact ho,?_,O.ne,O'.obj,_,O'.ns,λ g=> ?_,λ g hg=> ?_⟩
  · have:=GS f y fs;omega
  · show RelO ((AX f y fs).lookup g) (if g=f then some u else mA g);rw [Ep];by_cases q:g=f
    · rw [if_pos q,if_pos q];exact ry
    · rw [if_neg q,if_neg q];exact r g
  · by_cases q:g=f
    · rw [q];exact (Di f y fs).1
    · refine (Di f y fs).2 g (wi g λ z=>hg ?_);show (if g=f then some u else mA g)=none;rw [if_neg q];exact z
theorem Inv.made (I:Inv X pins σ H s):Inv X pins σ (upd (upd H s.heap.objs.size (.own (s.heap.objs.size+1))) (s.heap.objs.size+1) (.ins C s.heap.objs.size []))
    { s with heap:=(s.heap.push PySem.W.emptyDict).push (PySem.W.instObj C s.heap.objs.size) }:=by
  have e1:(s.heap.push PySem.W.emptyDict).get? s.heap.objs.size=some PySem.W.emptyDict:=Heap.get?_push_size s.heap rfl;have e2:((s.heap.push PySem.W.emptyDict).push (PySem.W.instObj C s.heap.objs.size)).get? (s.heap.objs.size+1)=some (PySem.W.instObj C s.heap.objs.size):=by
    have:=Heap.get?_push_size (s.heap.push PySem.W.emptyDict) (o:=PySem.W.instObj C s.heap.objs.size) rfl
    rwa [Heap.size_push] at this
  have e3:(s.heap.push PySem.W.emptyDict).Ns s.heap.objs.size (λ _=>none):=⟨PySem.W.emptyDict, #[],_,e1,rfl,(λ e he=>absurd he (by simp)),λ _=>rfl⟩;have I1:=I.laid (a:=s.heap.objs.size) (o:= .own (s.heap.objs.size+1)) (h':=s.heap.push PySem.W.emptyDict) (t':=s.toks) (λ b u q=>Heap.get?_push_of_some _ q) (Nat.le_refl _) ⟨_,e1⟩;refine I1.laid (a:=s.heap.objs.size+1) (o:= .ins C s.heap.objs.size []) (t':=s.toks) (λ b u q=>Heap.get?_push_of_some _ q) (Nat.le_of_eq (Heap.size_push _ _)) ?_;have ne:s.heap.objs.size≠s.heap.objs.size+1:=Nat.ne_of_lt (Nat.lt_succ_self _);refine ⟨by rw [Al ne,Af],Nat.zero_le _,ne,e2,λ _=>none,(Heap.Ns1.of_empty e3).at λ o q=>Heap.get?_push_of_some _ q,λ _=>True.intro,λ y hy=>absurd rfl hy⟩
theorem M6 {prog:Program} {w:World} {env:Env} {e:Expr} {f:Str} {pos:Pos} {s:Shared} {Q:Value->Shared->Prop} (hb:attributeBase e f env (eval e env)=eval e env)
    (h:wpAny (model prog w) A (eval e env) (λ o s₁=>wpAny (model prog w) A (getAttr o f true) Q E s₁) E s):wpAny (model prog w) A (eval (.Attribute e f pos) env) Q E s:=
  Attribute_any_ h (by rw [arm_eval_Attribute,hb])
end
def S6 (K:PySem.W.Frag) (ta:TE) (f:Str):TE:=λ σ H Q=>ta σ H λ x H1=>∃ a C dx fs v,x= .ref a/\H1 a=some (.ins C dx fs)/\Cls K C/\NoAttr K C f/\fs.lookup f=some v/\Q v H1
def Uw (K:PySem.W.Frag) (ta tv:TE) (f:Str):TS:=λ D σ H=>tv σ H λ y H1=>ta σ H1 λ x H2=>∃ a C dx fs,x= .ref a/\H2 a=some (.ins C dx fs)/\Cls K C/\NoAttr K C f/\fs.length<1000/\
  D.nx σ (upd H2 a (.ins C dx (AX f y fs)))
section
variable {X:Cx} {o e value:Expr} {f:Str} {pos pos' tpos:Pos} {ta tv:TE}
theorem T2 (he:PE X e ta) (hb:attributeBase e f X.env (eval e X.env)=eval e X.env):PE X (.Attribute e f pos) (S6 X.K ta f):=by
  intro pins s σ H Q I h;refine M6 hb (thn (he pins s σ H _ I h) λ u s1 ⟨x,H1,I1,rx,a,C,dx,fs,v,ex,ea,c,n,l,q⟩=> ?_);subst ex;obtain rfl:u=Value.ref a:=rx;exact Mq I1 ea c n l λ u' s2 I2 ru=>⟨v,H1,I2,ru,q⟩
theorem DL (ha:PE X o ta) (hv:PE X value tv) (hs:swapsWith value (some (.Attribute o f pos')) pos.line X.env=pure false):PS X (.Assign [.Attribute o f pos'] value pos) (Uw X.K ta tv f):=by
  intro pins s σ H D I h;refine plainObj_wpAny_Assign_Attribute (thn (hv pins s σ H _ I h) λ u s1 ⟨y,H1,I1,ry,q⟩=>thn (ha pins s1 σ H1 _ I1 q) λ ov s2 ⟨x,H2,I2,rx,a,C,dx,fs,ex,ea,c,n,l,q2⟩=> ?_) hs;subst ex;obtain rfl:ov=Value.ref a:=rx;exact LT I2 ea c n l ry λ s3 I3=>⟨σ,_,I3,q2⟩
end
section
variable {X:Cx} {pins:List (Addr × Obj)} {σ:St} {H:Hp} {s:Shared} {A:Around} {E:Value->Shared->Prop} {Q:Value->Shared->Prop} {c:Value} {b:Bool}
inductive TyOf (K:PySem.W.Frag) (H:Hp):V->Value->Prop where
  | non:TyOf K H .non (.type "NoneType")
  | bl (x:Bool):TyOf K H (.bl x) (.type "bool")
  | int (i:Int):TyOf K H (.int i) (.type "int")
  | str (x:Str):TyOf K H (.str x) (.type "str")
  | flt (x:UInt64):TyOf K H (.flt x) (.type "float")
  | lst {a:Addr} {xs:List V} (e:H a=some (.lst xs)):TyOf K H (.ref a) (.type "list")
  | frz {a:Addr} {o:Obj} {xs:List V} (e:H a=some (.frz o (.lst xs))):TyOf K H (.ref a) (.type "list")
  | tup {a:Addr} {xs:List V} (e:H a=some (.tup xs)):TyOf K H (.ref a) (.type "tuple")
  | dK {a:Addr} {kvs:List (Key × V)} (e:H a=some (.dK kvs)):TyOf K H (.ref a) (.type "dict")
  | dT {a:Addr} {kvs:List (List Key × V)} (e:H a=some (.dT kvs)):TyOf K H (.ref a) (.type "dict")
  | ins {a C dx:Addr} {fs:List (Str × V)} (e:H a=some (.ins C dx fs)) (cl:Cls K C) (ha:PySem.W.findIn K (.ref C) "__class__"=some (some (.builtin "object.__class__")))
      (hn:PySem.W.specialIn K (.builtin "object.__class__") "__get__"=some (some (.builtin "getset_descriptor.__get__"))) (htk:PySem.W.takesIn K (.builtin "object.__class__")=some true)
      (hm:PySem.W.mroIn K C (.type "object")=some true):TyOf K H (.ref a) (.ref C)
theorem Gx {x:V} {u t:Value} (I:Inv X pins σ H s) (rx:RelV x u) (ty:TyOf X.K H x t) (e:PySem.W.kitOne X.K t c=some b) (h:∀ tk,Q (.bool b) { s with toks:=tk }):
    wpAny (model X.prog X.w) A (call (.builtin "isinstance") [u,c]) Q E s:=by
  cases ty with
  | non=>cases (show u=Value.none from rx);exact PySem.W.kia_one PySem.W.kitx_none I.kIn True.intro e (λ z=>nomatch z) h
  | bl y=>cases (show u=Value.bool y from rx);exact PySem.W.kia_one PySem.W.kitx_bool I.kIn True.intro e (λ z=>nomatch z) h
  | int i=>obtain ⟨t,q⟩:=(show ∃ t,u=Value.int i t from rx);cases q;exact PySem.W.kia_one PySem.W.kitx_int I.kIn True.intro e (λ z=>nomatch z) h
  | str y=>obtain ⟨t,q⟩:=(show ∃ t,u=Value.str y t from rx);cases q;exact PySem.W.kia_one PySem.W.kitx_str I.kIn True.intro e (λ z=>nomatch z) h
  | flt y=>obtain ⟨t,q⟩:=(show ∃ t,u=Value.float y t from rx);cases q;exact PySem.W.kia_one PySem.W.kitx_float I.kIn True.intro e (λ z=>nomatch z) h
  | @lst a xs ea=>
    cases (show u=Value.ref a from rx);obtain ⟨_,_,n,_,h1⟩:=(show ObjOk X.prog X.w H s.heap a (.lst xs) from I.hok a _ ea);exact PySem.W.kia_one PySem.W.kitx_list I.kIn ⟨_,h1,rfl⟩ e (λ z=>nomatch z) h
  | @frz a ob xs ea=>
    cases (show u=Value.ref a from rx);obtain ⟨_,_,_,n,_,h1⟩:=(show ObjOk X.prog X.w H s.heap a (.frz ob (.lst xs)) from I.hok a _ ea);exact PySem.W.kia_one PySem.W.kitx_list I.kIn ⟨_,h1,rfl⟩ e (λ z=>nomatch z) h
  | @tup a xs ea=>
    cases (show u=Value.ref a from rx);obtain ⟨_,_,_,p⟩:=(show ObjOk X.prog X.w H s.heap a (.tup xs) from I.hok a _ ea);obtain ⟨o,h1,h2,_⟩:=p;exact PySem.W.kia_one PySem.W.kitx_tuple I.kIn ⟨o,h1,h2⟩ e (λ z=>nomatch z) h
  | @dK a kvs ea=>
    cases (show u=Value.ref a from rx);obtain ⟨_,_,vs,_,p⟩:=(show ObjOk X.prog X.w H s.heap a (.dK kvs) from I.hok a _ ea);obtain ⟨o,es,ep,h1,h2,_⟩:=p;exact PySem.W.kia_one PySem.W.kitx_dict I.kIn ⟨o,h1,h2.1⟩ e (λ z=>nomatch z) h
  | @dT a kvs ea=>
    cases (show u=Value.ref a from rx);obtain ⟨_,_,xs,_,o,es,ep,h1,h2,_⟩:=(show ObjOk X.prog X.w H s.heap a (.dT kvs) from I.hok a _ ea);exact PySem.W.kia_one PySem.W.kitx_dict I.kIn ⟨o,h1,h2.1⟩ e (λ z=>nomatch z) h
  | @ins a C dx fs ea cl ha hn htk hm=>
    cases (show u=Value.ref a from rx);obtain ⟨mA,O,_⟩:=FD I.hok ea;obtain ⟨od,J,_⟩:=O.look;exact PySem.W.kia_one (PySem.W.kitx_own (cl.get _) cl.hd ha hn htk hm) I.kIn J e (λ z=>nomatch z) h
end
structure Room (k:Nat) (A:Around):Prop where
  hd:A.handled=none
  dp:A.depth+3*k+5<recursionLimit
  un:A.units+16*k+200<cLine
theorem Room.mono {j k:Nat} {A:Around} (r:Room k A) (h:j<=k):Room j A:=⟨r.hd,by have:=r.dp;omega,by have:=r.un;omega⟩
theorem Room.deeper {k:Nat} {A:Around} (r:Room (k+1) A) (env:Env):Room k (A.deeper env):=
  ⟨r.hd,by have:=r.dp;show A.depth+1+3*k+5<_;omega,by have:=r.un;show A.units+3+16*k+200<_;omega⟩
theorem Mj {A:Around} {C:Addr} {us:List Value} {kw:List (Str × Value)}:(A.under (.builtin "type.__call__" ⟨.ref C::us,kw⟩)).depth=A.depth+1:=by
  first | rfl | simp [Around.under,Code.weight,Code.isCreation,Code.isGuard,Code.isCaller,Code.frames,Code.isFrame,guardIds]
theorem Mt {A:Around} {C:Addr} {us:List Value} {kw:List (Str × Value)}:(A.under (.builtin "type.__call__" ⟨.ref C::us,kw⟩)).units=A.units+1:=by
  first | rfl | simp [Around.under,Code.cUnits,Code.frames,Code.isFrame]
theorem Room.make {k:Nat} {A:Around} (r:Room (k+1) A) (C:Addr) (us:List Value) (kw:List (Str × Value)):Room k (A.under (.builtin "type.__call__" ⟨.ref C::us,kw⟩)):=
  ⟨r.hd,by have:=r.dp;rw [Mj];omega,by have:=r.un;rw [Mt];omega⟩
theorem Room.depth {k:Nat} {A:Around} (r:Room k A):A.depth<recursionLimit:=by have:=r.dp;omega
theorem Room.units0 {k:Nat} {A:Around} (r:Room k A):A.units<cLine:=by have:=r.un;omega
def Rz:TA:=λ _ H Q=>Q [] H
def RM (ta:TE) (tr:TA):TA:=λ σ H Q=>ta σ H λ x H1=>tr σ H1 λ xs H2=>Q (x::xs) H2
section
variable {X:Cx} {e:Expr} {es:List Expr} {te:TE} {t:TA} {pos:Pos}
theorem Ab:PA X [] Rz:=λ _ _ _ _ H Q I h=>Calls.spliced_nil ⟨[],H,I, .nil,h⟩
theorem Aa (ha:PE X e te) (hr:PA X es t) (hs:starEach (e::es) X.env=(false,eval e X.env)::starEach es X.env:=by rfl):PA X (e::es) (RM te t):=by
  intro pos pins s σ H Q I h;rw [hs];show wpAny _ _ (spliced ((false,eval e X.env)::backTo pos (starEach es X.env))) _ _ s;refine Calls.spliced_cons (thn (ha pins s σ H _ I h) λ u s1 ⟨x,H1,I1,r1,q1⟩=> ?_);exact thn (hr pos pins s1 σ H1 _ I1 q1) λ us s2 ⟨xs,H2,I2,r2,q2⟩=>⟨x::xs,H2,I2, .cons r1 r2,q2⟩
def Uy (t:TA):TE:=λ σ H Q=>t σ H λ xs H1=>xs.length<=sizeLine/\∀ p,H1 p=none->Q (.ref p) (upd H1 p (.tup xs))
def ZQ (t:TA):TE:=λ σ H Q=>t σ H λ xs H1=>xs.length<=sizeLine/\∀ p,H1 p=none->Q (.ref p) (upd H1 p (.lst xs))
theorem Bd {x1} (h:PA X es t):PE X (.Tuple es x1 pos) (Uy t):=by
  intro pins s σ H Q I hq;refine wpAny_Tuple_spliced (thn (h pos pins s σ H _ I hq) λ us s1 ⟨xs,H1,I1,r,z,q⟩=>⟨by rw [<-r.length];exact z,?_⟩);have hf:H1 s1.heap.objs.size=none:=I1.hok.fresh (Nat.le_refl _);refine ⟨.ref s1.heap.objs.size,upd H1 s1.heap.objs.size (.tup xs),I1.laid (t':=s1.toks) (λ b u e=>Heap.get?_push_of_some _ e) (Nat.le_refl _) ?_,rfl,q _ hf⟩;exact ⟨z,us,r,⟨_,Heap.get?_push_size _ rfl,rfl,_,rfl⟩⟩
theorem AO (h:PA X es t):PE X (.List es pos) (ZQ t):=by
  intro pins s σ H Q I hq;refine wpAny_List_spliced (thn (h pos pins s σ H _ I hq) λ us s1 ⟨xs,H1,I1,r,z,q⟩=>⟨by rw [<-r.length];exact z,?_⟩);have hf:H1 s1.heap.objs.size=none:=I1.hok.fresh (Nat.le_refl _);refine ⟨.ref s1.heap.objs.size,upd H1 s1.heap.objs.size (.lst xs),I1.laid (t':=s1.toks) (λ b u e=>Heap.get?_push_of_some _ e) (Nat.le_refl _) ?_,rfl,q _ hf⟩;exact ⟨z,us,0,r,Heap.get?_push_size _ rfl⟩
end
abbrev Sp:=List V->Hp->VK->XK->Prop
abbrev CXT:=List Env->Hp->Shared->XK->Value->Shared->Prop
structure Env0 (P:Program) (w:World) (K:PySem.W.Frag) (mg:Str->Option Value) (base:Heap) (A:Around) (outer:List Env) (s:Shared) (H:Hp):Prop where
  frames:A.frames=some outer
  mod:Mod K mg base
  bs:∀ b o,base.get? b=some o->s.heap.get? b=some o/\H b=none
  bsz:base.objs.size<=s.heap.objs.size
  funs:s.heap.FunFrames base outer
  frf:∀ b∈frs outer,H b=none
  hok:HOk P w H s.heap
  bare:AllBare s.gens
def CE (outer:List Env) (P:Program) (w:World) (H:Hp) (s:Shared) (Q:VK) (u:Value) (s':Shared):Prop:=
  ∃ v H',s'.os=s.os/\AllBare s'.gens/\Un (frs outer) [] H H' s.heap s'.heap/\HOk P w H' s'.heap/\RelV v u/\Q v H'
def CR (CX:CXT) (outer:List Env) (P:Program) (w:World) (H:Hp) (s:Shared) (Q:VK) (E:XK) (r:Result) (s':Shared):Prop:=
  match r with
  | .ok (.ret u)=>CE outer P w H s Q u s'
  | .ok _=>False
  | .error e=>CX outer H s E e s'
structure FnOk (P:Program) (w:World) (K:PySem.W.Frag) (mg:Str->Option Value) (base:Heap) (CX:CXT) (k:Nat) (f:Addr) (fd:FuncData) (ps:List Str) (sp:Sp):Prop where
  len:∀ vs H Q E,sp vs H Q E->vs.length=ps.length
  run:∀ (A:Around) (outer:List Env) (s:Shared) (H:Hp) (args:Args) (us:List Value) (vs:List V) (Q:VK) (E:XK),Room k A->Env0 P w K mg base A outer s H->BindsTo s fd args (ps.zip us)->Vals vs us->sp vs H Q E->
    codeAny (model P w) A (.call (.ref f) args) (CR CX outer P w H s Q E) s
theorem Env0.make {P:Program} {w:World} {K:PySem.W.Frag} {mg:Str->Option Value} {base:Heap} {A:Around} {outer:List Env} {s:Shared} {H:Hp} (e:Env0 P w K mg base A outer s H) (C:Addr) (us:List Value) (kw:List (Str × Value)):
    Env0 P w K mg base (A.under (.builtin "type.__call__" ⟨.ref C::us,kw⟩)) outer s H:=⟨by first | exact e.frames | (simpa [Around.under,Code.envs,Code.isFrame,pushEnvs] using e.frames),e.mod,e.bs,e.bsz,e.funs,e.frf,e.hok,e.bare⟩
section
variable {X:Cx} {pins:List (Addr × Obj)} {σ:St} {H:Hp} {s s':Shared}
theorem Inv.env0 (I:Inv X pins σ H s):Env0 X.prog X.w X.K X.mg X.base X.A X.stack s H:=
  ⟨I.ok.frames,I.ok.mod,I.bs,Nat.le_trans I.ok.bsz I.sz,I.stack,I.stkFree,I.hok,I.bare⟩
theorem Inv.after {Q:VK} {u:Value} (I:Inv X pins σ H s) (h:CE X.stack X.prog X.w H s Q u s'):EP X pins σ Q u s':=by
  obtain ⟨v,H',os,bare,un,hok,r,q⟩:=h;obtain ⟨hh,g,d,t,os'⟩:=s';obtain rfl:os'=s.os:=os;exact ⟨v,H',I.call (h':=hh) (g':=g) (d':=d) (t':=t) (ch:=[]) un hok bare (λ b z=>absurd z (by simp)),r,q⟩
end
def Ly (sp:Sp) (dvs:List V) (E:XK) (t:TA):TE:=λ σ H Q=>t σ H λ vs H1=>sp (vs++dvs) H1 Q E
def JM (C:Addr) (m:Str) (sp:Sp) (dvs:List V) (E:XK) (ta:TE) (t:TA):TE:=λ σ H Q=>ta σ H λ x H1=>∃ a dx fs,x= .ref a/\H1 a=some (.ins C dx fs)/\fs.lookup m=none/\
  t σ H1 λ vs H2=>sp (x::(vs++dvs)) H2 Q E
def KU (C:Addr) (sp:Sp) (dvs:List V) (E:XK) (t:TA):TE:=λ σ H Q=>t σ H λ vs H1=>∀ x dx,H1 x=none->H1 dx=none->dx≠x->
  sp (.ref x::(vs++dvs)) (upd (upd H1 dx (.own x)) x (.ins C dx [])) (λ v H2=>v= .non/\Q (.ref x) H2) E
def Binds (K:PySem.W.Frag) (fd:FuncData) (ps:List Str) (ds:List Value):Prop:=
  ∀ (s:Shared) (us:List Value),K.In s.heap->(us++ds).length=ps.length->BindsTo s fd ⟨us,[]⟩ (ps.zip (us++ds))
theorem Binds.all {K:PySem.W.Frag} {fd:FuncData} {ps:List Str} (h:∀ us:List Value,us.length=ps.length->bindArgs fd ⟨us,[]⟩=pure (ps.zip us)):Binds K fd ps []:=λ s us _ hl=>by
  rw [List.append_nil] at hl ⊢;exact .of_eq (h us hl)
def BA (CX:CXT) (X:Cx) (E:XK):Prop:=∀ (pins:List (Addr × Obj)) (σ:St) (H:Hp) (s:Shared) (e:Value) (s':Shared),Inv X pins σ H s->CX X.stack H s E e s'->X.xe e s'
section
variable {X:Cx} {CX:CXT} {k:Nat} {f C:Addr} {fd:FuncData} {ps:List Str} {sp:Sp} {dvs:List V} {ds:List Value} {E:XK} {x m:Str} {p pos apos:Pos} {e o:Expr} {es:List Expr} {ta:TE} {t:TA}
theorem Kw {pins:List (Addr × Obj)} {σ:St} {H:Hp} {s:Shared} {Q:VK} {us:List Value} {vs:List V} (F:FnOk X.prog X.w X.K X.mg X.base CX k f fd ps sp) (hr:Room k X.A) (hb:Binds X.K fd ps ds) (hd:Vals dvs ds) (hx:BA CX X E)
    (I:Inv X pins σ H s) (r:Vals vs us) (h:sp (vs++dvs) H Q E):wpAny (model X.prog X.w) X.A (call (.ref f) us) (EP X pins σ Q) X.xe s:=by
  have r2:Vals (vs++dvs) (us++ds):=r.append hd;have hl:(us++ds).length=ps.length:=by rw [<-r2.length];exact F.len _ _ _ _ h
  refine wpAny_call (codeAny_mono (F.run X.A X.stack s H ⟨us,[]⟩ (us++ds) (vs++dvs) Q E hr I.env0 (hb s us I.kIn hl) r2 h) λ r s' hq=> ?_);cases r with
  | error e=>exact hx pins σ H s e s' I hq
  | ok fl=>
    cases fl with
    | ret u=>exact I.after hq
    | next=>exact False.elim hq
    | brk=>exact False.elim hq
    | cont=>exact False.elim hq
theorem MG (F:FnOk X.prog X.w X.K X.mg X.base CX k f fd ps sp) (hr:Room k X.A) (hg:Gl X x) (hm:X.mg x=some (.ref f)) (hk:PySem.W.keepIn X.K (.ref f)=true) (hb:Binds X.K fd ps ds) (hd:Vals dvs ds) (hx:BA CX X E)
    (ha:PA X (e::es) t) (hdb:(x == ("__debug__":Str))=false:=by decide) (he:starEach (e::es) X.env=(false,eval e X.env)::starEach es X.env:=by rfl) (hpl:(backTo pos (starEach es X.env)).any (·.1)=false:=by rfl):
    PE X (.Call (.Name x p) (e::es) [] pos) (Ly sp dvs E t):=by
  intro pins s σ H Q I h;refine wpAny_Call_Name_kw (EL I hg hm ?_ hdb);refine PySem.W.callWith_K (h₀:=X.base) I.ok.mod.kin hk (thn (ha pos pins s σ H _ I h) λ us s1 ⟨vs,H1,I1,r,q⟩=>⟨I1.kIn,?_⟩) he hpl;exact Kw F hr hb hd hx I1 r q
theorem Q6 {pl:Sem Bool} (he:PE X o ta) (c:Cls X.K C) (hm:Meth X.K C m f) (F:FnOk X.prog X.w X.K X.mg X.base CX k f fd ps sp) (hr:Room k X.A) (hb:Binds X.K fd ps ds) (hd:Vals dvs ds) (hx:BA CX X E) (ha:PA X (e::es) t)
    (hst:starEach (e::es) X.env=(false,eval e X.env)::starEach es X.env:=by rfl) (hpl:(backTo pos (starEach es X.env)).any (·.1)=false:=by rfl)
    (ht:eval (.Call (.Attribute o m apos) (e::es) [] pos) X.env=(do
      let ov <-eval o X.env
      standAt apos.atName
      let (f,first) <-holding [ov] (getMethod ov m pl)
      callWith pos f first (backTo pos (starEach (e::es) X.env)) (backToKw pos (keywordEach [] X.env))):=by rfl):
    PE X (.Call (.Attribute o m apos) (e::es) [] pos) (JM C m sp dvs E ta t):=by
  intro pins s σ H Q I h;refine PySem.W.methodCall_KW (pl:=pl) (thn (he pins s σ H _ I h) λ u s1 ⟨x,H1,I1,rx,a,dx,fs,ex,ea,l,q⟩=> ?_) ht;subst ex;obtain rfl:u=Value.ref a:=rx;refine Ff I1 ea c hm l ?_;refine PySem.W.callWith_K (first:=[.ref a]) (h₀:=X.base) I.ok.mod.kin hm.kp (thn (ha pos pins s1 σ H1 _ I1 q) λ us s2 ⟨vs,H2,I2,r,q2⟩=>⟨I2.kIn,?_⟩) hst hpl;exact Kw (us:= .ref a::us) (vs:= .ref a::vs) F hr hb hd hx I2 (.cons rfl r) q2
theorem Pw {pl:Sem Bool} (he:PE X o ta) (c:Cls X.K C) (hm:Meth X.K C m f) (F:FnOk X.prog X.w X.K X.mg X.base CX k f fd ps sp) (hr:Room k X.A) (hb:Binds X.K fd ps ds) (hd:Vals dvs ds) (hx:BA CX X E)
    (ht:eval (.Call (.Attribute o m apos) [] [] pos) X.env=(do
      let ov <-eval o X.env
      standAt apos.atName
      let (f,first) <-holding [ov] (getMethod ov m pl)
      callWith pos f first (backTo pos (starEach [] X.env)) (backToKw pos (keywordEach [] X.env))):=by rfl):
    PE X (.Call (.Attribute o m apos) [] [] pos) (JM C m sp dvs E ta Rz):=by
  intro pins s σ H Q I h;refine PySem.W.methodCall_KW (pl:=pl) (thn (he pins s σ H _ I h) λ u s1 ⟨x,H1,I1,rx,a,dx,fs,ex,ea,l,q⟩=> ?_) ht;subst ex;obtain rfl:u=Value.ref a:=rx;refine Ff I1 ea c hm l ?_;exact PySem.W.callWith_K0 (first:=[.ref a]) I1.kIn hm.kp (Kw (us:=[.ref a]) (vs:=[.ref a]) F hr hb hd hx I1 (.cons rfl .nil) q)
structure Mk (K:PySem.W.Frag) (C f:Addr):Prop where
  makes:PySem.W.makesIn K C=true
  init:PySem.W.findIn K (.ref C) "__init__"=some (some (.ref f))
  fn:PySem.W.isFn K (.ref f)=true
  kp:PySem.W.keepIn K (.ref C)=true
theorem Py {pins:List (Addr × Obj)} {σ:St} {H:Hp} {s:Shared} {Q:VK} {us:List Value} {vs:List V} (M:Mk X.K C f) (F:FnOk X.prog X.w X.K X.mg X.base CX k f fd ps sp) (hr:Room (k+1) X.A) (hb:Binds X.K fd ps ds) (hd:Vals dvs ds)
    (hx:BA CX X E) (I:Inv X pins σ H s) (r:Vals vs us)
    (h:∀ x dx,H x=none->H dx=none->dx≠x->sp (.ref x::(vs++dvs)) (upd (upd H dx (.own x)) x (.ins C dx [])) (λ v H2=>v= .non/\Q (.ref x) H2) E):
    wpAny (model X.prog X.w) X.A (call (.ref C) us) (EP X pins σ Q) X.xe s:=by
  have hq:=h (s.heap.objs.size+1) s.heap.objs.size (I.hok.fresh (Nat.le_succ _)) (I.hok.fresh (Nat.le_refl _)) (Nat.ne_of_lt (Nat.lt_succ_self _));have I2:=Inv.made (C:=C) I;have r2:Vals (V.ref (s.heap.objs.size+1)::(vs++dvs)) (Value.ref (s.heap.objs.size+1)::(us++ds)):= .cons rfl (r.append hd);have hl:(Value.ref (s.heap.objs.size+1)::us++ds).length=ps.length:=by
    have e:=r2.length;rw [F.len _ _ _ _ hq] at e;exact e.symm
  refine wpAny_call (Pa (f:=f) I.kIn M.makes M.init (beq_iff_eq.mp M.fn) (codeAny_mono (F.run _ X.stack _ _ ⟨Value.ref (s.heap.objs.size+1)::us,[]⟩ (Value.ref (s.heap.objs.size+1)::(us++ds)) _ _ E (hr.make C us [])
    (I2.env0.make C us []) (hb _ (Value.ref (s.heap.objs.size+1)::us) I2.kIn hl) r2 hq) λ r s' hq'=> ?_))
  cases r with
  | error e=>exact hx pins σ _ _ e s' I2 hq'
  | ok fl=>
    cases fl with
    | ret u=>
      obtain ⟨v,H',I3,rv,ev,q3⟩:=I2.after hq';subst ev;exact ⟨rv,⟨V.ref (s.heap.objs.size+1),H',I3,rfl,q3⟩⟩
    | next=>exact False.elim hq'
    | brk=>exact False.elim hq'
    | cont=>exact False.elim hq'
theorem M4 (M:Mk X.K C f) (F:FnOk X.prog X.w X.K X.mg X.base CX k f fd ps sp) (hr:Room (k+1) X.A) (hg:Gl X x) (hm:X.mg x=some (.ref C)) (hb:Binds X.K fd ps ds) (hd:Vals dvs ds) (hx:BA CX X E)
    (ha:PA X (e::es) t) (hdb:(x == ("__debug__":Str))=false:=by decide) (he:starEach (e::es) X.env=(false,eval e X.env)::starEach es X.env:=by rfl) (hpl:(backTo pos (starEach es X.env)).any (·.1)=false:=by rfl):
    PE X (.Call (.Name x p) (e::es) [] pos) (KU C sp dvs E t):=by
  intro pins s σ H Q I h;refine wpAny_Call_Name_kw (EL I hg hm ?_ hdb);refine PySem.W.callWith_K (h₀:=X.base) I.ok.mod.kin M.kp (thn (ha pos pins s σ H _ I h) λ us s1 ⟨vs,H1,I1,r,q⟩=>⟨I1.kIn,?_⟩) he hpl;exact Py M F hr hb hd hx I1 r q
end
section
variable {X:Cx} {CX:CXT} {k:Nat} {f C:Addr} {fd:FuncData} {ps ks:List Str} {sp:Sp} {E:XK} {x m:Str} {p pos apos kpos:Pos} {e o:Expr} {es:List Expr} {kws:List Keyword} {te ta:TE} {t tk:TA} {nm:Option Str}
structure KBinds (K:PySem.W.Frag) (fd:FuncData) (ps ks:List Str) (g:List Value->List Value->List Value) (gV:List V->List V->List V):Prop where
  to:∀ (s:Shared) (us ws:List Value),K.In s.heap->(g us ws).length=ps.length->BindsTo s fd ⟨us,ks.zip ws⟩ (ps.zip (g us ws))
  rel:∀ {vs:List V} {us:List Value} {zs:List V} {ws:List Value},Vals vs us->Vals zs ws->Vals (gV vs zs) (g us ws)
variable {g:List Value->List Value->List Value} {gV:List V->List V->List V}
end
structure FnScope (N P:List Str) (sc:Scope):Prop where
  kind:sc.kind= .function
  co:sc.isCoroutine=false
  gen:sc.isGenerator=false
  nd:N.Nodup
  pre:N.take P.length=P
  par:∀ x∈P,sc.names.lookup x=some .local\/sc.names.lookup x=some .cell
  nofree:∀ y∈sc.names,y.2≠ .free
theorem Ju {kindOf:Str->Option NameKind} {x:Str}:∀ {binds:List (Str × Value)} {m:Str->Option Value},(∀ v,(x,v)∉binds)->bindL kindOf binds m x=m x
  | [],_,_=>rfl
  | (n,v)::r,m,h=>by
    unfold bindL;rw [Ju λ w hw=>h w (List.mem_cons_of_mem _ hw)];split
    · have:x≠n:=by rintro rfl;exact h v List.mem_cons_self
      simp [this]
    · rfl
theorem JJ {kindOf:Str->Option NameKind} {x:Str}:∀ {binds:List (Str × Value)} {m:Str->Option Value},(∀ v,(x,v)∉binds)->bindC kindOf binds m x=m x
  | [],_,_=>rfl
  | (n,v)::r,m,h=>by
    unfold bindC;rw [JJ λ w hw=>h w (List.mem_cons_of_mem _ hw)];split
    · rfl
    · have:x≠n:=by rintro rfl;exact h v List.mem_cons_self
      simp [this]
theorem Jp {kindOf:Str->Option NameKind} {x:Str} {v:Value}:∀ {P:List Str} {vs:List Value} {i:Nat} {m:Str->Option Value},P.Nodup->P[i]?=some x->vs[i]?=some v->kindOf x=some .local->
    bindL kindOf (P.zip vs) m x=some v
  | [],_,_,_,_,h,_,_=>by simp at h
  | _::_,[],_,_,_,_,h,_=>by simp at h
  | p::P,w::vs,0,m,nd,h1,h2,hk=>by
    simp at h1 h2;subst h1;subst h2;show bindL kindOf ((p,w)::P.zip vs) m p=_;unfold bindL;rw [Ju λ v hv=>(List.nodup_cons.mp nd).1 (List.of_mem_zip hv).1,if_pos hk];simp
  | p::P,w::vs,i+1,m,nd,h1,h2,hk=>by
    show bindL kindOf ((p,w)::P.zip vs) m x=_;unfold bindL;exact Jp (i:=i) (List.nodup_cons.mp nd).2 (by simpa using h1) (by simpa using h2) hk
theorem JB {kindOf:Str->Option NameKind} {x:Str} {v:Value}:∀ {P:List Str} {vs:List Value} {i:Nat} {m:Str->Option Value},P.Nodup->P[i]?=some x->vs[i]?=some v->kindOf x≠some .local->
    bindC kindOf (P.zip vs) m x=some v
  | [],_,_,_,_,h,_,_=>by simp at h
  | _::_,[],_,_,_,_,h,_=>by simp at h
  | p::P,w::vs,0,m,nd,h1,h2,hk=>by
    simp at h1 h2;subst h1;subst h2;show bindC kindOf ((p,w)::P.zip vs) m p=_;unfold bindC;rw [JJ λ v hv=>(List.nodup_cons.mp nd).1 (List.of_mem_zip hv).1,if_neg hk];simp
  | p::P,w::vs,i+1,m,nd,h1,h2,hk=>by
    show bindC kindOf ((p,w)::P.zip vs) m x=_;unfold bindC;exact JB (i:=i) (List.nodup_cons.mp nd).2 (by simpa using h1) (by simpa using h2) hk
noncomputable def start (N:List Str) (vs:List V):St:=vs.map some++List.replicate (N.length - vs.length) none
noncomputable def B0 (CX:CXT) (P:Program) (w:World) (K:PySem.W.Frag) (mg:Str->Option Value) (base:Heap) (N:List Str) (qual:Str) (scope:Scope) (f:Addr) (cd:Value) (A:Around) (outer:List Env) (s:Shared) (H:Hp) (E:XK):Cx where
  prog:=P
  w:=w
  K:=K
  mg:=mg
  base:=base
  A:=A.deeper (envOfC qual scope s.heap.objs.size f cd)
  N:=N
  s₀:=s
  H₀:=H
  env:=envOfC qual scope s.heap.objs.size f cd
  outer:=outer
  stack:=envOfC qual scope s.heap.objs.size f cd::outer
  ex:=[]
  calm:=true
  fn:=λ _=>true
  pn:=[]
  xe:=λ e s'=>wpAny (model P w) (A.deeper (envOfC qual scope s.heap.objs.size f cd)) (leaving (envOfC qual scope s.heap.objs.size f cd) e) (λ _ s''=>CX outer H s E e s'') (λ e' s''=>CX outer H s E e' s'') s'
theorem KQ {sc:Scope} {n:Nat} {x:Str} (h:sc.names.lookup x=some .cell):∃ c,(cellsFrom n sc.names []).lookup x=some c:=by
  have q:=PySem.W.cellsFrom_some sc.names n [] (.inl h);exact Option.isSome_iff_exists.mp q
theorem NP {CX:CXT} {P:Program} {w:World} {K:PySem.W.Frag} {mg:Str->Option Value} {base:Heap} {N ps:List Str} {qual:Str} {scope:Scope} {f:Addr} {cd:Value} {A:Around} {outer:List Env} {s s1:Shared} {H:Hp} {E:XK} {us:List Value} {vs:List V}
    (S:FnScope N ps scope) (hd:A.handled=none) (e0:Env0 P w K mg base A outer s H) (hl:vs.length=ps.length) (r:Vals vs us)
    (x:InCallC s s.heap.objs.size (bindL (envOfC qual scope s.heap.objs.size f cd).kindOf (ps.zip us) λ _=>none) (cellsFrom (s.heap.objs.size+1) scope.names []) (bindC (envOfC qual scope s.heap.objs.size f cd).kindOf (ps.zip us) λ _=>none) s1):
    Inv (B0 CX P w K mg base N qual scope f cd A outer s H E) [] (start N vs) H s1:=by
  have hpl:ps.length<=N.length:=by have:=congrArg List.length S.pre;rw [List.length_take] at this;omega
  obtain ⟨h1,tk,rfl,hk⟩:=x.done;have noA:∀ b:Addr,b∉(B0 CX P w K mg base N qual scope f cd A outer s H E).ex:=λ b z=>absurd (show b∈([]:List Addr) from z) (by simp);refine ⟨⟨e0.mod,S.kind,rfl,rfl,Nat.le_refl _,λ y z c h1 h2=> ?_,λ y hy=> ?_,λ y c _ h=> ?_,λ _=>hd,Around.frames_deeper e0.frames, .inr ⟨rfl,rfl⟩,λ b z=>absurd z (noA b),e0.bs,e0.bsz,λ b _ _=>noA b,λ b z=>absurd z (noA b),e0.funs,e0.frf⟩,
    rfl,e0.bare,Un.kept hk,⟨_,x.toInCall.ns,λ i y v h1 h2 h3=> ?_⟩,λ y c h=>⟨_,x.cell y c h⟩,e0.hok.fresh (Nat.le_refl _),λ y c h=> ?_,λ p hp=>absurd (show p∈([]:List (Addr × Obj)) from hp) (by simp),e0.hok.kept hk,?_⟩
  · exact name_of_addr x.apart (PySem.mem_of_lookup h1) (PySem.mem_of_lookup h2)
  · have hy:scope.names.lookup y=some .cell\/scope.names.lookup y=some .free:=hy;rcases hy with hy | hy
    · exact KQ hy
    · exact absurd rfl (S.nofree _ (PySem.mem_of_lookup hy))
  · exact Nat.le_of_lt (x.above y c (PySem.mem_of_lookup h))
  · have hi:i<vs.length:=by
      unfold start at h2;by_cases hi:i<vs.length
      · exact hi
      · rw [List.getElem?_append_right (by simpa using hi)] at h2;rw [List.getElem?_replicate] at h2;split at h2 <;> cases h2
    have ha:vs[i]?=some v:=by
      unfold start at h2;rw [List.getElem?_append_left (by simpa using hi),List.getElem?_map] at h2;cases e:vs[i]? with
      | none=>rw [e] at h2;cases h2
      | some a=>rw [e] at h2;cases h2;rfl
    obtain ⟨u,hu,rv⟩:=r.get ha;have hp:ps[i]?=some y:=by
      rw [<-S.pre,List.getElem?_take_of_lt (by omega)];exact h1
    have ndP:ps.Nodup:=by rw [<-S.pre];exact S.nd.sublist (List.take_sublist _ _)
    refine ⟨u,rv,?_⟩;rcases S.par y (List.mem_of_getElem? hp) with k | k
    · exact .inl ⟨k,Jp ndP hp hu k⟩
    · obtain ⟨c,e⟩:=KQ (n:=s.heap.objs.size+1) k;refine .inr ⟨.inl k,c,e,?_⟩;have q:=x.cell y c e;rw [JB ndP hp hu (by show scope.names.lookup y≠_;rw [k];decide)] at q;exact q
  · exact e0.hok.fresh (Nat.le_of_lt (x.above y c (PySem.mem_of_lookup h)))
  · unfold start;show _=N.length;rw [List.length_append,List.length_map,List.length_replicate];omega
theorem RW {CX:CXT} {P:Program} {w:World} {K:PySem.W.Frag} {mg:Str->Option Value} {base:Heap} {k:Nat} {f:Addr} {name qual:Str} {params:Arguments} {body:List Stmt} {scope:Scope} {dV kV doc pm cdv ct oc:Value} {an od:Option Addr}
    {osl:Array (Option Value)} {N ps:List Str} {sp:Sp} (lk:K.lookup f=some ⟨oc,od, .func (PySem.W.fnOf name qual params body scope dV kV doc pm an cdv ct),osl⟩) (hcd:PySem.W.codeIn K cdv qual=true) (S:FnScope N ps scope)
    (len:∀ vs H Q E,sp vs H Q E->vs.length=ps.length)
    (hbody:∀ (A:Around) (outer:List Env) (s:Shared) (H:Hp) (vs:List V) (Q:VK) (E:XK),Room k (A.deeper (envOfC qual scope s.heap.objs.size f cdv))->sp vs H Q E->
      ∃ t,PSs (B0 CX P w K mg base N qual scope f cdv A outer s H E) body t/\t { nx:=λ _ H'=>Q .non H',rt:=Q } (start N vs) H):
    FnOk P w K mg base CX (k+1) f (PySem.W.fnOf name qual params body scope dV kV doc pm an cdv ct) ps sp:=by
  refine ⟨len,λ A outer s H args us vs Q E hr e0 hb r hsp=> ?_⟩;have hl:=len _ _ _ _ hsp;have KX:K.In s.heap:=e0.mod.kin.keeps λ b o e=>(e0.bs b o e).1;have lim:s.heap.NoLimit:=e0.mod.nolimit.keeps λ b o e=>(e0.bs b o e).1;have hkind:∀ y∈ps.zip us,scope.names.lookup y.1=some .local\/(scope.names.lookup y.1=some .cell/\((cellsFrom (s.heap.objs.size+1) scope.names []).lookup y.1).isSome=true):=λ ⟨n,v⟩ hy=>by
    rcases S.par n (List.of_mem_zip hy).1 with q | q
    · exact .inl q
    · exact .inr ⟨q,PySem.W.cellsFrom_some _ _ _ (.inl q)⟩
  refine codeAny_call_function hr.depth (KX _ _ lk) rfl S.co S.gen rfl (PySem.W.codeRec_of KX hcd) (hb _ _ _ _ ?_);refine wpAny_newFunctionEnv_cells S.kind hkind λ env he s1 x=> ?_;subst he;refine ⟨lim.keeps x.toInCall.keep,codeAny_func ?_⟩;obtain ⟨t,ht,hq⟩:=hbody A outer s H vs Q E (hr.deeper _) hsp;have I:Inv (B0 CX P w K mg base N qual scope f cdv A outer s H E) [] (start N vs) H s1:=NP S hr.hd e0 hl r x;refine wpAny_mono (ht [] s1 (start N vs) H _ I hq) (λ fl s' hs=> ?_) λ e s' hs=>hs;have fin:∀ {σ':St} {H':Hp} {v:V} {u:Value},Inv (B0 CX P w K mg base N qual scope f cdv A outer s H E) [] σ' H' s'->RelV v u->Q v H'->CE outer P w H s Q u s':=
    λ {σ' H' v u} J rv q=>⟨v,H',J.os,J.bare,J.base,J.hok,rv,q⟩
  cases fl with
  | ret u=>
    obtain ⟨v,σ',H',J,rv,q⟩:=hs;exact fin J rv q
  | next=>
    obtain ⟨σ',H',J,q⟩:=hs;exact fin (v:=V.non) (u:=Value.none) J rfl q
  | brk=>
    obtain ⟨_,_,_,q⟩:=hs;exact False.elim q
  | cont=>
    obtain ⟨_,_,_,q⟩:=hs;exact False.elim q
section
variable {X:Cx} {x:Str} {p pos:Pos} {e:Expr} {es:List Expr} {t:TA} {id T:String} {r:List V->Hp->VK->Prop}
def tCB (r:List V->Hp->VK->Prop) (t:TA):TE:=λ σ H Q=>t σ H λ vs H1=>r vs H1 Q
theorem Ak (hc:BR X (.builtin id) r) (hg:Gl X x) (hm:X.mg x=none) (hv:bootBuiltins x=some (.builtin id)) (ha:PA X (e::es) t) (hn:x≠"__name__":=by decide) (hdb:(x == ("__debug__":Str))=false:=by decide)
    (he:starEach (e::es) X.env=(false,eval e X.env)::starEach es X.env:=by rfl) (hpl:(backTo pos (starEach es X.env)).any (·.1)=false:=by rfl):PE X (.Call (.Name x p) (e::es) [] pos) (tCB r t):=by
  intro pins s σ H Q I h;refine wpAny_Call_Name_kw (B3 I hg hm hv ?_ hn hdb);exact PyProof.Rows.callWith_builtin1 (thn (ha pos pins s σ H _ I h) λ us s1 ⟨vs,H1,I1,r1,q1⟩=>hc pins s1 σ H1 vs us Q I1 r1 q1) he hpl
theorem Ax (hc:BR X (.type T) r) (hg:Gl X x) (hm:X.mg x=none) (hv:bootBuiltins x=some (.type T)) (ha:PA X (e::es) t) (hn:x≠"__name__":=by decide) (hdb:(x == ("__debug__":Str))=false:=by decide)
    (he:starEach (e::es) X.env=(false,eval e X.env)::starEach es X.env:=by rfl) (hpl:(backTo pos (starEach es X.env)).any (·.1)=false:=by rfl):PE X (.Call (.Name x p) (e::es) [] pos) (tCB r t):=by
  intro pins s σ H Q I h;refine wpAny_Call_Name_kw (B3 I hg hm hv ?_ hn hdb);exact PyProof.Rows.callWith_type1 (thn (ha pos pins s σ H _ I h) λ us s1 ⟨vs,H1,I1,r1,q1⟩=>hc pins s1 σ H1 vs us Q I1 r1 q1) he hpl
end
end L2
namespace HT
open PySem PyProof.Rows
section
open PySem.SeqAt
open PySem.AutoSeq1 (wpAny_loadPart')
open PySem.MeetsSeq PySem.MeetsSeq2 PySem.MeetsSeq3
end
section
variable {prog:Program} {w:World} {A:Around} {E:Value->Shared->Prop} {s:Shared}
theorem cat_tup {t b:Addr} {vs ws:List Value} {Q:Value->Shared->Prop} (ht:IsTup s.heap t vs.toArray) (hb:IsTup s.heap b ws.toArray) (hv:vs≠[])
    (h1:ws=[]->Q (.ref t) s) (h2:ws≠[]->Q (.ref s.heap.objs.size) { s with heap:=s.heap.push { cls:= .type "tuple",data:= .seq (vs++ws).toArray } })
    (hsz:vs.length+ws.length<=sizeLine):wpAny (model prog w) A (binaryOp .Add (.ref t) (.ref b)) Q E s:=by
  obtain ⟨⟨cls,dd,data,sl⟩,ho,hc,n,hd⟩:=id ht;obtain ⟨⟨cls2,dd2,data2,sl2⟩,ho2,hc2,n2,hd2⟩:=id hb;simp only at hc hd hc2 hd2;subst hc hd hc2 hd2;have e:vs.toArray++ws.toArray=(vs++ws).toArray:=by simp
  by_cases hw:ws=[]
  · exact concat_meets ⟨_,ho,rfl⟩ ⟨_,ho2,rfl⟩ noFill_tuple_add seq_tuple_add PySem.F.slot_tuple_add PySem.F.entry_tuple_add (PySem.F.args_tuple_add_2 _ _)
      (tuple_addW1 t b vs.toArray ws.toArray n n2 dd dd2 sl sl2 (by simpa using hv) (by simp [hw])) ⟨ho,ho2,h1 hw⟩
  · refine concat_meets ⟨_,ho,rfl⟩ ⟨_,ho2,rfl⟩ noFill_tuple_add seq_tuple_add PySem.F.slot_tuple_add PySem.F.entry_tuple_add (PySem.F.args_tuple_add_2 _ _)
      (tuple_addW2 t b vs.toArray ws.toArray n n2 dd dd2 sl sl2 (by simpa using hv) (by simpa using hw) (by rw [List.size_toArray,List.size_toArray];exact hsz)) ⟨ho,ho2,?_⟩
    rw [e];exact h2 hw
noncomputable def sIx (n d:Nat):Option Int->Nat
  | none=>d
  | some v=>if v<0 then (v+(n:Int)).toNat else min v.toNat n
theorem Tv (n d:Nat) (hd:d<=n) (o:Option Int):sIx n d o<=n:=by
  cases o with
  | none=>exact hd
  | some v=>
    show (if v<0 then (v+(n:Int)).toNat else min v.toNat n)<=n;by_cases hv:v<0
    · rw [if_pos hv];omega
    · rw [if_neg hv];exact Nat.min_le_right _ _
theorem MB (v:Int) (n d:Nat):(if v<0 then max (v+(n:Int)) 0 else min v (n:Int))=((sIx n d (some v):Nat):Int):=by
  show (if v<0 then max (v+(n:Int)) 0 else min v (n:Int))=(((if v<0 then (v+(n:Int)).toNat else min v.toNat n):Nat):Int);by_cases hv:v<0
  · simp only [if_pos hv];omega
  · simp only [if_neg hv];omega
theorem L8 (lo hi:Option Int) (n:Nat):Builtin.Slice.sliceAdjust lo hi 1 (n:Int)=(((sIx n 0 lo:Nat):Int),((sIx n n hi:Nat):Int)):=by
  have h1:¬ ((1:Int)<0):=by omega
  unfold Builtin.Slice.sliceAdjust;simp only [h1,if_false];refine Prod.ext ?_ ?_
  · cases lo with
    | none=>rfl
    | some v=>exact MB v n 0
  · cases hi with
    | none=>rfl
    | some v=>exact MB v n n
theorem Mp (i j:Nat):Builtin.Slice.slicePlaces (i:Int) (j:Int) 1=j - i:=by
  unfold Builtin.Slice.slicePlaces;have h1:(1:Int)>0:=by omega
  simp only [h1,if_true,Int.ediv_one];split <;> omega
theorem Hx {v:Value} {o:Option Int} {Q:Option Int->Shared->Prop} (p:IsPart v o) (h:Q o s):wpAny (model prog w) A (Builtin.Slice.slicePartIndex v) Q E s:=by
  cases p with
  | none=>exact slicePart_none h
  | int i t=>exact slicePart_int h
theorem De {sl:Addr} {vl vu:Value} {lo hi:Option Int} {n:Nat} {Q:Int × Int × Nat->Shared->Prop} (hs:s.heap.IsSliceOf sl vl vu .none) (pl:IsPart vl lo) (pu:IsPart vu hi)
    (h:Q (((sIx n 0 lo:Nat):Int),1,sIx n n hi - sIx n 0 lo) s):wpAny (model prog w) A (Builtin.Slice.sliceApplied (.ref sl) (pure (n:Int))) Q E s:=by
  obtain ⟨os,hos,hcs,hds⟩:=id hs;unfold Builtin.Slice.sliceApplied Builtin.Slice.sliceFields;refine wpAny_bind (wpAny_bind (wpAny_field hos hds (x:=vl) rfl (wpAny_bind (wpAny_field hos hds (x:=vu) rfl (wpAny_bind (wpAny_field hos hds (x:= .none) rfl (wpAny_pure ?_)))))));refine wpAny_bind (slicePart_none ?_);show wpAny _ _ (if ((1:Int) == 0)=true then _ else _) _ _ s;rw [if_neg (by decide)];refine wpAny_bind (Hx pl (wpAny_bind (Hx pu (wpAny_bind (wpAny_pure ?_)))));show wpAny _ _ (match Builtin.Slice.sliceAdjust lo hi 1 (n:Int) with | (lo,hi)=>pure (lo,(1:Int),Builtin.Slice.slicePlaces lo hi 1)) _ _ s;rw [L8 lo hi n];show wpAny _ _ (pure (((sIx n 0 lo:Nat):Int),(1:Int),Builtin.Slice.slicePlaces ((sIx n 0 lo:Nat):Int) ((sIx n n hi:Nat):Int) 1)) _ _ s;rw [Mp];exact wpAny_pure h
theorem Ol (xs:Array Value) (i k:Nat):((List.range k).filterMap λ (m:Nat)=>xs[((i:Int)+(m:Int)*1).toNat]?).toArray=((xs.toList.drop i).take k).toArray:=by
  have e:(λ (m:Nat)=>xs[((i:Int)+(m:Int)*1).toNat]?)=λ m=>xs[i+m]?:=by
    funext m;have:((i:Int)+(m:Int)*1).toNat=i+m:=by omega
    rw [this]
  rw [e];have:=pick_run xs i k;rw [List.filterMap_map] at this;have e2:((λ x=>xs[x]?)∘λ x=>i+x)=λ m=>xs[i+m]?:=rfl;rw [e2] at this;rw [this]
theorem getItem_tuple_cut {t sl:Addr} {items:Array Value} {vl vu:Value} {lo hi:Option Int} {Q:Value->Shared->Prop} (ht:IsTup s.heap t items) (hs:s.heap.IsSliceOf sl vl vu .none) (pl:IsPart vl lo) (pu:IsPart vu hi)
    (hw:¬ (sIx items.size 0 lo=0/\sIx items.size items.size hi=items.size))
    (h:Q (.ref s.heap.objs.size) { s with heap:=s.heap.push { cls:= .type "tuple",data:= .seq ((items.toList.drop (sIx items.size 0 lo)).take (sIx items.size items.size hi - sIx items.size 0 lo)).toArray } })
    (hsz:items.size<=sizeLine):wpAny (model prog w) A (getItem (.ref t) (.ref sl)) Q E s:=by
  have htake:sizeOk (.seq ((items.toList.drop (sIx items.size 0 lo)).take (sIx items.size items.size hi - sIx items.size 0 lo)).toArray):=by
    show ((items.toList.drop (sIx items.size 0 lo)).take (sIx items.size items.size hi - sIx items.size 0 lo)).toArray.size<=sizeLine;rw [List.size_toArray,List.length_take,List.length_drop,Array.length_toList];omega
  have hj:sIx items.size items.size hi<=items.size:=Tv _ _ (Nat.le_refl _) hi;obtain ⟨os,hos,hcs,hds⟩:=id hs;have hTs:s.TypeIs (.ref sl) "slice":=⟨os,hos,hcs⟩;unfold getItem
  try with_reducible refine wpAny_holding ?_
  first | refine wpAny_bind (wpAny_pure ?_) | skip
  refine wpAny_bind (wpAny_sequenceKey ht.typeIs (by decide) ?_);refine wpAny_bind (wpAny_callSpecial?_slot (name:=Str.ofString "__getitem__") ht.typeIs PyProof.Rows.slot_tuple_getitem
    (wpAny_call_entry PyProof.Rows.slot_tuple_getitem ht.typeIs entry_tuple_getitem ?_ (args_tuple_getitem _ _)))
  show wpAny _ _ (Builtin.Tuple.tupleItemsOf (.ref t) >>= _) _ _ s;refine wpAny_bind (tupleItemsOf_ ht ?_);refine wpAny_bind (wpAny_typeOf hTs ?_);rw [if_pos (by decide)];refine wpAny_bind (De hs pl pu ?_);have hno:¬ ((((sIx items.size 0 lo:Nat):Int) == 0&&(1:Int) == 1&&(sIx items.size items.size hi - sIx items.size 0 lo) == items.size)=true):=by
    intro q;rw [Bool.and_eq_true,Bool.and_eq_true] at q;have q1:((sIx items.size 0 lo:Nat):Int)=0:=eq_of_beq q.1.1;have q2:sIx items.size items.size hi - sIx items.size 0 lo=items.size:=eq_of_beq q.2;exact hw ⟨by omega,by omega⟩
  show wpAny _ _ (if (((sIx items.size 0 lo:Nat):Int) == 0&&(1:Int) == 1&&(sIx items.size items.size hi - sIx items.size 0 lo) == items.size)=true then _ else _) _ _ s;rw [if_neg hno,Ol]
  first
    | exact wpAny_bind (m:=Builtin.Tuple.tupleExact _) (wpAny_newObj_type (wpAny_pure ⟨_,rfl,wpAny_pure h⟩) htake)
    | exact wpAny_bind (m:=Builtin.Tuple.tupleExact _) (wpAny_newObj_type (wpAny_bind (wpAny_pure (wpAny_pure ⟨_,rfl,wpAny_pure h⟩))) htake)
    | exact wpAny_bind (wpAny_bind (m:=Builtin.Tuple.tupleExact _) (wpAny_newObj_type (wpAny_pure (wpAny_pure ⟨_,rfl,wpAny_pure h⟩)) htake))
    | exact wpAny_bind (wpAny_bind (m:=Builtin.Tuple.tupleExact _) (wpAny_newObj_type (wpAny_pure ⟨_,rfl,wpAny_pure h⟩) htake))
end
end HT
namespace L2
open PySem PySem.Spec PyProof.Rows
abbrev TO:=St->Hp->(Option Int->Hp->Prop)->Prop
def PO (X:Cx) (e:Option Expr) (t:TO):Prop:=
  ∀ (pins:List (Addr × Obj)) (s:Shared) (σ:St) (H:Hp) (Q:Option Int->Hp->Prop),Inv X pins σ H s->t σ H Q->
    wpAny (model X.prog X.w) X.A (evalPart e X.env) (λ u s'=>∃ o H',Inv X pins σ H' s'/\IsPart u o/\Q o H') X.xe s
def Na:TO:=λ _ H Q=>Q none H
def Si (t:TE):TO:=λ σ H Q=>t σ H λ x H1=>∃ i,x= .int i/\Q (some i) H1
theorem Ml {ns:List Int}:∀ {us:List Value},Vals (ns.map V.int) us->IntsAre us ns:=by
  induction ns with
  | nil=>intro us r;rw [List.map_nil] at r;cases r;exact .nil
  | cons n ns ih=>
    intro us r;rw [List.map_cons] at r;cases r with
    | cons r1 r2=>
      obtain ⟨t,e⟩:=r1;subst e;exact .cons n t (ih r2)
section
variable {X:Cx} {e:Expr} {te:TE} {lo hi:Option Expr} {tl th:TO} {pos p2:Pos}
theorem F4:PO X none Na:=by
  intro pins s σ H Q I h;rw [evalPart_none];exact wpAny_pure ⟨none,H,I, .none,h⟩
theorem F6 (h:PE X e te):PO X (some e) (Si te):=by
  intro pins s σ H Q I hw;rw [evalPart_some];refine thn (h pins s σ H _ I hw) λ u s1 ⟨x,H1,I1,r1,q1⟩=> ?_;obtain ⟨i,rfl,q⟩:=q1;obtain ⟨t,rfl⟩:=r1;exact ⟨some i,H1,I1, .int i t,q⟩
def SlR (X:Cx) (r:V->Option Int->Option Int->Hp->VK->Prop):Prop:=
  ∀ (pins:List (Addr × Obj)) (s:Shared) (σ:St) (H:Hp) (x:V) (v vl vu:Value) (lo hi:Option Int) (sl:Addr) (Q:VK),Inv X pins σ H s->RelV x v->s.heap.IsSliceOf sl vl vu .none->IsPart vl lo->IsPart vu hi->r x lo hi H Q->
    ∃ T id,typeLookup (.type T) "__getitem__"=pure (some (.builtin id))/\s.TypeIs v T/\wpAny (model X.prog X.w) X.A (getItem v (.ref sl)) (EP X pins σ Q) X.xe s
def tSl (r:V->Option Int->Option Int->Hp->VK->Prop) (te:TE) (tl th:TO):TE:=λ σ H Q=>te σ H λ x H1=>tl σ H1 λ l H2=>th σ H2 λ u H3=>r x l u H3 Q
theorem EB {r:V->Option Int->Option Int->Hp->VK->Prop} (hr:SlR X r) (he:PE X e te) (hl:PO X lo tl) (hu:PO X hi th):PE X (.Subscript e (.Slice lo hi none p2) pos) (tSl r te tl th):=by
  intro pins s σ H Q I h;refine Subscript_ (thn (he pins s σ H _ I h) λ v s1 ⟨x,H1,I1,r1,q1⟩=> ?_);refine wpAny_Slice (thn (hl pins s1 σ H1 _ I1 q1) λ vl s2 ⟨l,H2,I2,pl,q2⟩=>thn (hu pins s2 σ H2 _ I2 q2) λ vu s3 ⟨u,H3,I3,pu,q3⟩=> ?_);rw [evalPart_none];refine wpAny_pure ?_;have I4:Inv X pins σ H3 { s3 with heap:=s3.heap.push { cls:= .type "slice",data:= .fields #[vl,vu, .none] } }:=I3.kept (t':=s3.toks) λ b ob q=>Heap.get?_push_of_some _ q;obtain ⟨T,id,hT,ht,hg⟩:=hr pins { s3 with heap:=s3.heap.push { cls:= .type "slice",data:= .fields #[vl,vu, .none] } } σ H3 x v vl vu l u s3.heap.objs.size Q I4 r1 (Heap.IsSliceOf.new ..) pl pu q3;show wpAny (model X.prog X.w) X.A (subscriptTail e (.Slice lo hi none p2) v (.ref s3.heap.objs.size)) (EP X pins σ Q) X.xe { s3 with heap:=s3.heap.push { cls:= .type "slice",data:= .fields #[vl,vu, .none] } };exact tail_any (ops:=[.ref s3.heap.objs.size,v]) ht hT hg (by with_unfolding_all rfl)
noncomputable def Fs (xs:List V) (lo hi:Option Int):List V:=(xs.drop (HT.sIx xs.length 0 lo)).take (HT.sIx xs.length xs.length hi - HT.sIx xs.length 0 lo)
theorem GK (xs:List V) (lo hi:Option Int):(Fs xs lo hi).length<=xs.length:=by
  unfold Fs;rw [List.length_take,List.length_drop];omega
def aE (K:PySem.W.Frag):V->Option Int->Option Int->Hp->VK->Prop:=λ x lo hi H Q=>∃ a xs,x= .ref a/\SqT K H a xs/\
  ¬ (HT.sIx xs.length 0 lo=0/\HT.sIx xs.length xs.length hi=xs.length)/\∀ p,H p=none->Q (.ref p) (upd H p (.tup (Fs xs lo hi)))
theorem SC:SlR X (aE X.K):=by
  intro pins s σ H x v vl vu lo hi sl Q I rx hs pl pu h;obtain ⟨a,xs,rfl,hx,hw,q⟩:=h;cases rx;obtain ⟨its,r,ht,hz⟩:=I.tuple hx;have hlen:its.toArray.size=xs.length:=by rw [List.size_toArray];exact r.length.symm
  refine ⟨"tuple",_,PyProof.Rows.slot_tuple_getitem.lookup,ht.typeIs,?_⟩;refine HT.getItem_tuple_cut ht hs pl pu (by rw [hlen];exact hw) ?_ (by rw [hlen];exact hz);rw [hlen];refine ⟨.ref s.heap.objs.size,_,I.laid (t':=s.toks) (o:= .tup (Fs xs lo hi)) (λ b ob q=>Heap.get?_push_of_some _ q) (Nat.le_refl _) ?_,rfl,q _ (I.hok.fresh (Nat.le_refl _))⟩;exact ⟨Nat.le_trans (GK xs lo hi) hz,_,(r.drop (HT.sIx xs.length 0 lo)).take (HT.sIx xs.length xs.length hi - HT.sIx xs.length 0 lo),IsTup.new _ _⟩
def OZ (K:PySem.W.Frag):R2:=λ x y H Q=>∃ a b xs ys,x= .ref a/\y= .ref b/\SqT K H a xs/\SqT K H b ys/\xs≠[]/\xs.length+ys.length<=sizeLine/\
  (ys=[]->Q (.ref a) H)/\(ys≠[]->∀ p,H p=none->Q (.ref p) (upd H p (.tup (xs++ys))))
theorem Vals.nil_iff {xs:List V} {us:List Value} (r:Vals xs us):us=[]↔xs=[]:=by
  cases r with
  | nil=>simp
  | cons _ _=>simp
theorem Qp:OpR X (binaryOp .Add) (OZ X.K):=by
  intro pins s σ H x y v u Q I rx ry h;obtain ⟨a,b,xs,ys,rfl,rfl,ha,hb,hx,hz,q1,q2⟩:=h;cases rx;cases ry;obtain ⟨its,r1,p1,_⟩:=I.tuple ha;obtain ⟨its2,r2,p2,_⟩:=I.tuple hb;refine HT.cat_tup p1 p2 (λ z=>hx (r1.nil_iff.mp z)) (λ z=>⟨.ref a,H,I,rfl,q1 (r2.nil_iff.mp z)⟩) (λ z=> ?_) (by rw [<-r1.length, <-r2.length];exact hz);refine ⟨.ref s.heap.objs.size,_,I.laid (t':=s.toks) (o:= .tup (xs++ys)) (λ b ob q=>Heap.get?_push_of_some _ q) (Nat.le_refl _) ?_,rfl,q2 (λ w=>z (r2.nil_iff.mpr w)) _ (I.hok.fresh (Nat.le_refl _))⟩;exact ⟨by rw [List.length_append];exact hz,_,r1.append r2,IsTup.new _ _⟩
end
noncomputable def ixN (n:Nat) (i:Int):Option Nat:=if 0<=i then (if i<n then some i.toNat else none) else if -(n:Int)<=i then some (i+n).toNat else none
noncomputable def atI {α:Type} (xs:List α) (i:Int):Option α:=(ixN xs.length i).bind λ j=>xs[j]?
theorem MH {n:Nat} {i:Int} {j:Nat} (h:ixN n i=some j):seqIndex? i n=some j/\j<n/\ -(n:Int)<=i/\i<n:=by
  unfold ixN at h;by_cases h0:0<=i
  · rw [if_pos h0] at h;by_cases h1:i<n
    · rw [if_pos h1] at h;have e:i.toNat=j:=Option.some.inj h;exact ⟨by rw [seqIndex_of h0 h1,e],by omega,by omega,h1⟩
    · rw [if_neg h1] at h;cases h
  · rw [if_neg h0] at h;by_cases h1: -(n:Int)<=i
    · rw [if_pos h1] at h;have e:(i+n).toNat=j:=Option.some.inj h;exact ⟨by rw [seqIndex_neg (by omega) h1,e],by omega,h1,by omega⟩
    · rw [if_neg h1] at h;cases h
theorem Kn {α:Type} {xs:List α} {i:Int} {v:α} (h:atI xs i=some v):∃ j,seqIndex? i xs.length=some j/\xs[j]?=some v/\j<xs.length/\ -(xs.length:Int)<=i/\i<xs.length:=by
  unfold atI at h;cases e:ixN xs.length i with
  | none=>rw [e] at h;cases h
  | some j=>
    rw [e] at h;obtain ⟨h1,h2,h3,h4⟩:=MH e;exact ⟨j,h1,h,h2,h3,h4⟩
theorem Cw {α:Type} {xs:List α} {j:Nat} {v:α} (h:xs[j]?=some v):atI xs (j:Int)=some v:=by
  have hj:j<xs.length:=(List.getElem?_eq_some_iff.mp h).1;have e:ixN xs.length (j:Int)=some j:=by
    unfold ixN;rw [if_pos (by omega),if_pos (by omega)];simp
  unfold atI;rw [e];exact h
def Qy (b:Expr):Prop:=∀ o i,subscripted b false o i=operate [o,i] (getItem o i)
def IxR (X:Cx) (r:R2):Prop:=
  ∀ (value slice:Expr) (pins:List (Addr × Obj)) (s:Shared) (σ:St) (H:Hp) (x y:V) (v u:Value) (Q:VK),Inv X pins σ H s->RelV x v->RelV y u->r x y H Q->
    subscripted slice false v u=operate [v,u] (getItem v u)->wpAny (model X.prog X.w) X.A (subscriptTail value slice v u) (EP X pins σ Q) X.xe s
def MtR (X:Cx) (id:String) (r:V->List V->Hp->VK->Prop):Prop:=
  ∀ (pins:List (Addr × Obj)) (s:Shared) (σ:St) (H:Hp) (x:V) (xs:List V) (v:Value) (us:List Value) (Q:VK),Inv X pins σ H s->RelV x v->Vals xs us->r x xs H Q->
    wpAny (model X.prog X.w) X.A (call (.builtin id) (v::us)) (EP X pins σ Q) X.xe s
section
variable {X:Cx} {a b:Expr} {ta tb:TE} {pos:Pos}
theorem AT {r:R2} (hr:IxR X r) (ha:PE X a ta) (hb:PE X b tb) (hs:Qy b):PE X (.Subscript a b pos) (tOp r ta tb):=by
  intro pins s σ H Q I h;exact Subscript_ (Sq ha hb I h λ v u s2 x y H2 I2 rx ry q=>hr a b pins s2 σ H2 x y v u Q I2 rx ry q (hs _ _))
def S0 (K:PySem.W.Frag):R2:=λ x y H Q=>∃ p xs i v,x= .ref p/\y= .int i/\SqL K H p xs/\atI xs i=some v/\Q v H
def Tt (K:PySem.W.Frag):R2:=λ x y H Q=>∃ p xs i v,x= .ref p/\y= .int i/\SqT K H p xs/\atI xs i=some v/\Q v H
def Wx:R2:=λ x y H Q=>∃ z i c,x= .str z/\y= .int i/\z.length<=sizeLine/\atI z.cps.toList i=some c/\Q (.str ⟨#[c]⟩) H
theorem Q0:IxR X (S0 X.K):=by
  intro value slice pins s σ H x y v u Q I rx ry h hs;obtain ⟨p,xs,i,z,rfl,rfl,hq,he,q⟩:=h;cases rx;obtain ⟨t,rfl⟩:=ry;obtain ⟨its,r,pl,hz⟩:=I.list hq;obtain ⟨j,h1,h2,h3,h4,h5⟩:=Kn he;obtain ⟨w,ew,rw'⟩:=r.get h2;have hl:=r.length;have hn:=GA;have fin:EP X pins σ Q w s:=⟨z,H,I,rw',q⟩;by_cases h0:0<=i
  · have hj:i.toNat=j:=by
      rw [seqIndex_of h0 h5] at h1;exact Option.some.inj h1
    exact item_listR pl.isList h0 (by omega) (by rw [hj];simpa using ew) fin hs
  · have hj:(i+(its.toArray.size:Int)).toNat=j:=by
      rw [seqIndex_neg (by omega) h4] at h1;rw [List.size_toArray, <-hl];exact Option.some.inj h1
    exact subscriptTail_builtinR (x:=w) pl.isList.typeIs slot_list_getitem.lookup
      (wpAny_getItem_list_neg (Q:=λ r s'=>r=w/\EP X pins σ Q r s') pl.isList (by omega) (by rw [List.size_toArray] <;> omega) (by omega) (by rw [hj];simpa using ew) ⟨rfl,fin⟩) hs
theorem TB:IxR X (Tt X.K):=by
  intro value slice pins s σ H x y v u Q I rx ry h hs;obtain ⟨p,xs,i,z,rfl,rfl,hq,he,q⟩:=h;cases rx;obtain ⟨t,rfl⟩:=ry;obtain ⟨its,r,pl,hz⟩:=I.tuple hq;obtain ⟨j,h1,h2,h3,h4,h5⟩:=Kn he;obtain ⟨w,ew,rw'⟩:=r.get h2;have hl:=r.length;have hn:=GA;have fin:EP X pins σ Q w s:=⟨z,H,I,rw',q⟩;exact subscriptTail_builtinR (x:=w) pl.typeIs slot_tuple_getitem.lookup
    (getItem_tuple (j:=j) (Q:=λ r s'=>r=w/\EP X pins σ Q r s') pl (by omega) (by omega) (by rw [List.size_toArray, <-hl];exact h1) (by simpa using ew) ⟨rfl,fin⟩) hs
theorem PH:IxR X Wx:=by
  intro value slice pins s σ H x y v u Q I rx ry h hs;obtain ⟨z,i,c,rfl,rfl,hz,he,q⟩:=h;obtain ⟨t,rfl⟩:=rx;obtain ⟨t',rfl⟩:=ry;obtain ⟨j,h1,h2,h3,h4,h5⟩:=Kn he;have hl:z.cps.toList.length=z.length:=by simp [Str.length]
  rw [hl] at h1 h4 h5;have hn:=GA;exact tail_any (typeIs_str s z t) slot_str_getitem.lookup (getItem_str (c:=c) (by
    have e1:decide (i< -(2 ^ 63:Int))=false:=decide_eq_false (by omega);have e2:decide (i>=2 ^ 63)=false:=decide_eq_false (by omega);rw [e1,e2,Bool.or_false]) (by rw [h1];simpa using h2) ⟨.str ⟨#[c]⟩,H,I.tok _,⟨_,rfl⟩,q⟩) hs
theorem L7 (its:List Value) (n j:Nat) (u:Value):Obj.mapSeq (·.setIfInBounds j u) { cls:= .type "list",data:= .seq its.toArray n }={ cls:= .type "list",data:= .seq (its.set j u).toArray n }:=by
  simp [Obj.mapSeq]
theorem Inv.lst {pins:List (Addr × Obj)} {σ:St} {H:Hp} {s:Shared} {p:Addr} {xs:List V} (I:Inv X pins σ H s) (h:H p=some (.lst xs)):
    ∃ (its:List Value) (n:Nat),Vals xs its/\s.heap.get? p=some { cls:= .type "list",data:= .seq its.toArray n }/\xs.length<=sizeLine:=by
  obtain ⟨z,its,n,r,e⟩:=I.hok p _ h;exact ⟨its,n,r,e,z⟩
theorem Inv.lstUpd {pins:List (Addr × Obj)} {σ:St} {H:Hp} {s:Shared} {p:Addr} {xs ys:List V} {its its':List Value} {n n':Nat} {f:Obj->Obj} (I:Inv X pins σ H s) (h:H p=some (.lst xs))
    (ho:s.heap.get? p=some { cls:= .type "list",data:= .seq its.toArray n }) (hf:f { cls:= .type "list",data:= .seq its.toArray n }={ cls:= .type "list",data:= .seq its'.toArray n' }) (r:Vals ys its') (hz:ys.length<=sizeLine) (t:Nat):
    Inv X pins σ (upd H p (.lst ys)) { s with heap:=s.heap.update p f,toks:=t }:=by
  have e:(s.heap.update p f).get? p=some { cls:= .type "list",data:= .seq its'.toArray n' }:=by
    rw [Heap.get?_update_self f ho (by rw [hf] <;> rfl),hf]
  refine I.write (x:=p) (e:=p) (by rw [h];trivial) (.inl rfl) (λ b u hb q=>(Heap.get?_update_other _ _ (Ne.symm hb)).trans q) ⟨_,e⟩ ?_;exact ⟨hz,its',n',r,e⟩
def XX:V->V->V->Hp->(Hp->Prop)->Prop:=λ o i v H Q=>∃ p xs k j,o= .ref p/\i= .int k/\H p=some (.lst xs)/\ixN xs.length k=some j/\Q (upd H p (.lst (xs.set j v)))
theorem HP:W6 X XX:=by
  intro pins s σ H o i v ov iv u Q I ro ri rv h;obtain ⟨p,xs,k,j,rfl,rfl,hp,hj,q⟩:=h;cases ro;obtain ⟨t,rfl⟩:=ri;obtain ⟨its,n,r,ho,hz⟩:=I.lst hp;obtain ⟨h1,h2,h3,h4⟩:=MH hj;have hl:=r.length;have hn:=GA;have I':Inv X pins σ (upd H p (.lst (xs.set j v))) { s with heap:=s.heap.update p (Obj.mapSeq (·.setIfInBounds j u)) }:=
    I.lstUpd hp ho (L7 its n j u) (r.set rv j) (by rw [List.length_set];exact hz) s.toks
  by_cases h0:0<=k
  · have hk:k.toNat=j:=by
      rw [seqIndex_of h0 h4] at h1;exact Option.some.inj h1
    exact PySem.W.ki_setAt ho h0 (by omega) (by rw [List.size_toArray, <-hl];exact h4) (by rw [hk];exact ⟨_,I',q⟩)
  · have hk:(k+(its.toArray.size:Int)).toNat=j:=by
      rw [seqIndex_neg (by omega) h3] at h1;rw [List.size_toArray, <-hl];exact Option.some.inj h1
    exact PySem.W.ki_setBack ho (by omega) (by rw [List.size_toArray, <-hl];exact h3) (by omega) (by rw [hk];exact ⟨_,I',q⟩)
theorem JU (lo hi:Option Int) (n:Nat):(sliceBounds lo hi none n).1=((HT.sIx n 0 lo:Nat):Int)/\(sliceBounds lo hi none n).2.1=((HT.sIx n n hi:Nat):Int)/\(sliceBounds lo hi none n).2.2=1:=by
  refine ⟨?_,?_,rfl⟩
  · cases lo with
    | none=>simp [sliceBounds,HT.sIx]
    | some i=>
      simp only [sliceBounds,HT.sIx,Option.getD_none,show (1:Int)>0 by decide,if_true];by_cases h:i<0
      · simp only [h,if_true] <;> omega
      · simp only [h,if_false] <;> omega
  · cases hi with
    | none=>simp [sliceBounds,HT.sIx]
    | some i=>
      simp only [sliceBounds,HT.sIx,Option.getD_none,show (1:Int)>0 by decide,if_true];by_cases h:i<0
      · simp only [h,if_true] <;> omega
      · simp only [h,if_false] <;> omega
theorem Jg (its:List Value) (lo hi:Option Int):slicePick its.toArray lo hi none=((its.drop (HT.sIx its.length 0 lo)).take (HT.sIx its.length its.length hi - HT.sIx its.length 0 lo)).toArray:=by
  obtain ⟨h1,h2,h3⟩:=JU lo hi its.toArray.size;unfold slicePick;rw [h1,h2,h3];simp only [sliceRange_one,pick_run,List.size_toArray] <;> rfl
def T7 (K:PySem.W.Frag):V->Option Int->Option Int->Hp->VK->Prop:=λ x lo hi H Q=>∃ a xs,x= .ref a/\SqL K H a xs/\∀ p,H p=none->Q (.ref p) (upd H p (.lst (Fs xs lo hi)))
theorem Ql:SlR X (T7 X.K):=by
  intro pins s σ H x v vl vu lo hi sl Q I rx hs pl pu h;obtain ⟨a,xs,rfl,hx,q⟩:=h;cases rx;obtain ⟨its,r,ht,hz⟩:=I.list hx;have hlen:=r.length;refine ⟨"list",_,slot_list_getitem.lookup,ht.isList.typeIs,?_⟩;refine wpAny_getItem_list_slice ht.isList hs pl pu .none (by simp) ?_ (by rw [List.size_toArray] <;> omega);rw [Jg, <-hlen];refine ⟨.ref s.heap.objs.size,_,I.laid (t':=s.toks) (o:= .lst (Fs xs lo hi)) (λ b ob q=>Heap.get?_push_of_some _ q) (Nat.le_refl _) ?_,rfl,q _ (I.hok.fresh (Nat.le_refl _))⟩;exact ⟨Nat.le_trans (GK xs lo hi) hz,_,0,(r.drop (HT.sIx xs.length 0 lo)).take (HT.sIx xs.length xs.length hi - HT.sIx xs.length 0 lo),Heap.get?_push_size _ rfl⟩
noncomputable def Br:V->Bool
  | .non=>true
  | .bl _=>true
  | .int _=>true
  | .str _=>true
  | _=>false
noncomputable def eqV:V->V->Bool
  | .non, .non=>true
  | .bl a, .bl b=>a == b
  | .bl a, .int b=>(if a then 1 else 0) == b
  | .int a, .bl b=>a == (if b then 1 else 0)
  | .int a, .int b=>a == b
  | .str a, .str b=>a == b
  | _,_=>false
theorem Pq {A:Around} {s:Shared} {y x:V} {u v:Value} (ry:RelV y u) (rx:RelV x v) (fy:Br y=true) (fx:Br x=true):SeqAt.EqAt A s u v (eqV y x):=by
  cases y with
  | non=>
    cases ry;cases x with
    | non=>cases rx;exact SeqAt.EqAt.same _
    | bl b=>cases rx;exact SeqAt.EqAt.none_bool b
    | int b=>obtain ⟨t,rfl⟩:=rx;exact SeqAt.EqAt.none_int b t
    | str b=>obtain ⟨t,rfl⟩:=rx;exact SeqAt.EqAt.none_str b t
    | _=>exact absurd (show false=true from fx) Bool.false_ne_true
  | bl a=>
    cases ry;cases x with
    | non=>cases rx;exact SeqAt.EqAt.bool_none a
    | bl b=>cases rx;exact SeqAt.EqAt.bool_bool a b
    | int b=>obtain ⟨t,rfl⟩:=rx;exact SeqAt.EqAt.bool_int a b t
    | str b=>obtain ⟨t,rfl⟩:=rx;exact SeqAt.EqAt.bool_str a b t
    | _=>exact absurd (show false=true from fx) Bool.false_ne_true
  | int a=>
    obtain ⟨t',rfl⟩:=ry;cases x with
    | non=>cases rx;exact SeqAt.EqAt.int_none a t'
    | bl b=>cases rx;exact SeqAt.EqAt.int_bool a t' b
    | int b=>obtain ⟨t,rfl⟩:=rx;exact SeqAt.EqAt.int_int a t' b t
    | str b=>obtain ⟨t,rfl⟩:=rx;exact SeqAt.EqAt.int_str a t' b t
    | _=>exact absurd (show false=true from fx) Bool.false_ne_true
  | str a=>
    obtain ⟨t',rfl⟩:=ry;cases x with
    | non=>cases rx;exact SeqAt.EqAt.str_none a t'
    | bl b=>cases rx;exact SeqAt.EqAt.str_bool a t' b
    | int b=>obtain ⟨t,rfl⟩:=rx;exact SeqAt.EqAt.str_int a t' b t
    | str b=>obtain ⟨t,rfl⟩:=rx;exact SeqAt.EqAt.str_str a t' b t
    | _=>exact absurd (show false=true from fx) Bool.false_ne_true
  | _=>exact absurd (show false=true from fy) Bool.false_ne_true
noncomputable def eqU (x:V) (u:Value):Bool:=match u with
  | .none=>eqV .non x
  | .bool b=>eqV (.bl b) x
  | .int i _=>eqV (.int i) x
  | .str z _=>eqV (.str z) x
  | _=>false
theorem PQ {x y:V} {u:Value} (r:RelV y u) (f:Br y=true):eqU x u=eqV y x:=by
  cases y with
  | non=>cases r;rfl
  | bl b=>cases r;rfl
  | int i=>obtain ⟨t,rfl⟩:=r;rfl
  | str z=>obtain ⟨t,rfl⟩:=r;rfl
  | _=>exact absurd (show false=true from f) Bool.false_ne_true
theorem FL {x:V}:∀ {xs:List V} {us:List Value},Vals xs us->xs.all Br=true->us.any (eqU x)=xs.any λ y=>eqV y x
  | _,_, .nil,_=>rfl
  | y::xs,u::us, .cons r t,f=>by
    rw [List.all_cons,Bool.and_eq_true] at f;rw [List.any_cons,List.any_cons,PQ r f.1,FL t f.2]
theorem Ey {A:Around} {s:Shared} {x:V} {v:Value} (rx:RelV x v) (fx:Br x=true):∀ {xs:List V} {us:List Value},Vals xs us->xs.all Br=true->∀ u∈us,SeqAt.EqAt A s u v (eqU x u)
  | _,_, .nil,_=>λ u hu=>by cases hu
  | y::xs,u::us, .cons r t,f=>λ u' hu=>by
    rw [List.all_cons,Bool.and_eq_true] at f;rcases List.mem_cons.mp hu with rfl | hu
    · rw [PQ r f.1];exact Pq r rx f.1 fx
    · exact Ey rx fx t f.2 u' hu
noncomputable def inV (x:V) (xs:List V):Bool:=xs.any λ y=>eqV y x
def rIn (K:PySem.W.Frag) (neg:Bool):R2:=λ x y H Q=>∃ p xs,y= .ref p/\(SqL K H p xs\/SqT K H p xs)/\Br x=true/\xs.all Br=true/\Q (.bl (if neg then !inV x xs else inV x xs)) H
theorem Of:OpR X (compareOp .In) (rIn X.K false):=by
  intro pins s σ H x y v u Q I rx ry h;obtain ⟨p,xs,rfl,hq,fx,fs,q⟩:=h;cases ry;rcases hq with hq | hq
  · obtain ⟨its,r,pl,hz⟩:=I.list hq;refine SeqAt.in_listAt (eqU x) pl.isList (λ w hw=>Ey rx fx r fs w (by simpa using hw)) ⟨.bl _,H,I,rfl,?_⟩;rw [show its.toArray.any (eqU x)=its.any (eqU x) by simp,FL r fs];exact q
  · obtain ⟨its,r,pl,hz⟩:=I.tuple hq;refine SeqAt.in_tupleAt (eqU x) pl (λ w hw=>Ey rx fx r fs w (by simpa using hw)) ⟨.bl _,H,I,rfl,?_⟩;rw [show its.toArray.any (eqU x)=its.any (eqU x) by simp,FL r fs];exact q
theorem Kk:OpR X (compareOp .NotIn) (rIn X.K true):=by
  intro pins s σ H x y v u Q I rx ry h;obtain ⟨p,xs,rfl,hq,fx,fs,q⟩:=h;cases ry;rcases hq with hq | hq
  · obtain ⟨its,r,pl,hz⟩:=I.list hq;refine SeqAt.notIn_listAt (eqU x) pl.isList (λ w hw=>Ey rx fx r fs w (by simpa using hw)) ⟨.bl _,H,I,rfl,?_⟩;rw [show its.toArray.any (eqU x)=its.any (eqU x) by simp,FL r fs];exact q
  · obtain ⟨its,r,pl,hz⟩:=I.tuple hq;refine SeqAt.notIn_tupleAt (eqU x) pl (λ w hw=>Ey rx fx r fs w (by simpa using hw)) ⟨.bl _,H,I,rfl,?_⟩;rw [show its.toArray.any (eqU x)=its.any (eqU x) by simp,FL r fs];exact q
theorem Kf:BR X (.type "list") (λ xs H Q=>∃ p ys,xs=[.ref p]/\(SqL X.K H p ys\/SqT X.K H p ys)/\∀ l,H l=none->Q (.ref l) (upd H l (.lst ys))):=by
  intro pins s σ H xs us Q I r h;obtain ⟨p,ys,rfl,hq,q⟩:=h;obtain ⟨u,rfl,rx⟩:=Ig r;cases rx;have fin:∀ (its:List Value),Vals ys its->ys.length<=sizeLine->∀ (h':Heap) (c':Nat),(∀ b o',s.heap.get? b=some o'->h'.get? b=some o')->
      h'.get? s.heap.objs.size=some { cls:= .type "list",dict:=none,data:= .seq its.toArray c',slots:= #[] }->EP X pins σ Q (.ref s.heap.objs.size) { s with heap:=h' }:=λ its r' hz h' c' kp e=>
    ⟨.ref s.heap.objs.size,_,I.laid (t':=s.toks) kp (Nat.le_refl _) (show ObjOk X.prog X.w _ h' _ (.lst ys) from ⟨hz,its,c',r',e⟩),rfl,q _ (I.hok.fresh (Nat.le_refl _))⟩
  rcases hq with hq | hq
  · obtain ⟨its,r',pl,hz⟩:=I.list hq;have hlen:=r'.length;obtain ⟨o,ho,hc,n,hd⟩:=pl.isList;exact call_list_seq p (.inl rfl) ho hc hd (λ h' c' kp e=>fin its r' hz h' c' kp e) (by simp only [List.size_toArray] <;> omega)
  · obtain ⟨its,r',pl,hz⟩:=I.tuple hq;have hlen:=r'.length;obtain ⟨o,ho,hc,n,hd⟩:=pl;exact call_list_seq p (.inr rfl) ho hc hd (λ h' c' kp e=>fin its r' hz h' c' kp e) (by simp only [List.size_toArray] <;> omega)
theorem Ja:BR X (.type "tuple") (λ xs H Q=>∃ p ys,xs=[.ref p]/\((SqL X.K H p ys/\∀ l,H l=none->Q (.ref l) (upd H l (.tup ys)))\/(SqT X.K H p ys/\Q (.ref p) H))):=by
  intro pins s σ H xs us Q I r h;obtain ⟨p,ys,rfl,h⟩:=h;obtain ⟨u,rfl,rx⟩:=Ig r;cases rx;rcases h with ⟨hq,q⟩ | ⟨hq,q⟩
  · obtain ⟨its,r',pl,hz⟩:=I.list hq;have hlen:=r'.length;refine call_tuple_list pl.isList (λ h' kp=> ?_) (by simp only [List.size_toArray] <;> omega);have I1:Inv X pins σ H { s with heap:=h' }:=I.kept (t':=s.toks) kp;have I2:Inv X pins σ (upd H h'.objs.size (.tup ys)) { s with heap:=h'.push { cls:= .type "tuple",data:= .seq its.toArray } }:=
      I1.laid (t':=s.toks) (λ b o e=>Heap.get?_push_of_some _ e) (Nat.le_refl _) (show ObjOk X.prog X.w _ _ _ (.tup ys) from ⟨hz,its,r',IsTup.new _ _⟩)
    exact ⟨.ref h'.objs.size,_,I2,rfl,q _ (I1.hok.fresh (Nat.le_refl _))⟩
  · obtain ⟨its,r',pl,hz⟩:=I.tuple hq;exact call_tuple_same pl ⟨.ref p,H,I,rfl,q⟩
def tyV (K:PySem.W.Frag) (T:String) (x:V) (H:Hp):Prop:=match x with
  | .str _=>T="str"
  | .int _=>T="int"
  | .ref p=>(T="list"/\∃ xs,SqL K H p xs)\/(T="tuple"/\∃ o,K.lookup p=some o/\o.cls= .type "tuple"/\o.dict=none)\/
      (T="dict"/\((∃ kvs,H p=some (.dK kvs))\/∃ kvs,H p=some (.dT kvs)))\/(T="set"/\∃ S n,H p=some (.set S n))
  | _=>False
theorem PX {pins:List (Addr × Obj)} {σ:St} {H:Hp} {s:Shared} {T:String} {x:V} {v:Value} (I:Inv X pins σ H s) (r:RelV x v) (ty:tyV X.K T x H):
    s.TypeIs v T/\∀ a,v= .ref a->∃ ob,s.heap.get? a=some ob/\ob.dict=none:=by
  cases x with
  | str z=>
    obtain ⟨t,rfl⟩:=r;cases (show T="str" from ty);exact ⟨typeIs_str s z t,λ _ e=>nomatch e⟩
  | int i=>
    obtain ⟨t,rfl⟩:=r;cases (show T="int" from ty);exact ⟨typeIs_int s i t,λ _ e=>nomatch e⟩
  | ref p=>
    cases r;rcases ty with ⟨rfl,xs,hq⟩ | ⟨rfl,o,hk,hc,hd⟩ | ⟨rfl,hk⟩ | ⟨rfl,S,n,hk⟩
    · obtain ⟨its,_,pl,_⟩:=I.list hq;refine ⟨pl.isList.typeIs,λ a e=> ?_⟩;cases e;obtain ⟨o,n,e,c,hd,_⟩:=pl;exact ⟨o,e,hd⟩
    · refine ⟨⟨o,I.kIn p o hk,hc⟩,λ a e=> ?_⟩;cases e;exact ⟨o,I.kIn _ o hk,hd⟩
    · have z:∃ o,s.heap.get? p=some o/\o.ExactDict:=by
        rcases hk with ⟨kvs,hk⟩ | ⟨kvs,hk⟩
        · obtain ⟨_,_,_,_,o,_,_,e,ex,_⟩:=I.hok p _ hk;exact ⟨o,e,ex⟩
        · obtain ⟨_,_,_,_,o,_,_,e,ex,_⟩:=I.hok p _ hk;exact ⟨o,e,ex⟩
      obtain ⟨o,e,ex⟩:=z;refine ⟨⟨o,e,ex.1⟩,λ a e2=> ?_⟩;cases e2;exact ⟨o,e,ex.2.1⟩
    · obtain ⟨o,_,_,_,e,ex,_⟩:=I.hok p _ hk;refine ⟨⟨o,e,ex.1⟩,λ a e2=> ?_⟩;cases e2;exact ⟨o,e,ex.2.1⟩
  | _=>exact False.elim ty
def SH (K:PySem.W.Frag) (T:String) (r:V->List V->Hp->VK->Prop) (to:TE):TE:=λ σ H Q=>to σ H λ x H1=>tyV K T x H1/\r x [] H1 Q
def tBM (K:PySem.W.Frag) (T:String) (r:V->List V->Hp->VK->Prop) (to:TE) (t:TA):TE:=λ σ H Q=>to σ H λ x H1=>tyV K T x H1/\t σ H1 λ xs H2=>r x xs H2 Q
variable {o e:Expr} {es:List Expr} {to:TE} {t:TA} {name:Str} {apos cpos:Pos} {T id:String} {r:V->List V->Hp->VK->Prop}
theorem S8 (pa:PlainAttrs T) (slot:Slot T name id) (hty:typeOf (.builtin id)=pure (.type "method_descriptor")) (hm:MtR X id r) (ho:PE X o to)
    (hbase:attributeBase o name X.env (eval o X.env)=eval o X.env:=by rfl) (hline:(apos.endLine == cpos.line)=true:=by rfl):PE X (.Call (.Attribute o name apos) [] [] cpos) (SH X.K T r to):=by
  intro pins s σ H Q I h;refine wpAny_Call_method0_late hbase hline (thn (ho pins s σ H _ I h) λ v s1 ⟨x,H1,I1,r1,ty,q1⟩=> ?_);obtain ⟨h1,h2⟩:=PX I1 r1 ty;exact ⟨T,id,pa,slot,hty,h1,h2,Calls.callWith_builtin rfl (PySem.evalArgs_none (hm pins s1 σ H1 x [] v [] Q I1 r1 .nil q1))⟩
theorem XU (pa:PlainAttrs T) (slot:Slot T name id) (hty:typeOf (.builtin id)=pure (.type "method_descriptor")) (hm:MtR X id r) (ho:PE X o to) (ha:PA X (e::es) t)
    (hbase:attributeBase o name X.env (eval o X.env)=eval o X.env:=by rfl)
    (hfew:((backTo cpos (starEach (e::es) X.env)).all (λ x=> !x.1)&&(backToKw cpos (keywordEach [] X.env)).all (λ x=>x.1.isSome)
      && decide ((e::es).length+([]:List Keyword).length+(if ([]:List Keyword).isEmpty then 0 else 1)<30))=true:=by rfl)
    (hline:(apos.endLine == cpos.line)=true:=by rfl) (hs:starEach (e::es) X.env=(false,eval e X.env)::starEach es X.env:=by rfl) (hplain:(backTo cpos (starEach es X.env)).any (·.1)=false:=by rfl):
    PE X (.Call (.Attribute o name apos) (e::es) [] cpos) (tBM X.K T r to t):=by
  intro pins s σ H Q I h;refine wpAny_Call_method_late hbase hfew hline rfl (thn (ho pins s σ H _ I h) λ v s1 ⟨x,H1,I1,r1,ty,q1⟩=> ?_);obtain ⟨h1,h2⟩:=PX I1 r1 ty;refine ⟨T,id,pa,slot,hty,h1,h2,?_⟩;have hA:=ha cpos pins s1 σ H1 _ I1 q1;rw [hs] at hA ⊢;refine Calls.callWith_builtin (by show (false||(backTo cpos (starEach es X.env)).any (·.1))=false;rw [hplain] <;> rfl) (Calls.evalArgs_plain ?_);exact thn hA λ us s2 ⟨vs,H2,I2,r2,q2⟩=>hm pins s2 σ H2 x vs v us Q I2 r1 r2 q2
end
def MtM (X:Cx) (id:String) (r:V->List V->Hp->VK->Prop):Prop:=
  ∀ (pins:List (Addr × Obj)) (s:Shared) (σ:St) (H:Hp) (x:V) (xs:List V) (v:Value) (us:List Value) (Q:VK),Inv X pins σ H s->RelV x v->Vals xs us->r x xs H Q->
    wpAny (model X.prog X.w) X.A (call (.builtin id) (v::us)) (EP X pins σ Q) X.xe s
theorem Vals.one:∀ {x:V} {us:List Value},Vals [x] us->∃ u,us=[u]/\RelV x u
  | _,_, .cons r .nil=>⟨_,rfl,r⟩
theorem Vals.zero:∀ {us:List Value},Vals [] us->us=[]
  | _, .nil=>rfl
theorem Vals.reverse {xs:List V} {us:List Value} (h:Vals xs us):Vals xs.reverse us.reverse:=by
  induction h with
  | nil=>exact .nil
  | cons r t ih=>rw [List.reverse_cons,List.reverse_cons];exact Vals.append ih (.cons r .nil)
theorem Vals.rep {xs:List V} {us:List Value} (h:Vals xs us):∀ k:Nat,Vals (List.replicate k xs).flatten (List.replicate k us).flatten
  | 0=> .nil
  | k+1=>by
    rw [List.replicate_succ,List.replicate_succ,List.flatten_cons,List.flatten_cons];exact Vals.append h (Vals.rep h k)
theorem JL (its:List Value):∀ (k:Nat) (acc:List Value),
    List.foldl (λ x1 x2=>x1++x2) acc.toArray (List.replicate k its.toArray)=(acc++(List.replicate k its).flatten).toArray
  | 0,acc=>by simp
  | k+1,acc=>by
    have e:acc.toArray++its.toArray=(acc++its).toArray:=by simp
    have e2:(acc++its)++(List.replicate k its).flatten=acc++(List.replicate (k+1) its).flatten:=by
      rw [List.replicate_succ,List.flatten_cons,List.append_assoc]
    rw [<-e2, <-JL its k (acc++its), <-e,List.replicate_succ,List.foldl_cons]
section
variable {X:Cx} {pins:List (Addr × Obj)} {σ:St} {H:Hp} {s:Shared} {l b:Addr} {xs ys zs:List V}
theorem Inv.lset {its its':List Value} {n:Nat} {f:Array Value->Array Value} {t':Nat} (I:Inv X pins σ H s) (hH:H l=some (.lst xs))
    (e:s.heap.get? l=some { cls:= .type "list",data:= .seq its.toArray n }) (hf:f its.toArray=its'.toArray) (hv:Vals ys its') (hz:ys.length<=sizeLine):
    Inv X pins σ (upd H l (.lst ys)) { s with heap:=s.heap.update l (Obj.mapSeq f),toks:=t' }:=by
  have q:=PySem.IsL.update e f;rw [hf] at q;refine I.write (x:=l) (e:=l) (by rw [hH];exact trivial) (.inl rfl) (λ b' u hb hu=>(Heap.get?_update_other s.heap (Obj.mapSeq f) (Ne.symm hb)).trans hu) ⟨_,q⟩ ?_;exact ⟨hz,its',_,hv,q⟩
theorem Inv.lnew {its:List Value} {t':Nat} (I:Inv X pins σ H s) (hv:Vals ys its) (hz:ys.length<=sizeLine):
    Inv X pins σ (upd H s.heap.objs.size (.lst ys)) { s with heap:=s.heap.push { cls:= .type "list",data:= .seq its.toArray },toks:=t' }:=
  I.laid (λ _ _ q=>Heap.get?_push_of_some _ q) (Nat.le_refl _) ⟨hz,its,0,hv,Heap.get?_push_size _ rfl⟩
theorem Inv.fresh (I:Inv X pins σ H s):H s.heap.objs.size=none:=I.hok.fresh (Nat.le_refl _)
theorem Inv.lstM (I:Inv X pins σ H s) (hH:H l=some (.lst xs)):xs.length<=sizeLine/\∃ (its:List Value) (n:Nat),Vals xs its/\xs.length=its.length/\s.heap.get? l=some { cls:= .type "list",data:= .seq its.toArray n }:=by
  obtain ⟨z,its,n,r,e⟩:=I.hok l _ hH;exact ⟨z,its,n,r,r.length,e⟩
theorem PJ {n:Nat} (h:n<=sizeLine):Builtin.List.listTooLong n=false:=by
  unfold Builtin.List.listTooLong;exact decide_eq_false (by omega)
end
section
variable {X:Cx}
def rAppend:V->List V->Hp->VK->Prop:=λ x vs H Q=>∃ l xs y,x= .ref l/\vs=[y]/\H l=some (.lst xs)/\xs.length<sizeLine/\Q .non (upd H l (.lst (xs++[y])))
theorem Gu:MtM X "list.append" rAppend:=by
  intro pins s σ H x vs v us Q I rx rv h;obtain ⟨l,xs,y,rfl,rfl,hH,hz,q⟩:=h;cases rx;obtain ⟨u,rfl,ru⟩:=rv.one;obtain ⟨z,its,n,r,hl,e⟩:=I.lstM hH;refine call_meets F.slot_list_append ⟨_,e,rfl⟩ F.entry_list_append (F.args_list_append_2 _ _) (PySem.list_append l its.toArray n u (by rw [List.size_toArray];omega)) ⟨e,?_⟩;refine ⟨.non,_,I.lset (its':=its++[u]) hH e (by simp) (r.append (.cons ru .nil)) ?_,rfl,q⟩;rw [List.length_append,List.length_singleton];omega
def Vx:R2:=λ x y H Q=>∃ l k xs,x= .ref l/\y= .int k/\H l=some (.lst xs)/\ -(2 ^ 63)<=k/\k<2 ^ 63/\xs.length*k.toNat<=sizeLine/\
  ∀ p,H p=none->Q (.ref p) (upd H p (.lst (List.replicate k.toNat xs).flatten))
theorem QL {α:Type} (xs:List α) (k:Nat):(List.replicate k xs).flatten.length=k*xs.length:=by
  induction k with
  | zero=>simp
  | succ k ih=>rw [List.replicate_succ,List.flatten_cons,List.length_append,ih,Nat.succ_mul,Nat.add_comm]
theorem Sm:OpR X (binaryOp .Mult) Vx:=by
  intro pins s σ H x y v u Q I rx ry h;obtain ⟨l,k,xs,rfl,rfl,hH,h1,h2,hz,q⟩:=h;cases rx;obtain ⟨t,rfl⟩:=ry;obtain ⟨z,its,n,r,hl,e⟩:=I.lstM hH;have hlen:its.toArray.size*k.toNat<=sizeLine:=by rw [List.size_toArray, <-hl];exact hz
  have hcap:¬ its.toArray.size*k.toNat>(2 ^ 63 - 1) / 8:=by
    have:(sizeLine:Nat)<=(2 ^ 63 - 1) / 8:=by decide
    omega
  have hfit:¬ (!Builtin.List.listFitsIndex k)=true:=by
    rw [fitsIndex_both h1 h2];exact Bool.false_ne_true
  have hlong:¬ Builtin.List.listTooLong (its.toArray.size*k.toNat)=true:=by
    rw [PJ hlen];exact Bool.false_ne_true
  have hnew:List.foldl (λ x1 x2=>x1++x2) #[] (List.replicate (if its.toArray.isEmpty=true then 0 else k.toNat) its.toArray)=(List.replicate k.toNat its).flatten.toArray:=by
    have f0:∀ m:Nat,List.foldl (λ x1 x2=>x1++x2) #[] (List.replicate m its.toArray)=(List.replicate m its).flatten.toArray:=λ m=>by
      have:=JL its m [];rw [List.nil_append] at this;exact this
    rw [f0];cases its with
    | nil=>simp
    | cons a r'=>rw [if_neg (by simp)]
  refine wpAny_binaryOp_repeat_ref (T:="list") (U:="int") (by decide) ⟨_,e,rfl⟩ (λ s'=>typeIs_int s' k t) noFill_list_mul F.fills_int_mul F.slot_int_rmul repeat_list F.slot_int_index.lookup
    (call_meets F.slot_int_rmul (typeIs_int s k t) F.entry_int_rmul (F.args_int_rmul_2 _ _) (int___rmul___int_list k t l its.toArray n)
      ⟨e,rfl,⟨_,e,rfl⟩,call_meets F.slot_list_mul ⟨_,e,rfl⟩ F.entry_list_mul (F.args_list_mul_2 _ _) (AutoListH.list___mul___list_int_3 l its.toArray n k t hfit hcap hlong) ⟨e,?_⟩⟩)
  rw [hnew];exact ⟨.ref _,_,I.lnew (t':=s.toks) (r.rep k.toNat) (by rw [QL,Nat.mul_comm];exact hz),rfl,q _ I.fresh⟩
end
section
variable {prog:Program} {w:World} {A:Around} {E:Value->Shared->Prop} {s:Shared}
end
section
variable {X:Cx}
end
end L2
namespace Att
open PySem PySem.W PySem.Calls PyProof.Rows
theorem G0 {P:Params} {h:Heap}:∀ (ns:List Int) (vs:List Value),WellAll P h vs (ns.map WData.int)->IntsAre vs ns:=by
  intro ns
  induction ns with
  | nil=>
    intro vs w;rw [List.map_nil] at w;cases w;exact .nil
  | cons n ns ih=>
    intro vs w;rw [List.map_cons] at w;cases w with
    | cons a b=>
      cases a;exact .cons _ _ (ih _ b)
theorem NI {l:OpenLaw} {n:Nat} (hn:l.most=some n) {P:Params} {h:Heap} {args:List WData} {vals:List Value}
    (hpre:l.row.toRowW.claim.pre args=true) (hwl:WellAll P h vals args):
    ∃ a vs ns,vals=[Value.ref a]/\args=[WData.list (ns.map WData.int)]/\h.get? a=some { cls:= .type "list",data:= .seq vs.toArray }/\IntsAre vs ns/\ns.length<=n:=by
  have hsh:WShape.hasAll [] args [.list .int]=true:=(pre_splitW hpre).1;have hc:l.pre.holds [] { args:=args }=true:=(pre_splitW hpre).2;obtain ⟨d,r,rfl,h1,h2⟩:=hasAllW_cons hsh;obtain rfl:=hasAllW_nil h2;obtain ⟨xs,rfl,h3⟩:=hasW_list h1;obtain ⟨ns,rfl⟩:=items_int h3;have hlen:ns.length<=n:=by
    unfold OpenLaw.pre at hc;have h4:(WTm.not (.lt (.lit (.int (n:Int))) (.len (.arg 0)))).holds [] { args:=[.list (ns.map .int)] }=true:=by
      have h4:=(holds_andW hc).1;rw [hn] at h4;exact h4
    have h5:=condW_of h4 (w_not (w_lt w_lit (w_len_list (w_arg rfl))));rw [List.length_map] at h5;refine Nat.le_of_not_lt λ q=> ?_;have q':(n:Int)<((ns.length:Nat):Int):=by omega
    first
      | (rw [decide_eq_true q'] at h5;exact absurd h5 (by decide))
      | (simp at h5;omega)
  cases hwl with
  | cons w1 w2=>
    cases w2;cases w1 with
    | list ho hall=>exact ⟨_,_,ns,rfl,rfl,ho,G0 ns _ hall,hlen⟩
theorem N4 (l:OpenLaw) (args:List WData):l.row.toRowW.claim.post args (.bool true) args=true:=
  postW_of (r:=l.row.toRowW) (X:=(true == true))
    (show WShape.has [] (.bool true) .bool=true by first | rfl | decide | simp [WShape.has,WShape.arms,WShape.armsAll])
    (show (WTm.eq .res (.lit (.bool true))).value [] { args:=args,res:=some (.bool true),after:=args }=some (.bool (true == true)) from w_eq_bool (w_res rfl) w_lit) rfl
theorem attach_call {l:OpenLaw} {n:Nat} {q:Program} {loose:List Str} {XP:(Str->Option Value)->Heap->Prop} {YP:World->Heap->Prop} {d:DefRec}
    (hn:l.most=some n) (hdf:d.params.defaults=[])
    (call:∀ (w:World) (s₀ s₁:Shared) (mg mb:Str->Option Value) (fa:Addr) (o:Obj) (pm cd doc:Value) (a:Addr) (vs:List Value) (ns:List Int),
      Ground q loose [] XP w s₀ mg mb s₁.heap->YP w s₁.heap->
      s₁.heap.get? fa=some o->o.data= .func (docDef d.name d.params d.body d.scope pm cd doc)->s₁.heap.CodeRec cd d.name->mg d.name=some (.ref fa)->
      s₁.heap.get? a=some { cls:= .type "list",data:= .seq vs.toArray }->IntsAre vs ns->ns.length<=n->s₁.gens= #[]->
      codeAny (model l.prog w) callerA (.call (.ref fa) ⟨[.ref a],[]⟩) (λ r s'=>r= .ok (.ret (.bool true))/\OldK s₁.heap s'.heap/\s'.os=s₁.os/\AllBare s'.gens) s₁):
    WalkO q loose XP YP l.row.toRowW d [] (λ f vs=>PySem.call f vs):=by
  intro w s₀ s₁ mg mb G Y fa o pm cd doc dV kV ho hd hcd hD hmg hg args vals as hpre hlay hrd hwl hlo;obtain rfl:dV= .none:=Dflts.none hD hdf;obtain rfl:kV= .none:=Dflts.noKw hD;obtain ⟨a,vs,ns,rfl,rfl,hobj,hints,hlen⟩:=NI hn hpre hwl;refine enter_call (codeAny_mono (call w s₀ s₁ mg mb fa o pm cd doc a vs ns G Y ho (fd_plain hd) hcd hmg hobj hints hlen hg) λ r s' hq=> ?_);obtain ⟨rfl,h2,h3,h4⟩:=hq;exact ⟨.inl ⟨.bool true, .bool true,[],rfl,λ _=>rfl, .bool true,N4 l _,λ _=>⟨List.Pairwise.nil,λ _ hm=>(nomatch hm)⟩⟩,h2,h3,h4⟩
section
variable {prog:Program} {w:World} {A:Around} {E:Value->Shared->Prop} {s:Shared} {K:Frag}
end
end Att
namespace L2
open PySem PySem.Spec PyProof.Rows
theorem Jw:∀ {vs:List Value} {ns:List Int},IntsAre vs ns->Vals (ns.map V.int) vs
  | _,_, .nil=> .nil
  | _,_, .cons n t h=> .cons ⟨t,rfl⟩ (Jw h)
def SZ (H:Hp):Prop:=∀ b,H b=none\/∃ o xs,H b=some (.frz o (.lst xs))
theorem OU {P:Program} {w:World} {K:PySem.W.Frag} {mg mb:Str->Option Value} {CX:CXT} {k:Nat} {fa a:Addr} {fd:FuncData} {x:Str} {sp:Sp} {s₁:Shared} {vs:List Value} {ns:List Int}
    (KX:K.In s₁.heap) (hns:s₁.heap.Ns mainGlobals mg) (hb:s₁.heap.Ns builtinsNs mb) (hbb:∀ x:Str,x≠"__name__"->mb x=bootBuiltins x) (hlim:s₁.heap.NoLimit) (hg:s₁.gens= #[])
    (ha:s₁.heap.get? a=some { cls:= .type "list",data:= .seq vs.toArray }) (hi:IntsAre vs ns) (hl:ns.length<=sizeLine) (hr:Room k callerA)
    (F:∀ base:Heap,K.In base->base.Ns mainGlobals mg->FnOk P w K mg base CX k fa fd [x] sp) (hbind:∀ (s:Shared) (u:Value),BindsTo s fd ⟨[u],[]⟩ [(x,u)])
    (hsp:∀ H:Hp,SZ H->SqL K H a (ns.map V.int)->sp [.ref a] H (λ v _=>v= .bl true) λ _ _ _=>False)
    (hCX:∀ H e s',CX [] H s₁ (λ _ _ _=>False) e s'->False):
    codeAny (model P w) callerA (.call (.ref fa) ⟨[.ref a],[]⟩) (λ r s'=>r= .ok (.ret (.bool true))/\OldK s₁.heap s'.heap/\s'.os=s₁.os/\AllBare s'.gens) s₁:=by
  have rv:=Jw hi;have lenV:=hi.length;have core:∀ H:Hp,SZ H->SqL K H a (ns.map V.int)->HOk P w H s₁.heap->(∀ b,H b≠none->b=a)->(H a≠none->K.lookup a=none)->
      codeAny (model P w) callerA (.call (.ref fa) ⟨[.ref a],[]⟩) (λ r s'=>r= .ok (.ret (.bool true))/\OldK s₁.heap s'.heap/\s'.os=s₁.os/\AllBare s'.gens) s₁:=by
    intro H hO hS hok hA hK;have base_of:∀ {b:Addr} {o:Obj},s₁.heap.get? b=some o->H b=none->(J2 s₁.heap H).get? b=some o:=λ e n=>PB e n;have noA:∀ {b:Addr} {o:Obj} {es:Array DictEntry} {ep:Nat},s₁.heap.get? b=some o->o.data= .dict es ep->H b=none:=λ {b o es ep} e d=>by
      cases q:H b with
      | none=>rfl
      | some u=>
        have e':b=a:=hA b (by rw [q];simp);subst e';rw [ha] at e;cases e;have d':Data.seq vs.toArray _=Data.dict es ep:=d;cases d'
    have nsK:∀ {b:Addr} {m:Str->Option Value},s₁.heap.Ns b m->(J2 s₁.heap H).Ns b m:=λ {b m} ⟨o,es,ep,e,d,r⟩=>⟨o,es,ep,base_of e (noA e d),d,r⟩;have hKb:K.In (J2 s₁.heap H):=λ b o e=>base_of (KX b o e) (by
      cases q:H b with
      | none=>rfl
      | some u=>
        have e':b=a:=hA b (by rw [q];simp);subst e';rw [hK (by rw [q];simp)] at e;cases e)
    have hM:Mod K mg (J2 s₁.heap H):=⟨hKb,nsK hns,⟨mb,nsK hb,hbb⟩,let ⟨mc,h1,h2⟩:=hlim;⟨mc,nsK h1,h2⟩⟩;have e0:Env0 P w K mg (J2 s₁.heap H) callerA [] s₁ H:=⟨rfl,hM,λ b o e=>Rg e,Nat.le_of_eq (Oa _ _),trivial,λ b hb=>absurd (show b∈([]:List Addr) from hb) (by simp),hok, .of_eq hg⟩;refine codeAny_mono ((F _ hKb (nsK hns)).run callerA [] s₁ H ⟨[.ref a],[]⟩ [.ref a] [.ref a] _ _ hr e0 (hbind s₁ (.ref a)) (.cons rfl .nil) (hsp H hO hS)) λ r s' h=> ?_;cases r with
    | error e=>exact (hCX H e s' h).elim
    | ok fl=>
      cases fl with
      | next=>exact False.elim h
      | brk=>exact False.elim h
      | cont=>exact False.elim h
      | ret u=>
        obtain ⟨v,H',os,bare,un,hok',r',q⟩:=h;have q':v= .bl true:=q;subst q';obtain rfl:u=Value.bool true:=r';refine ⟨rfl,OldK.of_keep λ b o e=> ?_,os,bare⟩;cases q:H b with
        | none=>exact un.keep b o e q (by intro z;exact absurd (show b∈([]:List Addr) from z) (by simp)) (by simp)
        | some u=>
          rcases hO b with z | ⟨ob,xs,z⟩
          · rw [q] at z;cases z
          · have z2:=un.frzs b ob _ z;obtain ⟨e1,_⟩:=hok b _ z;obtain ⟨e2,_⟩:=hok' b _ z2;rw [e] at e1;cases e1;exact e2
  cases hk:K.lookup a with
  | some o=>
    have e:=KX a o hk;rw [ha] at e;cases e;refine core (λ _=>none) (λ _=> .inl rfl) (.inr ⟨_,vs.toArray,_,hk,rfl,rfl,rfl,by rw [List.size_toArray,lenV];exact hl,by simpa using rv⟩) (λ b u z=>by have z':(none:Option HO)=some u:=z;cases z') (λ b z=>absurd rfl z) λ z=>absurd rfl z
  | none=>
    refine core (λ b=>if b=a then some (.frz { cls:= .type "list",data:= .seq vs.toArray } (.lst (ns.map V.int))) else none) (λ b=> ?_) (.inl (.inr ⟨{ cls:= .type "list",data:= .seq vs.toArray },if_pos rfl⟩)) (λ b u z=> ?_) (λ b z=> ?_) λ _=>hk
    · by_cases hb:b=a
      · exact .inr ⟨_,_,if_pos hb⟩
      · exact .inl (if_neg hb)
    · by_cases hb:b=a
      · have z':=(if_pos hb).symm.trans z;cases z';subst hb;exact ⟨ha,by rw [List.length_map];exact hl,vs,_,rv,ha⟩
      · have z':=(if_neg hb).symm.trans z;cases z'
    · by_cases hb:b=a
      · exact hb
      · exact absurd (if_neg hb) z
theorem walk_of {l:PySem.W.OpenLaw} {n k:Nat} {q:Program} {loose:List Str} {XP:(Str->Option Value)->Heap->Prop} {YP:World->Heap->Prop} {d:DefRec} {K:Params->PySem.W.Frag} {CX:World->CXT} {sp:World->Sp} {x:Str}
    (hn:l.most=some n) (hn2:n<=sizeLine) (hdf:d.params.defaults=[]) (hr:Room k callerA)
    (hY:∀ (w:World) (h:Heap),YP w h->(K w.params).In h)
    (F:∀ (w:World) (mg:Str->Option Value) (fa:Addr) (h:Heap),(K w.params).In h->h.Ns mainGlobals mg->mg d.name=some (.ref fa)->
      ∃ fd:FuncData,(∀ (s:Shared) (u:Value),BindsTo s fd ⟨[u],[]⟩ [(x,u)])/\
        ∀ base:Heap,(K w.params).In base->base.Ns mainGlobals mg->FnOk l.prog w (K w.params) mg base (CX w) k fa fd [x] (sp w))
    (hsp:∀ (w:World) (H:Hp) (a:Addr) (ns:List Int),ns.length<=n->SZ H->SqL (K w.params) H a (ns.map V.int)->sp w [.ref a] H (λ v _=>v= .bl true) λ _ _ _=>False)
    (hCX:∀ (w:World) (H:Hp) (s:Shared) (e:Value) (s':Shared),CX w [] H s (λ _ _ _=>False) e s'->False):
    PySem.W.WalkO q loose XP YP l.row.toRowW d [] (λ f vs=>PySem.call f vs):=by
  refine Att.attach_call hn hdf λ w s₀ s₁ mg mb fa o pm cd doc a vs ns G Y ho hd hcd hmg hobj hints hlen hg=> ?_;have KX:=hY w _ Y;obtain ⟨fd,hb,hF⟩:=F w mg fa _ KX G.T.g hmg;exact OU KX G.T.g G.T.b G.T.builtins G.T.nolimit hg hobj hints (Nat.le_trans hlen hn2) hr hF hb (λ H hO hS=>hsp w H a ns hlen hO hS) λ H e s'=>hCX w H s₁ e s'
abbrev CX0:CXT:=λ _ _ _ _ _ _=>False
abbrev E0:XK:=λ _ _ _=>False
theorem ME {X:Cx}:BA CX0 X E0:=λ _ _ _ _ _ _ _ h=>h.elim
structure Fun (K:PySem.W.Frag) (x qual:Str) (st:Stmt) (f:Addr) (fd:FuncData):Prop where
  ex:∃ (oc:Value) (od:Option Addr) (kV doc pm:Value) (an:Option Addr) (cdv ct:Value) (osl:Array (Option Value)),
    fd=PySem.W.fnOf x qual (FJ st) (DC st) (Ah st) .none kV doc pm an cdv ct/\K.lookup f=some ⟨oc,od, .func fd,osl⟩/\PySem.W.codeIn K cdv qual=true
  kp:PySem.W.keepIn K (.ref f)=true
section
variable {P:Program} {w:World} {K:PySem.W.Frag} {mg:Str->Option Value} {base:Heap}
theorem Fun.ok {x qual:Str} {st:Stmt} {f:Addr} {fd:FuncData} {N ps:List Str} {k:Nat} {sp:Sp} (F:Fun K x qual st f fd) (S:FnScope N ps (Ah st)) (len:∀ vs H Q E,sp vs H Q E->vs.length=ps.length)
    (hbody:∀ (cdv:Value) (A:Around) (outer:List Env) (s:Shared) (H:Hp) (vs:List V) (Q:VK) (E:XK),Room k (A.deeper (envOfC qual (Ah st) s.heap.objs.size f cdv))->sp vs H Q E->
      ∃ t,PSs (B0 CX0 P w K mg base N qual (Ah st) f cdv A outer s H E).nox (DC st) t/\t { nx:=λ _ H'=>Q .non H',rt:=Q } (start N vs) H):FnOk P w K mg base CX0 (k+1) f fd ps sp:=by
  obtain ⟨oc,od,kV,doc,pm,an,cdv,ct,osl,rfl,lk,hcd⟩:=F.ex;refine RW lk hcd S len λ A outer s H vs Q E hr hsp=> ?_;obtain ⟨t,h,q⟩:=hbody cdv A outer s H vs Q E hr hsp;exact ⟨t,h.nox,q⟩
theorem fun_mk {x qual:Str} {st:Stmt} {f:Addr} {oc:Value} {od an:Option Addr} {osl:Array (Option Value)} {kV doc pm cdv ct:Value} (l:K.lookup f=some ⟨oc,od, .func (PySem.W.fnOf x qual (FJ st) (DC st) (Ah st) .none kV doc pm an cdv ct),osl⟩)
    (c:PySem.W.codeIn K cdv qual=true) (k:PySem.W.keepIn K (.ref f)=true):Fun K x qual st f (PySem.W.fnOf x qual (FJ st) (DC st) (Ah st) .none kV doc pm an cdv ct):=⟨⟨oc,od,kV,doc,pm,an,cdv,ct,osl,rfl,l,c⟩,k⟩
end
section
variable {X:Cx}
theorem pv (i:Nat) {x:Str} {pos:Pos} (hN:X.N[i]?=some x:=by rfl) (hv:Vis X.env.scope x:=by first | exact Or.inl rfl | exact Or.inr (Or.inl rfl) | exact Or.inr (Or.inr rfl)) (hd:(x == ("__debug__":Str))=false:=by decide)
    (hcd:(x == ("__classdict__":Str))=false:=by decide):PE X (.Name x pos) (TQ i):=TX hN hv hd hcd
end
theorem BN {A B:Prop} (h:B):if false=true then A else B:=by
  rw [if_neg Bool.false_ne_true];exact h
theorem ES {A B:Prop} (h:A):if true=true then A else B:=by
  rw [if_pos rfl];exact h
def Same (H H':Hp):Prop:=∀ b o,H b=some o->H' b=some o
theorem Same.refl (H:Hp):Same H H:=λ _ _ h=>h
theorem Same.trans {H H1 H2:Hp} (a:Same H H1) (b:Same H1 H2):Same H H2:=λ c o h=>b c o (a c o h)
theorem Same.free {H H':Hp} (e:Same H H') {l:Addr} (h:H' l=Option.none):H l=Option.none:=by
  cases q:H l with
  | none=>rfl
  | some o=>
    rw [e l o q] at h;cases h
theorem Same.seq {K:PySem.W.Frag} {H H':Hp} {a:Addr} {xs:List V} (e:Same H H') (h:SqL K H a xs):SqL K H' a xs:=by
  rcases h with (h | ⟨o,h⟩) | h
  · exact .inl (.inl (e _ _ h))
  · exact .inl (.inr ⟨o,e _ _ h⟩)
  · exact .inr h
section
variable {κ:Type} [DecidableEq κ]
noncomputable def HS (kvs:List (κ × V)) (k:κ):Option V:=(kvs.find? λ kv=>decide (kv.1=k)).map (·.2)
noncomputable def HK (kvs:List (κ × V)) (k:κ) (v:V):List (κ × V):=
  if (kvs.any λ kv=>decide (kv.1=k))=true then kvs.map (λ kv=>if kv.1=k then (kv.1,v) else kv) else kvs++[(k,v)]
theorem Lz {p:κ × V} {r:List (κ × V)} {k:κ} (e:p.1=k):HS (p::r) k=some p.2:=by simp [HS,List.find?_cons,e]
theorem Lq {p:κ × V} {r:List (κ × V)} {k:κ} (e:¬ p.1=k):HS (p::r) k=HS r k:=by simp [HS,List.find?_cons,e]
theorem GO (kvs:List (κ × V)) (k:κ) (v:V):(HK kvs k v).length<=kvs.length+1:=by
  unfold HK;split
  · rw [List.length_map];omega
  · rw [List.length_append,List.length_cons,List.length_nil];omega
theorem KV.val {kvs:List (κ × V)} {vs:List (κ × Value)} (r:KV kvs vs) (k:κ):RelO (HS kvs k) (valueAt vs k):=by
  unfold KV at r
  induction r with
  | nil=>exact True.intro
  | @cons p q ps qs h t ih=>
    obtain ⟨h1,h2⟩:=h;by_cases e:p.1=k
    · have e':q.1=k:=h1.symm.trans e;have b:valueAt (q::qs) k=some q.2:=by simp [valueAt,List.find?_cons,e']
      rw [Lz e,b];exact h2
    · have e':¬ q.1=k:=λ z=>e (h1.trans z);have b:valueAt (q::qs) k=valueAt qs k:=by simp [valueAt,List.find?_cons,e']
      rw [Lq e,b];exact ih
theorem KV.any {kvs:List (κ × V)} {vs:List (κ × Value)} (r:KV kvs vs) (k:κ):(kvs.any λ kv=>decide (kv.1=k))=vs.any λ kv=>decide (kv.1=k):=by
  unfold KV at r
  induction r with
  | nil=>rfl
  | cons h t ih=>rw [List.any_cons,List.any_cons,ih,h.1]
theorem KV.repl {kvs:List (κ × V)} {vs:List (κ × Value)} (r:KV kvs vs) (k:κ) {y:V} {u:Value} (ry:RelV y u):
    KV (kvs.map λ kv=>if kv.1=k then (kv.1,y) else kv) (vs.map λ kv=>if kv.1=k then (kv.1,u) else kv):=by
  unfold KV at r ⊢
  induction r with
  | nil=>exact .nil
  | @cons p q ps qs h t ih=>
    rw [List.map_cons,List.map_cons];refine .cons ?_ ih;obtain ⟨h1,h2⟩:=h;by_cases e:p.1=k
    · rw [if_pos e,if_pos (h1.symm.trans e)];exact ⟨h1,ry⟩
    · rw [if_neg e,if_neg (λ z=>e (h1.trans z))];exact ⟨h1,h2⟩
theorem KV.put {kvs:List (κ × V)} {vs:List (κ × Value)} (r:KV kvs vs) (k:κ) {y:V} {u:Value} (ry:RelV y u):KV (HK kvs k y) (stored vs k u):=by
  unfold HK stored;rw [r.any k];by_cases e:(vs.any λ kv=>decide (kv.1=k))=true
  · rw [if_pos e,if_pos e];exact r.repl k ry
  · rw [if_neg e,if_neg e];exact Paired.snoc r ⟨rfl,ry⟩
theorem KV.length {kvs:List (κ × V)} {vs:List (κ × Value)} (r:KV kvs vs):kvs.length=vs.length:=Paired.length r
end
theorem My {P:Program} {w:World} {k:Key} {u:Value} (r:RelV (kV k) u):(Bb P w).is k u=true:=by
  cases k with
  | inl i=>obtain ⟨t,e⟩:=(show ∃ t,u=Value.int i t from r);subst e;exact K3 P w i t
  | inr x=>obtain ⟨t,e⟩:=(show ∃ t,u=Value.str x t from r);subst e;exact K2 P w x t
theorem Jz {P:Program} {w:World}:∀ {ks:List Key} {us:List Value},Vals (ks.map kV) us->ItemsAre (Bb P w) ks us
  | [],_,r=>by rw [List.map_nil] at r;cases r;exact .nil
  | k::ks,_,r=>by
    rw [List.map_cons] at r;cases r with
    | cons h t=>exact .cons (My h) (Jz t)
abbrev KT (H:Hp):List (List Key × V)->List (List Key × Addr × Value)->Prop:=Paired λ p q=>p.1=q.1/\H q.2.1=some (.tup (p.1.map kV))/\RelV p.2 q.2.2
theorem KT.val {H:Hp} {kvs:List (List Key × V)} {xs:List (List Key × Addr × Value)} (r:KT H kvs xs) (k:List Key):RelO (HS kvs k) ((atKey xs k).map (·.2)):=by
  induction r with
  | nil=>exact True.intro
  | @cons p q ps qs h t ih=>
    obtain ⟨h1,_,h2⟩:=h;by_cases e:p.1=k
    · have e':q.1=k:=h1.symm.trans e;have b:atKey (q::qs) k=some q.2:=by simp [atKey,List.find?_cons,e']
      rw [Lz e,b];exact h2
    · have e':¬ q.1=k:=λ z=>e (h1.trans z);have b:atKey (q::qs) k=atKey qs k:=by simp [atKey,List.find?_cons,e']
      rw [Lq e,b];exact ih
section
variable {P:Program} {w:World} {H:Hp} {h:Heap} {a:Addr}
theorem R3 {u:HO} (ok:HOk P w H h) (e:Rd H a u):ObjOk P w H h a u:=e.ok ok
theorem PP {kvs:List (Key × V)} (ok:HOk P w H h) (e:Rd H a (.dK kvs)):kvs.length<=sizeLine/\(a == sysModules)=false/\∃ vs,KV kvs vs/\h.DictOf (Bb P w) a vs:=
  show ObjOk P w H h a (.dK kvs) from R3 ok e
theorem Nm {kvs:List (Key × V)} (ok:HOk P w H h) (e:H a=some (.dK kvs)):kvs.length<=sizeLine/\(a == sysModules)=false/\∃ vs,KV kvs vs/\h.DictOf (Bb P w) a vs:=PP ok (.inl e)
theorem Pl {ks:List Key} (ok:HOk P w H h) (e:H a=some (.tup (ks.map kV))):(tupleKind (Bb P w)).is h ks a:=by
  obtain ⟨_,its,r,o,h1,h2,n,h3⟩:=(show ObjOk P w H h a (.tup (ks.map kV)) from ok a _ e);exact ⟨o,its.toArray,n,h1,h2,h3,by simpa using Jz r⟩
theorem RO {kvs:List (List Key × V)} (ok:HOk P w H h) (e:Rd H a (.dT kvs)):kvs.length<=sizeLine/\(a == sysModules)=false/\
    ∃ xs,KT H kvs xs/\h.DictOfH (tupleKind (Bb P w)) a xs:=by
  obtain ⟨z,y,xs,r,o,es,ep,h1,h2,h3,h4,h5⟩:=(show ObjOk P w H h a (.dT kvs) from R3 ok e);refine ⟨z,y,xs,r,o,es,ep,h1,h2,h3,h4,λ x hx=> ?_,h5⟩;have all:∀ {l:List (List Key × V)} {m:List (List Key × Addr × Value)},KT H l m->∀ x∈m,(tupleKind (Bb P w)).is h x.1 x.2.1:=by
    intro l m q
    induction q with
    | nil=>intro x hx;exact nomatch hx
    | @cons p q ps qs hq t ih=>
      intro x hx;rcases List.mem_cons.mp hx with e | hx
      · subst e;exact Pl ok (by rw [<-hq.1];exact hq.2.1)
      · exact ih x hx
  exact all r x hx
end
def DGet (H:Hp) (a:Addr) (y:V) (r:Option V):Prop:=
  (∃ kvs k,Rd H a (.dK kvs)/\y=kV k/\r=HS kvs k)\/∃ kvs k b,Rd H a (.dT kvs)/\y= .ref b/\H b=some (.tup (k.map kV))/\r=HS kvs k
theorem DGet.k {H:Hp} {a:Addr} {kvs:List (Key × V)} {k:Key} (e:H a=some (.dK kvs)):DGet H a (kV k) (HS kvs k):= .inl ⟨kvs,k, .inl e,rfl,rfl⟩
section
variable {X:Cx} {pins:List (Addr × Obj)} {σ:St} {H:Hp} {s:Shared} {a:Addr} {y v:V} {u r:Value} {o:Option V} {A:Around} {E:Value->Shared->Prop}
theorem Inv.big (I:Inv X pins σ H s):sysModules<s.heap.objs.size:=by
  have h:mainGlobals<s.heap.objs.size:=(I.mod.glob.keeps I.bk).lt;exact Nat.lt_trans (by decide) h
theorem NC {Q:Value->Shared->Prop} (hu:A.units+1<cLine) (I:Inv X pins σ H s) (g:DGet H a y (some v)) (ry:RelV y u) (h:∀ w' s',Inv X pins σ H s'->RelV v w'->Q w' s'):
    wpAny (model X.prog X.w) A (getItem (.ref a) u) Q E s:=by
  rcases g with ⟨kvs,k,e,ey,l⟩ | ⟨kvs,k,b,e,ey,eb,l⟩
  · subst ey;obtain ⟨z,hd,vs,rel,dd⟩:=PP I.hok e;obtain ⟨w',hw,rw'⟩:=RelO.some_of (v:=v) (o:=valueAt vs k) (by rw [l];exact rel.val k);exact wpAny_getItem_of (My ry) dd.mapOf hw (h w' _ (I.tok _) rw')
  · subst ey;cases (show u=Value.ref b from ry);obtain ⟨z,hd,xs,rel,dd⟩:=RO I.hok e;obtain ⟨w',hw,rw'⟩:=RelO.some_of (v:=v) (o:=(atKey xs k).map (·.2)) (by rw [l];exact rel.val k);obtain ⟨p,hp,hp2⟩:=Option.map_eq_some_iff.mp hw;refine wpAny_getItem_heap (tupleKind_room_in1 hu) (Pl I.hok eb) dd hp ?_;rw [hp2];exact h w' _ (I.tok _) rw'
theorem Kg {h':Heap} {t':Nat} {ob:HO} (I:Inv X pins σ H s) (mu:Mut (H a)) (hs:Heap.SameBut a s.heap h') (he:∃ q,h'.get? a=some q) (new:ObjOk X.prog X.w (upd H a ob) h' a ob):
    Inv X pins σ (upd H a ob) { s with heap:=h',toks:=t' }:=
  I.write (x:=a) (e:=a) mu (.inl rfl) (λ b q hb z=>(hs.2 b hb).trans z) he new
theorem LV {P:Program} {w:World} {H':Hp} {h':Heap} {kvs:List (Key × V)} {vs:List (Key × Value)} (z:kvs.length<=sizeLine) (hd:(a == sysModules)=false) (rel:KV kvs vs) (dd:h'.DictOf (Bb P w) a vs):
    ObjOk P w H' h' a (.dK kvs):=⟨z,hd,vs,rel,dd⟩
end
section
variable {X:Cx} {pins:List (Addr × Obj)} {σ:St} {H:Hp} {s:Shared} {a:Addr} {kvs:List (Key × V)} {k:Key} {u:Value} {A:Around} {E:Value->Shared->Prop}
end
def W4 (i:Expr):Prop:=∀ ov iv,subscripted i false ov iv=operate [ov,iv] (getItem ov iv)
theorem Rv {prog:Program} {w:World} {A:Around} {E:Value->Shared->Prop} {s:Shared} {env:Env} {value slice:Expr} {pos:Pos} {T id:String} {Q:Value->Shared->Prop}
    (hl:typeLookup (.type T) "__getitem__"=pure (some (.builtin id))) (hs:W4 slice)
    (h:wpAny (model prog w) A (eval value env) (λ o s₁=>wpAny (model prog w) A (eval slice env) (λ i s₂=>s₂.TypeIs o T/\wpAny (model prog w) A (getItem o i) Q E s₂) E s₁) E s):
    wpAny (model prog w) A (eval (.Subscript value slice pos) env) Q E s:=by
  refine Subscript_ (wpAny_mono h (λ o s₁ h₁=>wpAny_mono h₁ (λ i s₂ h₂=> ?_) λ _ _ x=>x) λ _ _ x=>x);obtain ⟨hT,h₂⟩:=h₂;unfold subscriptTail;refine wpAny_bind ?_;rw [getitemInPython_of_ne hT.not_modules];refine wpAny_bind (wpAny_specialOf hT hl ?_);have fin:wpAny (model prog w) A (subscripted slice false o i) (λ r s₃=>wpAny (model prog w) A (letTemporaryGo value o r >>= λ _=>pure r) Q E s₃) E s₂:=by
    rw [hs o i];exact wpAny_operating (wpAny_mono h₂ (λ r s₃ h₃=>wpAny_bind (wpAny_letTemporaryGo (wpAny_pure h₃))) λ _ _ x=>x)
  first
    | exact wpAny_pure (wpAny_bind fin)
    | exact wpAny_bind (wpAny_pure (wpAny_bind fin))
    | exact wpAny_bind fin
theorem KN {X:Cx} {pins:List (Addr × Obj)} {σ:St} {H:Hp} {s:Shared} {a:Addr} {y:V} {o:Option V} (I:Inv X pins σ H s) (g:DGet H a y o):s.TypeIs (.ref a) "dict":=by
  rcases g with ⟨kvs,k,e,_,_⟩ | ⟨kvs,k,b,e,_,_,_⟩
  · obtain ⟨_,_,vs,_,dd⟩:=PP I.hok e;exact dd.typeIs
  · obtain ⟨_,_,xs,_,dd⟩:=RO I.hok e;exact dd.typeIs
def RN (td ty:TE):TE:=λ σ H Q=>td σ H λ x H1=>ty σ H1 λ y H2=>∃ a v,x= .ref a/\DGet H2 a y (some v)/\Q v H2
section
variable {X:Cx} {o i e value:Expr} {pos pos' tpos:Pos} {td ty tv:TE}
theorem DV (hu:X.A.units+1<cLine) (ho:PE X o td) (hi:PE X i ty) (hs:W4 i):PE X (.Subscript o i pos) (RN td ty):=by
  intro pins s σ H Q I h;refine Rv PySem.F.slot_dict_getitem.lookup hs (thn (ho pins s σ H _ I h) λ u s1 ⟨x,H1,I1,rx,q1⟩=>thn (hi pins s1 σ H1 _ I1 q1) λ iv s2 ⟨y,H2,I2,ry,a,v,ex,g,q2⟩=> ?_);subst ex;obtain rfl:u=Value.ref a:=rx;exact ⟨KN I2 g,NC hu I2 g ry λ w' s3 I3 rw'=>⟨v,H2,I3,rw',q2⟩⟩
end
theorem Lj {P:Program} {w:World} {H:Hp} (h:Heap) (hb:sysModules<h.objs.size):ObjOk P w H (h.push { cls:= .type "dict",data:= .dict #[] }) h.objs.size (.dK []):=
  ⟨Nat.zero_le _,beq_eq_false_iff_ne.mpr (Ne.symm (Nat.ne_of_lt hb)),[], .nil,Heap.DictOf.new h⟩
section
variable {X:Cx} {pos:Pos}
end
def Fe:List (TE × TE)->St->Hp->(List (V × V)->Hp->Prop)->Prop
  | [],_,H,Q=>Q [] H
  | (tk,tv)::r,σ,H,Q=>tk σ H λ x H1=>tv σ H1 λ y H2=>Fe r σ H2 λ ps H3=>Q ((x,y)::ps) H3
abbrev VV:List (V × V)->List (Value × Value)->Prop:=Paired λ p q=>RelV p.1 q.1/\RelV p.2 q.2
def PPs (X:Cx) (pos:Pos) (keys:List (Option Expr)) (values:List Expr) (trs:List (TE × TE)):Prop:=
  ∀ (pins:List (Addr × Obj)) (s:Shared) (σ:St) (H:Hp) (Q:List (V × V)->Hp->Prop),Inv X pins σ H s->Fe trs σ H Q->
    wpAny (model X.prog X.w) X.A (evalPairs (pairTrees keys values X.env pos)) (λ vs s'=>∃ ps H',Inv X pins σ H' s'/\VV ps vs/\Q ps H') X.xe s
theorem Ks {X:Cx} {pos:Pos}:PPs X pos [] [] []:=λ pins s σ H Q I h=>pairTrees_nil_walk ⟨[],H,I, .nil,h⟩
theorem Ej {X:Cx} {pos:Pos} {k v:Expr} {ks:List (Option Expr)} {vs:List Expr} {tk tv:TE} {trs:List (TE × TE)} (hk:PE X k tk) (hv:PE X v tv) (hr:PPs X pos ks vs trs):
    PPs X pos (some k::ks) (v::vs) ((tk,tv)::trs):=λ pins s σ H Q I h=>
  pairTrees_cons_walk (thn (hk pins s σ H _ I h) λ u s1 ⟨x,H1,I1,rx,q1⟩=>thn (hv pins s1 σ H1 _ I1 q1) λ w2 s2 ⟨y,H2,I2,ry,q2⟩=>
    thn (hr pins s2 σ H2 _ I2 q2) λ ws s3 ⟨ps,H3,I3,rel,q3⟩=>⟨(x,y)::ps,H3,I3, .cons ⟨rx,ry⟩ rel,q3⟩)
noncomputable def AK (kvs more:List (Key × V)):List (Key × V):=more.foldl (λ acc kv=>HK acc kv.1 kv.2) kvs
theorem KV.merge:∀ {more:List (Key × V)} {rs:List (Key × Value)} {kvs:List (Key × V)} {vs:List (Key × Value)},KV more rs->KV kvs vs->KV (AK kvs more) (merged vs rs):=by
  intro more rs kvs vs r;unfold KV at r
  induction r generalizing kvs vs with
  | nil=>intro q;exact q
  | @cons p q ps qs h t ih=>
    intro r0;have e:KV (HK kvs p.1 p.2) (stored vs q.1 q.2):=by
      have:=r0.put p.1 h.2;rw [<-h.1];exact this
    exact ih e
theorem Bx:∀ (more kvs:List (Key × V)),(AK kvs more).length<=kvs.length+more.length
  | [],kvs=>by show kvs.length<=kvs.length+0;omega
  | p::r,kvs=>by
    have h1:=Bx r (HK kvs p.1 p.2);have h2:=GO kvs p.1 p.2;show (AK (HK kvs p.1 p.2) r).length<=_;rw [List.length_cons];omega
theorem HY {P:Program} {w:World}:∀ {kvs:List (Key × V)} {ws:List (Value × Value)},VV (kvs.map λ kv=>(kV kv.1,kv.2)) ws->∃ rs,Carries (Bb P w) ws rs/\KV kvs rs
  | [],_,r=>by rw [List.map_nil] at r;cases r;exact ⟨[],True.intro, .nil⟩
  | p::kvs,_,r=>by
    rw [List.map_cons] at r;cases r with
    | @cons a b as bs h t=>
      obtain ⟨rs,c,q⟩:=HY (P:=P) (w:=w) t;obtain ⟨b1,b2⟩:=b;exact ⟨(p.1,b2)::rs,⟨My h.1,rfl,c⟩, .cons ⟨rfl,h.2⟩ q⟩
def Sk (trs:List (TE × TE)):TE:=λ σ H Q=>∀ p,H p=none->Fe trs σ (upd H p (.dK [])) λ ps H2=>H2 p=some (.dK [])/\∃ kvs:List (Key × V),ps=kvs.map (λ kv=>(kV kv.1,kv.2))/\kvs.length<=15/\Q (.ref p) (upd H2 p (.dK (AK [] kvs)))
theorem JP {X:Cx} {pos:Pos} {keys:List (Option Expr)} {values:List Expr} {trs:List (TE × TE)} (h:PPs X pos keys values trs) (hall:keys.all (·.isSome)=true) (hl:keys.length=values.length) (h0:keys≠[])
    (h15:keys.length<=15):PE X (.Dict keys values pos) (Sk trs):=by
  intro pins s σ H Q I q;have hn:=I.hok.fresh (Nat.le_refl s.heap.objs.size);have I1:=I.laid (a:=s.heap.objs.size) (o:= .dK []) (h':=s.heap.push { cls:= .type "dict",data:= .dict #[] }) (t':=s.toks) (λ _ _ q=>Heap.get?_push_of_some _ q) (Nat.le_refl _) (Lj s.heap I.big);refine wpAny_Dict_walk (knd:=Bb X.prog X.w) hall hl h0 h15 (thn (h pins _ σ _ _ I1 (q _ hn)) λ ws s2 ⟨ps,H2,I2,rel,e,kvs,ep,lk,q2⟩=> ?_);subst ep;obtain ⟨rs,c,rk⟩:=HY (P:=X.prog) (w:=X.w) rel;obtain ⟨z,hd,vs0,r0,dd⟩:=Nm I2.hok e;cases r0;refine ⟨rs,c,dd,λ h' dd' hs=>⟨.ref s.heap.objs.size,_,?_,rfl,q2⟩⟩;have hz:(AK [] kvs).length<=sizeLine:=by
    have h1:=Bx kvs [];rw [List.length_nil] at h1;rw [sizeLine_eq];omega
  have he:∃ q,h'.get? s.heap.objs.size=some q:=let ⟨q,_,_,hq,_⟩:=dd';⟨q,hq⟩;exact Kg I2 (by rw [e];exact True.intro) hs he (LV hz hd (rk.merge .nil) dd')
structure M1 (X:Cx) (o:Expr) (m:Str) (apos:Pos) (e:Expr) (cpos:Pos):Prop where
  base:attributeBase o m X.env (eval o X.env)=eval o X.env
  few:((backTo cpos (starEach [e] X.env)).all (λ x=> !x.1)&&(backToKw cpos (keywordEach [] X.env)).all (λ x=>x.1.isSome)
    && decide (([e]:List Expr).length+([]:List Keyword).length+(if ([]:List Keyword).isEmpty then 0 else 1)<30))=true
  line:(apos.endLine == cpos.line)=true
  trees:backTo cpos (starEach [e] X.env)=[(false,eval e X.env)]
structure M2 (X:Cx) (o:Expr) (m:Str) (apos:Pos) (e f:Expr) (cpos:Pos):Prop where
  base:attributeBase o m X.env (eval o X.env)=eval o X.env
  few:((backTo cpos (starEach [e,f] X.env)).all (λ x=> !x.1)&&(backToKw cpos (keywordEach [] X.env)).all (λ x=>x.1.isSome)
    && decide (([e,f]:List Expr).length+([]:List Keyword).length+(if ([]:List Keyword).isEmpty then 0 else 1)<30))=true
  line:(apos.endLine == cpos.line)=true
  trees:backTo cpos (starEach [e,f] X.env)=[(false,eval e X.env),(false,eval f X.env)]
section
variable {X:Cx} {pins:List (Addr × Obj)} {σ:St} {H:Hp} {s:Shared} {a:Addr} {y d:V} {u r:Value} {o:Option V} {A:Around} {E:Value->Shared->Prop}
end
section
variable {X:Cx} {o e f:Expr} {apos cpos:Pos} {td ty tx:TE}
end
section
variable {X:Cx} {pins:List (Addr × Obj)} {σ:St} {H:Hp} {s:Shared} {a:Addr} {kvs:List (Key × V)} {A:Around} {E:Value->Shared->Prop}
end
section
variable {X:Cx} {pins:List (Addr × Obj)} {σ:St} {H:Hp} {s:Shared} {a:Addr} {y:V} {u:Value} {A:Around} {E:Value->Shared->Prop}
end
section
variable {P:Program} {w:World} {K:PySem.W.Frag} {mg:Str->Option Value} {base:Heap}
end
section
variable {X:Cx}
end
section
variable {κ:Type} [DecidableEq κ]
end
noncomputable def AB (cells:List (Str × Addr)):List (Str × NameKind)->List (Str × Addr)->List (Str × Addr)
  | [],acc=>acc
  | (n,k)::r,acc=>AB cells r (if k= .free then (match cells.lookup n with | some a=>(n,a)::acc | none=>acc) else acc)
theorem E5 {env:Env}:∀ (names:List (Str × NameKind)) (acc:List (Str × Addr)),(∀ y∈names,y.2= .free->∃ c,env.cells.lookup y.1=some c)->
    (forIn names acc λ (x:Str × NameKind) (r:List (Str × Addr))=>
      (if (x.2 == NameKind.free)=true then (do let a <-cellOf env x.1;pure (ForInStep.yield ((x.1,a)::r))) else pure (ForInStep.yield r):Sem (ForInStep (List (Str × Addr)))))=(pure (AB env.cells names acc):Sem (List (Str × Addr)))
  | [],acc,_=>rfl
  | (n,k)::rest,acc,h=>by
    rw [List.forIn_cons];have ih:=λ acc'=>E5 (env:=env) rest acc' λ y hy=>h y (List.mem_cons_of_mem _ hy);by_cases hk:k= .free
    · subst hk;obtain ⟨c,hc⟩:=h (n, .free) List.mem_cons_self rfl;have hc:env.cells.lookup n=some c:=hc;have e:cellOf env n=pure c:=by unfold cellOf;rw [hc]
      simp only [beq_self_eq_true,if_true,e,pure_bind,AB,hc];exact ih _
    · have hb:(k == NameKind.free)=false:=by simpa using hk
      simp only [hb,Bool.false_eq_true,if_false,pure_bind,AB,if_neg hk];exact ih _
theorem CY {env:Env} {scope:Scope} (h:∀ y∈scope.names,y.2= .free->∃ c,env.cells.lookup y.1=some c):closureFor scope env=pure (AB env.cells scope.names []):=by
  have e:=E5 (env:=env) scope.names [] h;unfold closureFor;simp only [bind_pure_comp,bind_pure,map_pure] at*;exact e
theorem Fx {cells:List (Str × Addr)}:∀ (names:List (Str × NameKind)) (acc:List (Str × Addr)),(∀ x c,acc.lookup x=some c->cells.lookup x=some c)->∀ x c,(AB cells names acc).lookup x=some c->cells.lookup x=some c
  | [],acc,h,x,c,e=>h x c e
  | (n,k)::r,acc,h,x,c,e=>by
    refine Fx r _ ?_ x c e;intro y d q;split at q
    · split at q
      · rename_i a ha
        rw [List.lookup_cons] at q;split at q
        · rename_i hy
          cases q;rw [eq_of_beq hy];exact ha
        · exact h y d q
      · exact h y d q
    · exact h y d q
theorem Fj {cells:List (Str × Addr)}:∀ (names:List (Str × NameKind)) (acc:List (Str × Addr)) (x:Str),(((x,NameKind.free)∈names/\∃ c,cells.lookup x=some c)\/∃ c,acc.lookup x=some c)->∃ c,(AB cells names acc).lookup x=some c
  | [],acc,x,h=>by
    rcases h with ⟨h,_⟩ | h
    · cases h
    · exact h
  | (n,k)::r,acc,x,h=>by
    refine Fj r _ x ?_;have up:(∃ c,acc.lookup x=some c)->∃ c,(if k= .free then (match cells.lookup n with | some a=>(n,a)::acc | none=>acc) else acc).lookup x=some c:=by
      rintro ⟨c,hc⟩;split
      · split
        · rename_i a ha
          rw [List.lookup_cons];split
          · exact ⟨_,rfl⟩
          · exact ⟨c,hc⟩
        · exact ⟨c,hc⟩
      · exact ⟨c,hc⟩
    rcases h with ⟨h,c,hc⟩ | h
    · rcases List.mem_cons.mp h with e | e
      · cases e;right;refine ⟨c,?_⟩;rw [if_pos rfl,hc,List.lookup_cons,beq_self_eq_true]
      · exact .inl ⟨e,c,hc⟩
    · exact .inr (up h)
theorem Dz (env:Env) (x:Str):∀ names:List (Str × NameKind),
    (names.map λ (n,k)=>if (k == NameKind.free&&env.scope.kind == .function&&env.kindOf n == some .cell) then (n,NameKind.cell) else (n,k)).lookup x=
      (names.lookup x).map λ k=>if (k == NameKind.free&&env.scope.kind == .function&&env.kindOf x == some .cell)=true then NameKind.cell else k
  | []=>rfl
  | (n,k)::r=>by
    have ih:=Dz env x r;show List.lookup x ((if (k == NameKind.free&&env.scope.kind == .function&&env.kindOf n == some .cell)=true then (n,NameKind.cell) else (n,k))::_)=_;cases hx:x == n with
    | true=>
      have e:x=n:=eq_of_beq hx;subst e;by_cases hc:(k == NameKind.free&&env.scope.kind == .function&&env.kindOf x == some .cell)=true
      · rw [if_pos hc,List.lookup_cons,List.lookup_cons,beq_self_eq_true];simp only [Option.map_some,if_pos hc]
      · rw [if_neg hc,List.lookup_cons,List.lookup_cons,beq_self_eq_true];simp only [Option.map_some,if_neg hc]
    | false=>
      have e:(List.lookup x ((n,k)::r))=List.lookup x r:=by rw [List.lookup_cons,hx]
      rw [e, <-ih];split <;> rw [List.lookup_cons,hx]
structure BlkScope (X:Cx) (scope:Scope) (own:List Str) (fr:List (Str × Nat)):Prop where
  kind:scope.kind= .function
  nocell:∀ y∈scope.names,y.2≠ .cell
  loc:∀ y∈scope.names,y.2= .local->scope.names.lookup y.1=some .local
  free:∀ y∈scope.names,y.2= .free->(X.env.scope.names.lookup y.1=some .cell\/X.env.scope.names.lookup y.1=some .free)
  fr:∀ p∈fr,X.N[p.2]?=some p.1/\(p.1,NameKind.free)∈scope.names
  only:∀ x,(x,NameKind.free)∈scope.names->scope.names.lookup x=some .free
noncomputable def A8 (X:Cx) (scope:Scope) (own:List Str) (fr:List (Str × Nat)) (C:Addr) (ex:List Addr) (s:Shared) (H:Hp):Cx where
  prog:=X.prog
  w:=X.w
  K:=X.K
  mg:=X.mg
  base:=X.base
  A:=X.A
  N:=own++fr.map (·.1)
  s₀:=s
  H₀:=H
  env:=compEnvC scope (AB X.env.cells scope.names []) C X.env
  outer:=X.stack
  stack:=X.stack
  ex:=ex
  fn:=λ _=>false
  calm:=X.calm
  pn:=[]
  xe:=λ _ _=>False
noncomputable def Cr (own:List Str) (fr:List (Str × Nat)) (σ:St):St:=own.map (λ _=>none)++fr.map (λ p=>(σ[p.2]?).getD none)
section
variable {X:Cx} {pins:List (Addr × Obj)} {σ:St} {H:Hp} {s:Shared} {scope:Scope} {own:List Str} {fr:List (Str × Nat)} {fp:List Addr}
theorem BlkScope.cells (S:BlkScope X scope own fr) (ok:X.Ok):∀ y∈scope.names,y.2= .free->∃ c,X.env.cells.lookup y.1=some c:=λ y hy e=>ok.has y.1 (S.free y hy e)
theorem Inv.block {h':Heap} {t':Nat} {m:Str->Option Value} (I:Inv X pins σ H s) (S:BlkScope X scope own fr) (hf:∀ b∈fp,Cj X pins H b) (hlt:∀ b∈fp,b<s.heap.objs.size)
    (hns:h'.Ns s.heap.objs.size m) (k:∀ b o,s.heap.get? b=some o->h'.get? b=some o):
    Inv (A8 X scope own fr s.heap.objs.size fp s H) [] (Cr own fr σ) H { s with heap:=h',toks:=t' }:=by
  have cs:∀ x c,(AB X.env.cells scope.names []).lookup x=some c->X.env.cells.lookup x=some c:=Fx _ _ (λ _ _ e=>by simp at e);have ck:∀ c v,s.heap.IsCell c v->h'.IsCell c v:=λ c v ⟨o,ho,hd⟩=>⟨o,k _ _ ho,hd⟩;have kf:∀ x,(x,NameKind.free)∈scope.names->∃ c,X.env.cells.lookup x=some c/\(AB X.env.cells scope.names []).lookup x=some c:=λ x hx=>by
    obtain ⟨c0,e0⟩:=S.cells I.ok (x, .free) hx rfl;obtain ⟨c,e⟩:=Fj (cells:=X.env.cells) scope.names [] x (.inl ⟨hx,c0,e0⟩);exact ⟨c,cs _ _ e,e⟩
  have rel:∀ x,(compEnvC scope (AB X.env.cells scope.names []) s.heap.objs.size X.env).kindOf x=(scope.names.lookup x).map λ k=>if (k == NameKind.free&&X.env.scope.kind == .function&&X.env.kindOf x == some .cell)=true then NameKind.cell else k:=λ x=>Dz X.env x scope.names
  have nc:∀ x,scope.names.lookup x≠some .cell:=λ x e=>S.nocell _ (PySem.mem_of_lookup e) rfl;refine ⟨⟨I.ok.mod,S.kind,I.ok.glob,I.ok.blt,Nat.le_refl _,λ x y c e1 e2=>I.ok.inj x y c (cs _ _ e1) (cs _ _ e2),λ x hx=> ?_,λ x c e _=>(nomatch e),I.ok.hd,I.ok.frames, .inl rfl,
    λ b hb=>⟨Nat.ne_of_lt (hlt b hb),λ x c e=>(hf b hb).2.2.2.2.1 x c (cs _ _ e)⟩,I.bs,Nat.le_trans I.ok.bsz I.sz,λ b o e hb=> ?_,λ b hb z=>(List.mem_cons.mp (I.stkSub b z)).elim (hf b hb).2.1 (hf b hb).2.2.1,I.stack,I.stkFree⟩,
    rfl,I.bare,Un.kept k,⟨m,hns,λ i x v e1 e2 e3=> ?_⟩,λ x c e=> ?_,I.hok.fresh (Nat.le_refl _),λ x c e=>I.freeC x c (cs _ _ e),λ p hp=>absurd (show p∈([]:List (Addr × Obj)) from hp) (by simp),I.hok.kept k,?_⟩
  · have hx:(compEnvC scope (AB X.env.cells scope.names []) s.heap.objs.size X.env).kindOf x=some .cell\/(compEnvC scope (AB X.env.cells scope.names []) s.heap.objs.size X.env).kindOf x=some .free:=hx;rw [rel x] at hx;have q:scope.names.lookup x=some .free:=by
      cases e:scope.names.lookup x with
      | none=>rw [e] at hx;simp at hx
      | some kk=>
        rw [e] at hx;simp only [Option.map_some,Option.some.injEq] at hx;by_cases hk:kk= .free
        · rw [hk]
        · have hb:(kk == NameKind.free)=false:=by simpa using hk
          simp only [hb,Bool.false_and,Bool.false_eq_true,if_false] at hx;rcases hx with hx | hx
          · rw [hx] at e;exact absurd e (nc x)
          · exact absurd hx hk
    obtain ⟨c,_,e⟩:=kf x (PySem.mem_of_lookup q);exact ⟨c,e⟩
  · rcases (hf b hb).2.2.2.1 with z | z
    · exact I.ok.noex b o e z
    · exact absurd (Nat.lt_of_lt_of_le (Heap.lt_size (I.ok.bs b o e).1) z) (Nat.lt_irrefl _)
  · have e1:(own++fr.map (·.1))[i]?=some x:=e1;have e2:(Cr own fr σ)[i]?=some (some v):=e2;unfold Cr at e2;by_cases hi:i<own.length
    · rw [List.getElem?_append_left (by simpa using hi),List.getElem?_map] at e2;rw [List.getElem?_eq_getElem hi] at e2;simp at e2
    · rw [List.getElem?_append_right (by simpa using hi),List.getElem?_map,List.length_map] at e2;rw [List.getElem?_append_right (by omega),List.getElem?_map] at e1;cases ep:fr[i - own.length]? with
      | none=>rw [ep] at e1;simp at e1
      | some p=>
        rw [ep] at e1 e2;simp only [Option.map_some,Option.some.injEq] at e1 e2;subst e1;obtain ⟨h1,h2⟩:=S.fr p (List.mem_of_getElem? ep);have e4:σ[p.2]?=some (some v):=by
          cases q:σ[p.2]? with
          | none=>rw [q] at e2;simp at e2
          | some z=>rw [q] at e2;simp at e2;rw [e2]
        have kx:=S.free _ h2 rfl;obtain ⟨m0,hn0,hl0⟩:=I.loc;obtain ⟨u,r,l⟩:=hl0 p.2 p.1 v h1 e4 (kx.elim (λ z=> .inr (.inl z)) λ z=> .inr (.inr z));refine ⟨u,r,?_⟩;rcases l with ⟨z,_⟩ | ⟨_,c,hc,hcell⟩
        · have z:X.env.scope.names.lookup p.1=some .local:=z;rcases kx with y | y <;> (rw [y] at z;cases z)
        · obtain ⟨c',q1,q2⟩:=kf p.1 h2;rw [hc] at q1;cases q1;refine .inr ⟨?_,c,q2,ck _ _ hcell⟩;show (compEnvC scope (AB X.env.cells scope.names []) s.heap.objs.size X.env).kindOf p.1=some .cell\/(compEnvC scope (AB X.env.cells scope.names []) s.heap.objs.size X.env).kindOf p.1=some .free;have e3:(compEnvC scope (AB X.env.cells scope.names []) s.heap.objs.size X.env).kindOf p.1=some .local\/(compEnvC scope (AB X.env.cells scope.names []) s.heap.objs.size X.env).kindOf p.1=some .cell\/(compEnvC scope (AB X.env.cells scope.names []) s.heap.objs.size X.env).kindOf p.1=some .free:=e3;rcases e3 with e3 | e3
          · exfalso;rw [rel] at e3;cases e:scope.names.lookup p.1 with
            | none=>rw [e] at e3;cases e3
            | some kk=>
              rw [e] at e3;simp only [Option.map_some,Option.some.injEq] at e3;by_cases hk:kk= .free
              · subst hk;split at e3 <;> cases e3
              · have hb:(kk == NameKind.free)=false:=by simpa using hk
                simp only [hb,Bool.false_and,Bool.false_eq_true,if_false] at e3;subst e3;have:=S.only p.1 h2;rw [this] at e;cases e
          · exact e3
  · obtain ⟨v,z⟩:=I.cell x c (cs _ _ e);exact ⟨v,ck _ _ z⟩
  · unfold Cr;show _=(own++fr.map (·.1)).length;simp
end
theorem GQ {prog:Program} {w:World} {A:Around} {R:Result->Shared->Prop} {s:Shared} {elt target iter:Expr} {ifs:List Expr} {scope:Scope} {pos:Pos} {it acc:Value} {env:Env} (I:Nat->Shared->Prop)
    (turn:∀ n s,I n s->wpAny (model prog w) A (pyNext it) (λ r s₁=>match r with
      | none=>R (.ok .next) s₁
      | some v=>wpAny (model prog w) A (letOwnedTupleGo target it v) (λ _ s₁'=>wpAny (model prog w) A (assign target env v) (λ _ s₂=>
          wpAny (model prog w) A (forIn ifs true λ c r=>if r=true then do let ok <-isTrue c env (eval c env);pure (ForInStep.yield ok) else pure (ForInStep.yield r)) (λ ok s₃=>
            if ok=true then wpAny (model prog w) A (eval elt env) (λ x s₄=>
              wpAny (model prog w) A (call (.builtin "list.append") [acc,x]) (λ _ s₅=>∃ m,m<n/\I m s₅) (λ _ _=>False) s₄) (λ _ _=>False) s₃
            else ∃ m,m<n/\I m s₃) (λ _ _=>False) s₂) (λ _ _=>False) s₁') (λ _ _=>False) s₁) (λ _ _=>False) s)
    (n:Nat) (h:I n s):codeAny (model prog w) A (.compLoop (.ListComp elt [⟨target,iter,ifs,0⟩] scope pos) 0 it acc env) R s:=by
  refine codeAny_loop rfl I (λ n s hI=> ?_) n h;show wpAny _ A ((compTurn (.ListComp elt [⟨target,iter,ifs,0⟩] scope pos) 0 it acc env).onRaise (λ x=>do noteFrame x env;theTreesLotGoes x)) _ _ s;refine wpAny_noted ?_;rw [compTurn_list];refine wpAny_bind (wpAny_standAt (wpAny_bind (wpAny_mono (turn n s hI) (λ r s₁ h₁=> ?_) λ _ _ f=>f.elim)));cases r with
  | none=>exact wpAny_pure h₁
  | some v=>
    refine wpAny_bind (wpAny_mono h₁ (λ _ s₁' h₁'=>wpAny_bind (wpAny_mono h₁' (λ _ s₂ h₂=>wpAny_bind (wpAny_mono h₂ (λ ok s₃ h₃=> ?_) λ _ _ f=>f.elim)) λ _ _ f=>f.elim)) λ _ _ f=>f.elim);cases ok with
    | false=>exact wpAny_pure ⟨rfl,h₃⟩
    | true=>
      exact wpAny_bind (wpAny_bind (wpAny_mono h₃ (λ x s₄ h₄=>wpAny_bind (wpAny_mono h₄ (λ _ s₅ h₅=>wpAny_pure (wpAny_pure ⟨rfl,h₅⟩)) λ _ _ f=>f.elim)) λ _ _ f=>f.elim))
section
variable {X:Cx}
def PTs (X:Cx) (ifs:List Expr) (tc:TT):Prop:=
  ∀ (pins:List (Addr × Obj)) (s:Shared) (σ:St) (H:Hp) (Q:Bool->Hp->Prop),Inv X pins σ H s->tc σ H Q->
    wpAny (model X.prog X.w) X.A (forIn ifs true λ c r=>if r=true then do let ok <-isTrue c X.env (eval c X.env);pure (ForInStep.yield ok) else pure (ForInStep.yield r)) (TP X pins σ Q) X.xe s
def O6:TT:=λ _ H Q=>Q true H
theorem Ao:PTs X [] O6:=λ _ _ _ H _ I h=>wpAny_tests_nil ⟨H,I,h⟩
theorem BH {c:Expr} {tc:TT} (h:PT X c tc):PTs X [c] tc:=λ pins s σ H Q I q=>wpAny_tests_one (h pins s σ H Q I q)
def Kp (σ0 σ:St):Prop:=σ.length=σ0.length/\∀ (i:Nat) (v:V),σ0[i]?=some (some v)->σ[i]?=some (some v)
theorem Kp.refl (σ:St):Kp σ σ:=⟨rfl,λ _ _ h=>h⟩
theorem Kp.set {σ0 σ:St} {i:Nat} {v:V} (k:Kp σ0 σ) (h:σ0[i]?=some none):Kp σ0 (σ.set i (some v)):=by
  refine ⟨by rw [List.length_set];exact k.1,λ j u e=> ?_⟩;by_cases hj:i=j
  · subst hj;rw [h] at e;cases e
  · rw [List.getElem?_set_ne hj];exact k.2 j u e
def E3 (J:It) (σ0:St) (g:TG) (tc:TT) (te:TE) (Q:VK) (H1:Hp) (D:Addr):Prop:=
  ∃ W:Nat->Nat->List V->Hp->Prop,(∃ m,W 0 m [] (upd H1 D (.lst [])))/\∀ i m ys H,W i m ys H->
    (J.stop i H/\Q (.ref D) H)\/(J.go i H/\∃ N:List V->Hp->Prop,(∀ ys' H',N ys' H'->∃ m',m'<m/\W (i+1) m' ys' H')/\∀ x H',J.yld i H x H'->g x σ0 H' λ σ2 H2=>Kp σ0 σ2/\tc σ2 H2 λ b H3=>
      if b=true then te σ2 H3 λ y H4=>H4 D=some (.lst ys)/\ys.length<sizeLine/\N (ys++[y]) (upd H4 D (.lst (ys++[y]))) else N ys H3)
def Fc (wi:TI) (own:List Str) (fr:List (Str × Nat)) (g:TG) (tc:TT) (te:TE):TE:=λ σ H Q=>wi σ H λ J H1=>∀ D,H1 D=none->E3 J (Cr own fr σ) g tc te Q H1 D
theorem Ls {elt tg iter:Expr} {ifs:List Expr} {scope:Scope} {pos:Pos} {own:List Str} {fr:List (Str × Nat)} {g:TG} {tc:TT} {te:TE} (hc:X.calm=true) (S:BlkScope X scope own fr)
    (hg:∀ C ex s H,PG (A8 X scope own fr C ex s H) tg g) (ht:∀ C ex s H,PTs (A8 X scope own fr C ex s H) ifs tc) (he:∀ C ex s H,PE (A8 X scope own fr C ex s H) elt te)
    {pins:List (Addr × Obj)} {σ:St} {H:Hp} {s:Shared} {it:Addr} {fp:List Addr} {tn:Nat->Heap->Prop} {J:It} {E:Value->Shared->Prop}
    (I:Inv X pins σ H s) (T:Turn X.prog X.w X.K tg J fp it tn) (st:tn 0 s.heap) (hf:∀ b∈fp,Cj X pins H b) {Q:VK}
    (h:∀ D,H D=none->E3 J (Cr own fr σ) g tc te Q H D)
    {RR:Value->Addr->Result->Shared->Prop}
    (hR:∀ D C H' s',Inv X pins σ H' s'->(∃ m,s'.heap.Ns C m)->Cj X pins H' C->Q (.ref D) H'->RR (.ref D) C (.ok .next) s'):
    wpAny (model X.prog X.w) X.A (newList []) (λ acc s₃=>wpAny (model X.prog X.w) X.A (newFunctionEnv scope X.env.globals (AB X.env.cells scope.names []) [] X.env.qual none .none (some X.env)) (λ cenv s₄=>
      codeAny (model X.prog X.w) X.A (.compStart (.ListComp elt [⟨tg,iter,ifs,0⟩] scope pos) 0 (.ref it) acc { cenv with scope:=relabel scope X.env }) (RR acc cenv.locals) s₄) E s₃) E s:=by
  have hDn:H s.heap.objs.size=none:=I.fresh;obtain ⟨W,⟨m0,w0⟩,turn⟩:=h s.heap.objs.size hDn;have I3:Inv X pins σ (upd H s.heap.objs.size (.lst [])) { s with heap:=s.heap.push { cls:= .type "list",data:= .seq ([]:List Value).toArray },toks:=s.toks }:=I.lnew .nil (Nat.zero_le _);refine wpAny_newObj_type ?_;generalize hs3:({ s with heap:=s.heap.push { cls:= .type "list",data:= .seq ([]:List Value).toArray } }:Shared)=s3 at I3 ⊢;have I3:Inv X pins σ (upd H s.heap.objs.size (.lst [])) s3:=I3;have old3:∀ b o,s.heap.get? b=some o->s3.heap.get? b=some o:=λ b o e=>by rw [<-hs3];exact Heap.get?_push_of_some _ e
  have hobj:∀ b∈fp,∃ o,s.heap.get? b=some o/\∀ v,o.data≠ .cell v:=T.obj 0 _ st;have hne:∀ b∈fp,b≠s.heap.objs.size:=λ b hb=>by obtain ⟨o,e,_⟩:=hobj b hb;exact Nat.ne_of_lt (Heap.lt_size e)
  have hf3:∀ b∈fp,Cj X pins (upd H s.heap.objs.size (.lst [])) b:=λ b hb=>⟨by rw [Al (hne b hb)];exact (hf b hb).1,(hf b hb).2⟩;have hlt3:∀ b∈fp,b<s3.heap.objs.size:=λ b hb=>by obtain ⟨o,e,_⟩:=hobj b hb;exact Heap.lt_size (old3 b o e)
  refine wpAny_newFunctionEnv S.nocell (by intro y hy;simp at hy) (λ h₁ hns hsb=> ?_) S.kind;have keep:∀ b o,s3.heap.get? b=some o->h₁.get? b=some o:=λ b o e=>hsb.extBut b o (Nat.ne_of_lt (Heap.lt_size e)) (Heap.get?_push_of_some _ e);have J0:=I3.block (t':=s3.toks+([]:List (Str × Value)).length) S hf3 hlt3 hns keep;have st3:tn 0 h₁:=T.keep 0 _ _ st λ b hb o e=>keep b o (old3 b o e);have loop:codeAny (model X.prog X.w) X.A (.compLoop (.ListComp elt [⟨tg,iter,ifs,0⟩] scope pos) 0 (.ref it) (.ref s.heap.objs.size) (compEnvC scope (AB X.env.cells scope.names []) s3.heap.objs.size X.env))
      (RR (.ref s.heap.objs.size) s3.heap.objs.size) { s3 with heap:=h₁,toks:=s3.toks+([]:List (Str × Value)).length }:=by
    have stat:∀ {H':Hp},(∀ b∈fp,H' b=none)->∀ b∈fp,Cj (A8 X scope own fr s3.heap.objs.size fp s3 (upd H s.heap.objs.size (.lst []))) [] H' b:=λ {H'} hn b hb=>
      ⟨hn b hb,Nat.ne_of_lt (hlt3 b hb),J0.ok.exfs b hb, .inl hb,(J0.ok.exf b hb).2,λ p hp=>absurd (show p∈([]:List (Addr × Obj)) from hp) (by simp)⟩
    refine GQ (λ n s'=>∃ i ys H',Inv (A8 X scope own fr s3.heap.objs.size fp s3 (upd H s.heap.objs.size (.lst []))) [] (Cr own fr σ) H' s'/\tn i s'.heap/\(∀ b∈fp,H' b=none)/\W i n ys H') ?_ m0
      ⟨0,[],_,J0,st3,λ b hb=>(hf3 b hb).1,w0⟩
    rintro n s4 ⟨i,ys,H4,I4,st4,fr4,w4⟩;rcases turn i n ys H4 w4 with ⟨stop,q⟩ | ⟨go,N,hN,step⟩
    · refine thn (T.done (A8 X scope own fr s3.heap.objs.size fp s3 (upd H s.heap.objs.size (.lst []))) rfl rfl rfl hc i [] s4 _ H4 (λ _ _=>False) I4 (stat fr4) st4 stop) λ r s5 ⟨hr,I5⟩=> ?_;subst hr;obtain ⟨m,hn,_⟩:=id I5.loc;exact hR _ _ H4 s5 (I3.call' I5.os I5.base I5.hok I5.bare λ b hb=>⟨(hf3 b hb).2.2.2.1,(hf3 b hb).2.1,(hf3 b hb).2.2.2.2.1,(hf3 b hb).2.2.2.2.2⟩) ⟨m,hn⟩ (I3.fpOk (Nat.le_refl _) I5.free) q
    · refine thn (T.item (A8 X scope own fr s3.heap.objs.size fp s3 (upd H s.heap.objs.size (.lst []))) rfl rfl rfl hc i [] s4 _ H4 (λ _ _=>False) I4 (stat fr4) st4 go) λ r s5 ⟨u,hr,h5⟩=> ?_;subst hr;refine thn h5 λ _ s6 ⟨x,H6,I6,r6,y6,st6,fr6⟩=> ?_;have I6':=I6.pinned (stat fr6) (T.obj _ _ st6);refine thn (hg _ _ _ _ _ s6 _ H6 x u _ I6' r6 (step x H6 y6)) λ _ s7 ⟨σ7,H7,I7,kp,q7⟩=> ?_;refine thn (ht _ _ _ _ _ s7 σ7 H7 _ I7 q7) λ b s8 ⟨H8,I8,q8⟩=> ?_;have again:∀ {s9:Shared} {H9:Hp} {ys':List V},Inv (A8 X scope own fr s3.heap.objs.size fp s3 (upd H s.heap.objs.size (.lst []))) ([]++Gs fp s6.heap) σ7 H9 s9->N ys' H9->
          ∃ m,m<n/\∃ i ys H',Inv (A8 X scope own fr s3.heap.objs.size fp s3 (upd H s.heap.objs.size (.lst []))) [] (Cr own fr σ) H' s9/\tn i s9.heap/\(∀ b∈fp,H' b=none)/\W i m ys H':=λ {s9 H9 ys'} I9 n9=>by
        obtain ⟨m',hm,w9⟩:=hN ys' H9 n9;refine ⟨m',hm,i+1,ys',H9,I9.unpinned.weak kp.1.symm kp.2,T.keep _ _ _ st6 λ b hb o e=>(I9.pin (b,o) (List.mem_append_right _ (List.mem_append_right _ (B6 hb e)))).1,λ b hb=> ?_,w9⟩;obtain ⟨o,e,d⟩:=T.obj _ _ st6 b hb;exact (I9.pin (b,o) (List.mem_append_right _ (List.mem_append_right _ (B6 hb e)))).2.1
      cases b with
      | false=>
        rw [if_neg Bool.false_ne_true] at q8 ⊢;exact again I8 q8
      | true=>
        rw [if_pos rfl] at q8 ⊢;refine thn (he _ _ _ _ _ s8 σ7 H8 _ I8 q8) λ xv s9 ⟨y,H9,I9,r9,hD,hl,n9⟩=> ?_;refine thn (Gu _ s9 σ7 H9 (.ref s.heap.objs.size) [y] (.ref s.heap.objs.size) [xv] (λ _ H'=>H'=upd H9 s.heap.objs.size (.lst (ys++[y]))) I9 rfl (.cons r9 .nil) ⟨_,ys,y,rfl,rfl,hD,hl,rfl⟩) λ _ s10 ⟨_,H10,I10,_,q10⟩=> ?_;subst q10;exact again I10 n9
  exact codeAny_compStart_list loop (T.self _ 0 _ _ _ st3 loop)
theorem JZ {elt tg iter:Expr} {ifs:List Expr} {scope:Scope} {pos:Pos} {own:List Str} {fr:List (Str × Nat)} {wi:TI} {g:TG} {tc:TT} {te:TE} (hc:X.calm=true) (S:BlkScope X scope own fr) (hi:PI X tg iter wi)
    (hg:∀ C ex s H,PG (A8 X scope own fr C ex s H) tg g) (ht:∀ C ex s H,PTs (A8 X scope own fr C ex s H) ifs tc) (he:∀ C ex s H,PE (A8 X scope own fr C ex s H) elt te)
    (hs:∀ x,foldedSetIterable iter X.env x=pure x:=by intro _;rfl):PE X (.ListComp elt [⟨tg,iter,ifs,0⟩] scope pos) (Fc wi own fr g tc te):=by
  intro pins s σ H Q I h;rw [eval_ListComp];refine wpAny_comprehension_free (use:=none) rfl hs (CY (S.cells I.ok)) S.kind S.loc (thn (hi pins s σ H _ I h) λ xv s₁ h₁=>thn h₁ λ itv s₂ h₂=> ?_);obtain ⟨it,fp,tn,J,H2,rfl,I2,T,st2,f2,h2⟩:=h₂;refine Ls (RR:=λ acc C=>compPost (model X.prog X.w) X.A X.xe none (EP X pins σ Q) acc C) hc S hg ht he I2 T st2 f2 h2 ?_;rintro D C H' s' I' ⟨m,hn⟩ f q;exact ⟨m,hn,λ h' sb=>⟨.ref D,H',I'.turned (t':=s'.toks) (it:=C) (λ b o hb e=>(sb.2 b hb).trans e) f.1 f.2.1 f.2.2.2.1 f.2.2.2.2.1 f.2.2.2.2.2,rfl,q⟩⟩
theorem Nf {i:Nat} {x:Str} {px spos:Pos} {elt tg iter:Expr} {ifs:List Expr} {scope:Scope} {pos:Pos} {own:List Str} {fr:List (Str × Nat)} {wi:TI} {g:TG} {tc:TT} {te:TE} (hN:X.N.Nodup) (hix:X.N[i]?=some x) (hx:Loc X.env.scope x)
    (hc:X.calm=true) (S:BlkScope X scope own fr) (hi:PI X tg iter wi)
    (hg:∀ C ex s H,PG (A8 X scope own fr C ex s H) tg g) (ht:∀ C ex s H,PTs (A8 X scope own fr C ex s H) ifs tc) (he:∀ C ex s H,PE (A8 X scope own fr C ex s H) elt te)
    (hsw:swapsWith (.ListComp elt [⟨tg,iter,ifs,0⟩] scope pos) (some (.Name x px)) spos.line X.env=pure true:=by rfl)
    (hf:X.fn x=true\/X.env.scope.names.lookup x=some .local:=by first | exact .inl rfl | exact .inr rfl | assumption)
    (hs:∀ x,foldedSetIterable iter X.env x=pure x:=by intro _;rfl):PS X (.Assign [.Name x px] (.ListComp elt [⟨tg,iter,ifs,0⟩] scope pos) spos) (Lk (Fc wi own fr g tc te) (AE i)):=by
  intro pins s σ H D I h;rw [exec_Assign_Name_used _ _ _ _ hsw];refine wpAny_bind (wpAny_standAt (wpAny_bind ?_));show wpAny _ X.A (do let _ <-comprehension (.ListComp elt [⟨tg,iter,ifs,0⟩] scope pos) scope X.env _ (newList []) false (eval iter X.env) (some (assign (.Name x px) X.env))) _ _ s;refine wpAny_bind (wpAny_mono (wpAny_comprehension_free (use:=some (assign (.Name x px) X.env)) (Q:=λ _ s'=>SP X pins D .next s') rfl hs (CY (S.cells I.ok)) S.kind S.loc
    (thn (hi pins s σ H _ I h) λ xv s₁ h₁=>thn h₁ λ itv s₂ h₂=> ?_)) (λ _ s' hq=>wpAny_pure (wpAny_pure hq)) λ _ _ e=>e)
  obtain ⟨it,fp,tn,J,H2,rfl,I2,T,st2,f2,h2⟩:=h₂;refine Ls (Q:=λ x H1=>AE i x σ H1 D.nx) (RR:=λ acc C=>compPost (model X.prog X.w) X.A X.xe (some (assign (.Name x px) X.env)) (λ _ s'=>SP X pins D .next s') acc C) hc S hg ht he I2 T st2 f2 h2 ?_;rintro Dl C H' s' I' ⟨m,hn⟩ f q;obtain ⟨o,es,ep,ho,hd,r⟩:=hn;have pinC:∀ v,o.data≠ .cell v:=λ v z=>by rw [hd] at z;cases z
  have I'':Inv X (pins++[(C,o)]) σ H' s':=I'.pins_of λ p hp=>(List.mem_append.mp hp).elim (λ z=>I'.pin p (List.mem_append_right _ z)) λ z=>by
    have e:p=(C,o):=by simpa using z
    subst e;exact ⟨ho,f.1,f.2.1,f.2.2.1,pinC⟩
  show wpAny _ X.A (assign (.Name x px) X.env (.ref Dl)) _ _ s';refine wpAny_assign_Name (CG I'' hN hix hx (v:= .ref Dl) rfl (λ s2 I2=> ?_) hf);have pc:=(I2.pin (C,o) (List.mem_append_right _ (List.mem_append_right _ (by simp)))).1;refine ⟨m,⟨o,es,ep,pc,hd,r⟩,λ h' sb=>⟨_,H',?_,q⟩⟩;exact (I2.unpinned (pl:=[(C,o)])).turned (t':=s2.toks) (it:=C) (λ b o hb e=>(sb.2 b hb).trans e) f.1 f.2.1 f.2.2.2.1 f.2.2.2.2.1 f.2.2.2.2.2
end
section
variable {X:Cx} {tg:Expr}
end
end L2
namespace MS
open PySem PySem.StrLaws Builtin Builtin.Str
end MS
namespace MN
open PySem PySem.StrLaws PySem.NumText Builtin Builtin.Str
def YF (c:Nat):Bool:=decide (48<=c)&&decide (c<=57)
def OA (cs:List Nat):Option Nat:=if (decide (1<=cs.length)&&decide (cs.length<=3)&&cs.all YF&& !(decide (1<cs.length)&&cs.head? == some 48))=true then some (digitsVal cs) else none
theorem P9:∀ m,m<1000->OA ((Nat.toDigits 10 m).map Char.toNat)=some m:=by decide +kernel
theorem On {i:Int} (h0:0<=i) (h1:i<1000):OA (Str.ofString (toString i)).cps.toList=some i.toNat:=by
  obtain ⟨m,rfl⟩:=Int.eq_ofNat_of_zero_le h0;rw [PySem.W.KIN.signs_num];exact P9 m (by omega)
theorem num_len {i:Int} (h0:0<=i) (h1:i<1000):(Str.ofString (toString i)).length<=3:=by
  have h:=On h0 h1;unfold OA at h;split at h
  · rename_i hc
    simp only [Bool.and_eq_true,decide_eq_true_iff] at hc;have:=hc.1.1.2;simpa [Str.length] using this
  · cases h
end MN
namespace L2
open PySem PySem.Spec PyProof.Rows
section
variable {X:Cx}
theorem GM:∀ {ns:List Int} {l:List (Int × Tok)},Vals (ns.map V.int) (l.map λ p=>Value.int p.1 p.2)->l.map (·.1)=ns
  | [],[],_=>rfl
  | n::ns,p::l,r=>by
    cases r with
    | cons r1 r2=>
      obtain ⟨t,e⟩:=r1;injection e with e1 e2;rw [List.map_cons,GM r2,e1]
  | [],_::_,r=>by cases r
  | _::_,[],r=>by cases r
theorem Os (hc:X.calm=true):BR X (.builtin "sum") (λ xs H Q=>∃ (p:Addr) (ns:List Int),xs=[.ref p]/\SqL X.K H p (ns.map V.int)/\Q (.int ns.sum) H):=by
  intro pins s σ H xs us Q I r h;obtain ⟨p,ns,rfl,hq,q⟩:=h;obtain ⟨u,rfl,rx⟩:=Ig r;cases rx;obtain ⟨its,rv,pl,_⟩:=I.list hq;obtain ⟨ps,e⟩:=(IntsAre.allInts (Ml rv)).items;have e':its=ps.toList.map λ p=>Value.int p.1 p.2:=by
    have:=congrArg Array.toList e;simpa [intItems] using this
  have hl:=pl.isList;rw [e] at hl;refine sum_intListG (I.ok.hd hc) hl λ h' tk t' hk=> ?_;have es:preSum (numAt ps) ps.size=ns.sum:=by
    rw [preSum_eq,List.take_of_length_le (by simp),GM (ns:=ns) (l:=ps.toList) (by rw [<-e'];exact rv)]
  rw [es];exact ⟨.int ns.sum,H,I.kept hk,⟨t',rfl⟩,q⟩
theorem NU (bs:List Bool):(List.range bs.length).all (λ i=>bs.getD i true)=bs.all id:=by
  rw [Bool.eq_iff_iff,List.all_eq_true,List.all_eq_true];constructor
  · intro h b hb;obtain ⟨i,hi,rfl⟩:=List.getElem_of_mem hb;have:=h i (by simpa using hi);rw [List.getD_eq_getElem?_getD,List.getElem?_eq_getElem hi] at this;exact this
  · intro h i hi;have hi:i<bs.length:=by simpa using hi
    rw [List.getD_eq_getElem?_getD,List.getElem?_eq_getElem hi];exact h _ (List.getElem_mem hi)
theorem OQ (hc:X.calm=true):BR X (.builtin "all") (λ xs H Q=>∃ (p:Addr) (bs:List Bool),xs=[.ref p]/\SqL X.K H p (bs.map V.bl)/\Q (.bl (bs.all id)) H):=by
  intro pins s σ H xs us Q I r h;obtain ⟨p,bs,rfl,hq,q⟩:=h;obtain ⟨u,rfl,rx⟩:=Ig r;cases rx;obtain ⟨its,rv,pl,_⟩:=I.list hq;have hl:=rv.length;rw [List.length_map] at hl;obtain ⟨o,ho,_⟩:=id pl.isList;have hne:p≠s.heap.objs.size:=Nat.ne_of_lt (Heap.lt_size ho);refine call_all_walk (wpAny_pyIter_list pl.isList ?_);refine ⟨s.heap.objs.size,_,_,_,_,_,λ i=>bs.getD i true,rfl,Walks.list (A:=X.A.in1) (I.ok.hd hc) _ p hne its.toArray,⟨⟨_,Heap.get?_push_size _ rfl,rfl,rfl⟩,pl.isList.at λ o e=>Heap.get?_push_of_some _ e⟩,?_,λ h' tk hk=> ?_⟩
  · intro i v s' Q' E' hv hQ';have hv:its[i]?=some v:=by simpa using hv
    have hi:i<bs.length:=by rw [hl];exact (List.getElem?_eq_some_iff.mp hv).1
    obtain ⟨u,hu,ru⟩:=rv.get (i:=i) (x:= .bl (bs.getD i true)) (by rw [List.getElem?_map,List.getD_eq_getElem?_getD,List.getElem?_eq_getElem hi];rfl);rw [hu] at hv;cases hv;cases ru;exact wpAny_truthy_bool hQ'
  · have e:its.toArray.size=bs.length:=by rw [List.size_toArray];exact hl.symm
    rw [e,NU];exact ⟨.bl _,H,I.kept λ b o e=>hk b o (λ z=>by simp at z;exact absurd (Heap.lt_size e) (by rw [z];exact Nat.lt_irrefl _)) (Heap.get?_push_of_some _ e),rfl,q⟩
theorem KH:BR X (.builtin "isinstance") (λ xs H Q=>∃ x n t b,xs=[x, .ty n]/\TyOf X.K H x t/\PySem.W.kitOne X.K t (.type n)=some b/\Q (.bl b) H):=by
  intro pins s σ H xs us Q I r h;obtain ⟨x,n,t,b,rfl,ty,e,q⟩:=h;obtain ⟨u,c,rfl,rx,rc⟩:=LD r;cases rc;exact Gx I rx ty e λ tk=>⟨.bl b,H,I.tok tk,rfl,q⟩
def OM (K:PySem.W.Frag):R2:=λ x y H Q=>∃ l b xs zs,x= .ref l/\y= .ref b/\SqL K H l xs/\SqL K H b zs/\xs.length+zs.length<=sizeLine/\∀ p,H p=none->Q (.ref p) (upd H p (.lst (xs++zs)))
theorem QN:OpR X (binaryOp .Add) (OM X.K):=by
  intro pins s σ H x y v u Q I rx ry h;obtain ⟨l,b,xs,zs,rfl,rfl,hH,hB,hz,q⟩:=h;cases rx;cases ry;obtain ⟨its,r,pl,_⟩:=I.list hH;obtain ⟨its2,r2,pl2,_⟩:=I.list hB;have h1:=r.length;have h2:=r2.length;obtain ⟨⟨cls,dd,data,sl⟩,n,ho,hc,hdd,hd⟩:=pl;obtain ⟨⟨cls2,dd2,data2,sl2⟩,n2,ho2,hc2,hdd2,hd2⟩:=pl2;simp only at hc hdd hd hc2 hdd2 hd2;subst hc hdd hd hc2 hdd2 hd2;refine concat_meets ⟨_,ho,rfl⟩ ⟨_,ho2,rfl⟩ noFill_list_add seq_list_add PySem.F.slot_list_add PySem.F.entry_list_add (PySem.F.args_list_add_2 _ _) (list_addW l b its.toArray its2.toArray n n2 none none sl sl2 (by rw [List.size_toArray,List.size_toArray];omega)) ⟨ho,ho2,?_⟩;have e:its.toArray++its2.toArray=(its++its2).toArray:=by simp
  rw [e];exact ⟨.ref _,_,I.lnew (t':=s.toks) (r.append r2) (by rw [List.length_append];omega),rfl,q _ I.fresh⟩
noncomputable def Fz (xs ys:List V):Bool:=xs.length == ys.length&&(List.range xs.length).all λ i=>eqV (xs.getD i .non) (ys.getD i .non)
theorem Jy {xs:List V} (h:xs.all Br=true) {i:Nat} (hi:i<xs.length):Br (xs.getD i .non)=true:=by
  rw [List.getD_eq_getElem?_getD,List.getElem?_eq_getElem hi];exact (List.all_eq_true.mp h) _ (List.getElem_mem hi)
def Mc (K:PySem.W.Frag) (neg:Bool):R2:=λ x y H Q=>∃ p q xs ys,x= .ref p/\y= .ref q/\SqL K H p xs/\SqL K H q ys/\xs.all Br=true/\ys.all Br=true/\Q (.bl (if neg then !Fz xs ys else Fz xs ys)) H
theorem Hi {A:Around} {s:Shared} {xs ys:List V} {its its2:List Value} (r:Vals xs its) (r2:Vals ys its2) (fx:xs.all Br=true) (fy:ys.all Br=true):
    ∀ j (h1:j<its.toArray.size) (h2:j<its2.toArray.size),SeqAt.EqAt A s its.toArray[j] its2.toArray[j] (eqV (xs.getD j .non) (ys.getD j .non)):=λ j h1 h2=>by
  have l1:=r.length;have l2:=r2.length;have h1':j<its.length:=by simpa using h1
  have h2':j<its2.length:=by simpa using h2
  have g1:xs[j]?=some (xs.getD j .non):=by rw [List.getD_eq_getElem?_getD,List.getElem?_eq_getElem (by omega)];rfl
  have g2:ys[j]?=some (ys.getD j .non):=by rw [List.getD_eq_getElem?_getD,List.getElem?_eq_getElem (by omega)];rfl
  obtain ⟨u,e1,ru⟩:=r.get g1;obtain ⟨u2,e2,ru2⟩:=r2.get g2;have q1:its.toArray[j]=u:=by rw [List.getElem?_eq_getElem h1'] at e1;simpa using Option.some.inj e1
  have q2:its2.toArray[j]=u2:=by rw [List.getElem?_eq_getElem h2'] at e2;simpa using Option.some.inj e2
  rw [q1,q2];exact Pq ru ru2 (Jy fx (by omega)) (Jy fy (by omega))
theorem T5 (hu:X.A.units<cLine):OpR X (compareOp .Eq) (Mc X.K false):=by
  intro pins s σ H x y v u Q I rx ry h;obtain ⟨p,q,xs,ys,rfl,rfl,h1,h2,fx,fy,hq⟩:=h;cases rx;cases ry;obtain ⟨its,r,pl,_⟩:=I.list h1;obtain ⟨its2,r2,pl2,_⟩:=I.list h2;have l1:=r.length;have l2:=r2.length;by_cases hl:xs.length=ys.length
  · refine SeqAt.eq_listAt pl.isList pl2.isList (by simp;omega) hu (Hi r r2 fx fy) ⟨.bl _,H,I,rfl,?_⟩;have e:Fz xs ys=(List.range its.toArray.size).all λ i=>eqV (xs.getD i .non) (ys.getD i .non):=by
      unfold Fz;rw [hl,beq_self_eq_true,Bool.true_and,List.size_toArray, <-l1,hl]
    rw [<-e];exact hq
  · refine SeqAt.eq_list_lengthsAt pl.isList pl2.isList (by simp;omega) hu ⟨.bl _,H,I,rfl,?_⟩;have e:Fz xs ys=false:=by unfold Fz;rw [beq_eq_false_iff_ne.mpr hl,Bool.false_and]
    rw [<-e];exact hq
theorem SW (hu:X.A.units<cLine):OpR X (compareOp .NotEq) (Mc X.K true):=by
  intro pins s σ H x y v u Q I rx ry h;obtain ⟨p,q,xs,ys,rfl,rfl,h1,h2,fx,fy,hq⟩:=h;cases rx;cases ry;obtain ⟨its,r,pl,_⟩:=I.list h1;obtain ⟨its2,r2,pl2,_⟩:=I.list h2;have l1:=r.length;have l2:=r2.length;by_cases hl:xs.length=ys.length
  · refine SeqAt.RcNeAt.lists pl.isList pl2.isList (by simp;omega) hu (Hi r r2 fx fy) _ _ _ _ ⟨.bl _,H,I,rfl,?_⟩;have e:Fz xs ys=(List.range its.toArray.size).all λ i=>eqV (xs.getD i .non) (ys.getD i .non):=by
      unfold Fz;rw [hl,beq_self_eq_true,Bool.true_and,List.size_toArray, <-l1,hl]
    rw [<-e];exact hq
  · refine SeqAt.RcNeAt.lists_lengths pl.isList pl2.isList (by simp;omega) hu _ _ _ _ ⟨.bl _,H,I,rfl,?_⟩;have e:Fz xs ys=false:=by unfold Fz;rw [beq_eq_false_iff_ne.mpr hl,Bool.false_and]
    rw [e] at hq;exact hq
theorem Qr {α:Type} [DecidableEq α] (f:α->V) (hf:∀ a b,eqV (f a) (f b)=decide (a=b)) (as bs:List α):Fz (as.map f) (bs.map f)=decide (as=bs):=by
  unfold Fz;rw [Bool.eq_iff_iff,Bool.and_eq_true,List.all_eq_true,decide_eq_true_iff,beq_iff_eq,List.length_map,List.length_map];constructor
  · rintro ⟨h1,h2⟩;refine List.ext_getElem h1 λ i g1 g2=> ?_;have:=h2 i (by simpa using g1);rw [List.getD_eq_getElem?_getD,List.getD_eq_getElem?_getD,List.getElem?_map,List.getElem?_map,List.getElem?_eq_getElem g1,List.getElem?_eq_getElem g2] at this;have:=(hf _ _).symm.trans this;exact of_decide_eq_true this
  · rintro rfl;refine ⟨rfl,λ i hi=> ?_⟩;have hi:i<as.length:=by simpa using hi
    rw [List.getD_eq_getElem?_getD,List.getElem?_map,List.getElem?_eq_getElem hi];show eqV (f as[i]) (f as[i])=true;rw [hf];exact decide_eq_true rfl
theorem Le (as bs:List Int):Fz (as.map V.int) (bs.map V.int)=decide (as=bs):=Qr V.int (λ a b=>by show (a == b)=_;rw [Bool.eq_iff_iff,beq_iff_eq,decide_eq_true_iff]) as bs
theorem FO (as:List Int):(as.map V.int).all Br=true:=by simp [Br]
end
def CallF (P:Program) (w:World) (K:PySem.W.Frag) (mg:Str->Option Value) (base:Heap) (x:Str) (k:Nat) (ps:List Str) (sp:Sp):Prop:=
  ∃ f fd,mg x=some (.ref f)/\PySem.W.keepIn K (.ref f)=true/\FnOk P w K mg base CX0 k f fd ps sp/\Binds K fd ps []
section
variable {X:Cx} {x:Str} {k:Nat} {ps:List Str} {sp:Sp} {e:Expr} {es:List Expr} {t:TA} {p pos:Pos}
theorem Ad (h:CallF X.prog X.w X.K X.mg X.base x k ps sp) (hr:Room k X.A) (ha:PA X (e::es) t) (hg:Gl X x:=by rfl) (hdb:(x == ("__debug__":Str))=false:=by decide)
    (he:starEach (e::es) X.env=(false,eval e X.env)::starEach es X.env:=by rfl) (hpl:(backTo pos (starEach es X.env)).any (·.1)=false:=by rfl):
    PE X (.Call (.Name x p) (e::es) [] pos) (Ly sp [] E0 t):=by
  obtain ⟨f,fd,hm,hk,F,hb⟩:=h;exact MG F hr hg hm hk hb .nil ME ha hdb he hpl
end
structure DefAt (K:PySem.W.Frag) (mg:Str->Option Value) (x:Str) (st:Stmt) (ps:List Str) (f:Addr) (fd:FuncData):Prop where
  fn:Fun K x x st f fd
  at':mg x=some (.ref f)
  bi:Binds K fd ps []
theorem DefAt.call {P:Program} {w:World} {K:PySem.W.Frag} {mg:Str->Option Value} {base:Heap} {x:Str} {st:Stmt} {ps:List Str} {f:Addr} {fd:FuncData} {k:Nat} {sp:Sp} (d:DefAt K mg x st ps f fd)
    (F:FnOk P w K mg base CX0 k f fd ps sp):CallF P w K mg base x k ps sp:=⟨f,fd,d.at',d.fn.kp,F,d.bi⟩
noncomputable def Pu:V->Bool | .int _=>true | _=>false
noncomputable def RT:V->Bool | .bl _=>true | _=>false
def Ty (K:PySem.W.Frag) (H:Hp) (x:V):Prop:=∃ n,TyOf K H x (.type n)
noncomputable def Dq (n T:String):Option Bool:=if (Value.type n == Value.type T)=true then some true else if PySem.W.kitMeta T=true then (fastBuiltinMro n).map (·.contains (.type T)) else none
section
variable {K:PySem.W.Frag} {H:Hp} {x:V} {n:String}
theorem kb {n T:String} {b:Bool} (h:Dq n T=some b):PySem.W.kitOne K (.type n) (.type T)=some b:=h
theorem QX (h:TyOf K H x (.type n)):PySem.W.kitOne K (.type n) (.type "int")=some (Pu x||RT x):=by
  cases h <;> first
    | exact (show PySem.W.kitOne K _ _=some true from kb (by decide +kernel))
    | exact (show PySem.W.kitOne K _ _=some false from kb (by decide +kernel))
theorem Ox (h:TyOf K H x (.type n)):PySem.W.kitOne K (.type n) (.type "bool")=some (RT x):=by
  cases h <;> first
    | exact (show PySem.W.kitOne K _ _=some true from kb (by decide +kernel))
    | exact (show PySem.W.kitOne K _ _=some false from kb (by decide +kernel))
end
section
variable {X:Cx}
def Own (mg:Str->Option Value) (names:List Str):Prop:=∀ x∈names,mg x=none
theorem Dd:bootBuiltins "all"=some (.builtin "all"):=by decide +kernel
theorem Ch {x:Str} {T:String} {pos:Pos} (hg:Gl X x) (hm:X.mg x=none) (hv:bootBuiltins x=some (.type T)) (hn:x≠"__name__":=by decide) (hd:(x == ("__debug__":Str))=false:=by decide):PE X (.Name x pos) (tC (.ty T)):=
  Rs hg hm hv (show RelV (.ty T) (.type T) from rfl) hn hd
end
noncomputable def Dj (N:List Str) (scope:Scope):List (Str × Nat):=scope.names.filterMap λ y=>if y.2= .free then (N.findIdx? λ n=>decide (n=y.1)).map λ i=>(y.1,i) else none
noncomputable def Ex (sc:Scope) (N:List Str) (scope:Scope) (own:List Str) (fr:List (Str × Nat)):Bool:=
  decide (scope.kind= .function)&&
  (scope.names.all λ y=>decide (y.2≠ .cell)&&(decide (y.2≠ .local)||decide (scope.names.lookup y.1=some .local))&&
    (decide (y.2≠ .free)||((decide (sc.names.lookup y.1=some .cell)||decide (sc.names.lookup y.1=some .free))&&decide (scope.names.lookup y.1=some .free))))&&
  (fr.all λ p=>decide (N[p.2]?=some p.1)&&decide ((p.1,NameKind.free)∈scope.names))&&
  (own.all λ x=>decide (scope.names.lookup x=some .local))&&decide ((own++fr.map (·.1)).Nodup)
section
variable {X:Cx} {scope:Scope} {own:List Str} {fr:List (Str × Nat)}
theorem BlkScope.of (h:Ex X.env.scope X.N scope own fr=true):BlkScope X scope own fr:=by
  unfold Ex at h;simp only [Bool.and_eq_true,List.all_eq_true,decide_eq_true_iff,Bool.or_eq_true] at h;obtain ⟨⟨⟨⟨h1,h2⟩,h3⟩,h4⟩,h5⟩:=h;exact ⟨h1,λ y hy=>(h2 y hy).1.1,λ y hy e=>(h2 y hy).1.2.resolve_left (λ z=>z e),λ y hy e=>((h2 y hy).2.resolve_left (λ z=>z e)).1,λ p hp=>h3 p hp,λ x hx=>((h2 _ hx).2.resolve_left (λ z=>z rfl)).2⟩
theorem NE (h:Ex X.env.scope X.N scope own fr=true):(∀ x∈own,scope.names.lookup x=some .local)/\(own++fr.map (·.1)).Nodup:=by
  unfold Ex at h;simp only [Bool.and_eq_true,List.all_eq_true,decide_eq_true_iff,Bool.or_eq_true] at h;exact ⟨h.1.2,h.2⟩
theorem HQ {i:Nat} {x:Str} {px:Pos} (h:Ex X.env.scope X.N scope own fr=true) (hi:own[i]?=some x) (C:Addr) (ex:List Addr) (s:Shared) (H:Hp):PG (A8 X scope own fr C ex s H) (.Name x px) (AE i):=by
  obtain ⟨h1,h2⟩:=NE h;have hl:(relabel scope X.env).names.lookup x=some .local:=lookup_relabel_local (h1 x (List.mem_of_getElem? hi));have hlt:=(List.getElem?_eq_some_iff.mp hi).1;refine Az h2 ?_ (.inl hl) (.inr hl);show (own++fr.map (·.1))[i]?=some x;rw [List.getElem?_append_left hlt];exact hi
theorem At {elt iter:Expr} {x:Str} {px:Pos} {ifs:List Expr} {pos:Pos} {wi:TI} {tc:TT} {te:TE} (hi:PI X (.Name x px) iter wi)
    (ht:∀ C ex s H,PTs (A8 X scope [x] (Dj X.N scope) C ex s H) ifs tc) (he:∀ C ex s H,PE (A8 X scope [x] (Dj X.N scope) C ex s H) elt te)
    (hb:Ex X.env.scope X.N scope [x] (Dj X.N scope)=true:=by with_unfolding_all rfl) (hc:X.calm=true:=by rfl)
    (hs:∀ x,foldedSetIterable iter X.env x=pure x:=by intro _;rfl):PE X (.ListComp elt [⟨.Name x px,iter,ifs,0⟩] scope pos) (Fc wi [x] (Dj X.N scope) (AE 0) tc te):=
  JZ hc (.of hb) hi (λ C ex s H=>HQ hb rfl C ex s H) ht he hs
theorem Bk {i:Nat} {y x:Str} {py px spos:Pos} {elt iter:Expr} {ifs:List Expr} {pos:Pos} {wi:TI} {tc:TT} {te:TE} (hN:X.N.Nodup) (hix:X.N[i]?=some y) (hx:Loc X.env.scope y) (hi:PI X (.Name x px) iter wi)
    (ht:∀ C ex s H,PTs (A8 X scope [x] (Dj X.N scope) C ex s H) ifs tc) (he:∀ C ex s H,PE (A8 X scope [x] (Dj X.N scope) C ex s H) elt te)
    (hb:Ex X.env.scope X.N scope [x] (Dj X.N scope)=true:=by with_unfolding_all rfl) (hc:X.calm=true:=by rfl)
    (hsw:swapsWith (.ListComp elt [⟨.Name x px,iter,ifs,0⟩] scope pos) (some (.Name y py)) spos.line X.env=pure true:=by rfl)
    (hf:X.fn y=true\/X.env.scope.names.lookup y=some .local:=by first | exact .inl rfl | exact .inr rfl | assumption)
    (hs:∀ x,foldedSetIterable iter X.env x=pure x:=by intro _;rfl):
    PS X (.Assign [.Name y py] (.ListComp elt [⟨.Name x px,iter,ifs,0⟩] scope pos) spos) (Lk (Fc wi [x] (Dj X.N scope) (AE 0) tc te) (AE i)):=
  Nf hN hix hx hc (.of hb) hi (λ C ex s H=>HQ hb rfl C ex s H) ht he hsw hf hs
theorem Tx {σ:L2.St} {H:Hp} {A B:Hp->Prop} (h:A H):O6 σ H (λ b H3=>if b=true then A H3 else B H3):=by
  show (if true=true then A H else B H);exact ES h
end
def Pz (K:PySem.W.Frag):List V->Hp->VK->Prop:=λ xs H Q=>∃ x n,xs=[x]/\Wm K x H n/\Q (.int n) H
def VA (K:PySem.W.Frag):List V->Hp->VK->Prop:=λ xs H Q=>∃ (p:Addr) (ns:List Int),xs=[.ref p]/\SqL K H p (ns.map V.int)/\Q (.int ns.sum) H
def VO (K:PySem.W.Frag):List V->Hp->VK->Prop:=λ xs H Q=>∃ (p:Addr) (bs:List Bool),xs=[.ref p]/\SqL K H p (bs.map V.bl)/\Q (.bl (bs.all id)) H
def R8 (K:PySem.W.Frag):List V->Hp->VK->Prop:=λ xs H Q=>∃ x n t b,xs=[x, .ty n]/\TyOf K H x t/\PySem.W.kitOne K t (.type n)=some b/\Q (.bl b) H
def JY (K:PySem.W.Frag):List V->Hp->VK->Prop:=λ xs H Q=>∃ p ys,xs=[.ref p]/\(SqL K H p ys\/SqT K H p ys)/\∀ l,H l=none->Q (.ref l) (upd H l (.lst ys))
def Lu (K:PySem.W.Frag):List V->Hp->VK->Prop:=λ xs H Q=>∃ p ys,xs=[.ref p]/\((SqL K H p ys/\∀ l,H l=none->Q (.ref l) (upd H l (.tup ys)))\/(SqT K H p ys/\Q (.ref p) H))
section
variable {X:Cx} {K:PySem.W.Frag}
theorem BW (hK:X.K=K:=by rfl):BR X (.builtin "len") (Pz K):=by subst hK;exact Ps
theorem R6 (hK:X.K=K:=by rfl) (hc:X.calm=true:=by rfl):BR X (.builtin "sum") (VA K):=by subst hK;exact Os hc
theorem K6 (hK:X.K=K:=by rfl) (hc:X.calm=true:=by rfl):BR X (.builtin "all") (VO K):=by subst hK;exact OQ hc
theorem BV (hK:X.K=K:=by rfl):BR X (.builtin "isinstance") (R8 K):=by subst hK;exact KH
theorem CI (hK:X.K=K:=by rfl):BR X (.type "list") (JY K):=by subst hK;exact Kf
theorem Ct (hK:X.K=K:=by rfl):BR X (.type "tuple") (Lu K):=by subst hK;exact Ja
theorem Dn (hK:X.K=K:=by rfl):IxR X (S0 K):=by subst hK;exact Q0
theorem BQ (hK:X.K=K:=by rfl):IxR X (Tt K):=by subst hK;exact TB
theorem ZX (hK:X.K=K:=by rfl):OpR X (compareOp .In) (rIn K false):=by subst hK;exact Of
theorem Hb (hK:X.K=K:=by rfl):OpR X (compareOp .NotIn) (rIn K true):=by subst hK;exact Kk
theorem K4 (hK:X.K=K:=by rfl):OpR X (binaryOp .Add) (OM K):=by subst hK;exact QN
theorem RP (hu:X.A.units<cLine) (hK:X.K=K:=by rfl):OpR X (compareOp .Eq) (Mc K false):=by subst hK;exact T5 hu
theorem Pr (hu:X.A.units<cLine) (hK:X.K=K:=by rfl):OpR X (compareOp .NotEq) (Mc K true):=by subst hK;exact SW hu
theorem X8 (hK:X.K=K:=by rfl):SlR X (T7 K):=by subst hK;exact Ql
theorem Bp {tg l:Expr} {tl:TE} (hl:PE X l tl) (hK:X.K=K:=by rfl):PI X tg l (Oq K tl):=by subst hK;exact Rl hl
theorem Fd {tg l:Expr} {tl:TE} (hl:PE X l tl) (hK:X.K=K:=by rfl):PI X tg l (Tg K tl):=by subst hK;exact SY hl
end
section
variable {X:Cx} {pins:List (Addr × Obj)} {σ:St} {H:Hp} {s:Shared} {h':Heap}
theorem Inv.turnedL {t':Nat} (ch:List Addr) (I:Inv X pins σ H s) (hf:∀ b∈ch,Cj X pins H b) (k:∀ b o,b∉ch->s.heap.get? b=some o->h'.get? b=some o):Inv X pins σ H { s with heap:=h',toks:=t' }:=by
  have nit:∀ b u,H b=some u->b∉ch:=λ b u e z=>by rw [(hf b z).1] at e;cases e
  refine I.step (g':=s.gens) (d':=s.drawn) (ch:=ch) (λ b hb=> ?_) (λ b o _ _ hc e _=>k b o hc e) (λ b o _ _ hc e _=>⟨o.slots,k b o hc e⟩) (λ _ _ _ _ n=>n)
    (λ b o hc e=>⟨o,k b o hc e⟩) (λ _ _ e=>e) (λ _ _ _ e=>e) (λ b ps e=>⟨#[],by rw [e];simp⟩) (λ m hm=> ?_) (λ b u e=> ?_) I.bare
  · obtain ⟨f0,f1,f2,f3,f4,f5⟩:=hf b hb;exact ⟨f3,f1,f4,f5⟩
  · obtain ⟨o,es,ep,ho,r⟩:=hm;exact ⟨o,es,ep,k _ o (λ z=>(hf _ z).2.1 rfl) ho,r⟩
  · refine (I.hok b u e).stay (λ c v hc q=>k c v ?_ q) (λ _ q=>q) λ _ _ q=>q;rcases hc with z | z
    · rw [z];exact nit b u e
    · exact nit c _ z
end
noncomputable def Ite (K:PySem.W.Frag) (a:Addr):It:=
  ⟨λ i H=>∃ xs x,SqL K H a xs/\xs[i]?=some x,λ i H v H'=>∃ p x,H p=none/\v= .ref p/\H'=upd H p (.tup [.int i,x])/\∀ xs,SqL K H a xs->xs[i]?=some x,λ i H=>∃ xs,SqL K H a xs/\xs.length<=i⟩
theorem Fl {X:Cx} {pins:List (Addr × Obj)} {H:Hp} {b p:Addr} {o:HO} (h:Cj X pins H b) (n:b≠p):Cj X pins (upd H p o) b:=⟨by rw [Al n];exact h.1,h.2⟩
theorem Oh {P:Program} {w:World} {K:PySem.W.Frag} {elts:List Expr} {k:Nat} {pos:Pos} (a e it:Addr) (hne:e≠it):
    Turn P w K (.Tuple elts k pos) (Ite K a) [e,it] e (λ i h=>(∃ old,IsEnum h e it i old)/\h.IsListIter it a i) where
  mem:=by simp
  obj:=λ i h st b hb=>by
    obtain ⟨⟨old,he⟩,o,eo,c,d⟩:=st;rcases List.mem_cons.mp hb with z | z
    · subst z;exact ⟨_,he,λ v z=>by cases (show Data.fields _=Data.cell v from z)⟩
    · have z:b=it:=by simpa using z
      subst z;exact ⟨o,eo,λ v z=>by rw [d] at z;cases z⟩
  keep:=λ i h h' st kp=>by
    obtain ⟨⟨old,he⟩,hi⟩:=st;exact ⟨⟨old,kp e (by simp) _ he⟩,hi.at λ o z=>kp it (by simp) o z⟩
  item:=by
    intro X hP hw hK hc i pins s σ H E I hf st hg;subst hP hw hK;obtain ⟨xs,x,hq,hx⟩:=hg;obtain ⟨its,rv,p,hz⟩:=I.list hq;obtain ⟨u,hu,ru⟩:=rv.get hx;obtain ⟨⟨old,he⟩,hi⟩:=st;have hel:e<s.heap.objs.size:=Heap.lt_size he;have hil:it<s.heap.objs.size:=by obtain ⟨_,z,_⟩:=hi;exact Heap.lt_size z
    refine wpAny_pyNext_enum_item he hi p.isList (x:=u) (by simpa using hu) hne λ h' ho hi' hT hsz hk=> ?_;have I0:=I.laid (h':=s.heap.push { cls:= .type "tuple",data:= .seq #[.int i s.toks,u] }) (a:=s.heap.objs.size) (o:= .tup [.int i,x]) (t':=s.toks+1) (λ _ _ q=>Heap.get?_push_of_some _ q) (Nat.le_refl _)
      ⟨(by show 2<=sizeLine;decide),[.int i s.toks,u], .cons ⟨_,rfl⟩ (.cons ru .nil),⟨_,Heap.get?_push_size _ rfl,rfl,_,rfl⟩⟩
    have f0:∀ b∈[e,it],Cj X pins (upd H s.heap.objs.size (.tup [.int i,x])) b:=λ b hb=>Fl (hf b hb) (by
      rcases List.mem_cons.mp hb with z | z
      · rw [z];exact Nat.ne_of_lt hel
      · rw [show b=it by simpa using z];exact Nat.ne_of_lt hil)
    have I1:=Inv.turnedL (t':=s.toks+1) (h':=h') [e,it] I0 f0 (λ b o hb z=>by
      have hb1:b≠e:=λ q=>hb (by simp [q]);have hb2:b≠it:=λ q=>hb (by simp [q]);rcases Heap.get?_push_cases (show (s.heap.push { cls:= .type "tuple",data:= .seq #[.int i s.toks,u] }).get? b=some o from z) with ⟨q1,q2⟩ | q
      · rw [q1,q2];exact hT
      · exact hk b o hb1 hb2 q)
    refine ⟨.ref s.heap.objs.size,rfl,wpAny_letOwnedTupleGo_enum (s:={ s with heap:=h',toks:=s.toks+1 }) ho λ h2 he2 sb=> ?_⟩;refine ⟨.ref s.heap.objs.size,_,Inv.turnedL (t':=s.toks+1) (h':=h2) [e,it] I1 f0 (λ b o hb z=>(sb.2 b λ q=>hb (by simp [q])).trans z),rfl,⟨_,x,I.fresh,rfl,rfl,λ ys hy=>by rw [I.list_inj hy hq];exact hx⟩,⟨⟨u,by simpa using he2⟩,hi'.at λ o z=>(sb.2 it hne.symm).trans z⟩,λ b hb=>(f0 b hb).1⟩
  done:=by
    intro X hP hw hK hc i pins s σ H E I hf st hg;subst hP hw hK;obtain ⟨xs,hq,hx⟩:=hg;obtain ⟨its,rv,p,hz⟩:=I.list hq;obtain ⟨⟨old,he⟩,hi⟩:=st;have hl:=rv.length;exact wpAny_pyNext_enum_end (I.ok.hd hc) he hi p.isList (by simp;omega) λ h' eb=>⟨rfl,I.turnedL (t':=s.toks) [e,it] hf λ b o hb z=>eb b o (λ q=>hb (by simp [q])) z⟩
  self:=λ _ _ _ _ _ st h=>by
    obtain ⟨⟨old,he⟩,_⟩:=st;exact wpAny_pyIter_enum he h
section
variable {X:Cx} {elts:List Expr} {k:Nat} {tpos:Pos} {K:PySem.W.Frag}
def RH (K:PySem.W.Frag) (ta:TA):TI:=λ σ H R=>ta σ H λ vs H1=>∃ a,vs=[.ref a]/\(∃ xs,SqL K H1 a xs)/\R (Ite K a) H1
theorem Jk:bootBuiltins "enumerate"=some (.type "enumerate"):=by decide +kernel
theorem Ln:bootBuiltins "zip"=some (.type "zip"):=by decide +kernel
theorem J7 {l:Expr} {ta:TA} {p pos:Pos} (hg:Gl X "enumerate") (hm:X.mg "enumerate"=none) (ha:PA X [l] ta) (hK:X.K=K:=by rfl) (hs:starEach [l] X.env=[(false,eval l X.env)]:=by rfl):PI X (.Tuple elts k tpos) (.Call (.Name "enumerate" p) [l] [] pos) (RH K ta):=by
  subst hK;intro pins s σ H R I h;refine Call_ (B3 I hg hm Jk (PyProof.Rows.callWith_type1 (thn (ha pos pins s σ H _ I h) λ us s1 ⟨vs,H1,I1,r1,q1⟩=> ?_) hs rfl));obtain ⟨a,e,⟨xs,hq⟩,q⟩:=q1;subst e;cases r1 with
  | cons r rr=>
    cases rr;cases r;obtain ⟨its,rv,pl,hz⟩:=I1.list hq;refine call_enumerate_list pl.isList λ h' he hi hsz hk=> ?_;refine wpAny_pyIter_enum he ?_;have I2:=I1.kept (t':=s1.toks) hk;refine ⟨s1.heap.objs.size+1,[s1.heap.objs.size+1,s1.heap.objs.size],_,_,H1,rfl,I2,Oh a _ _ (Nat.succ_ne_self _),⟨⟨_,he⟩,hi⟩,λ b hb=> ?_,q⟩;have hb':s1.heap.objs.size<=b:=by
      rcases List.mem_cons.mp hb with z | z
      · rw [z];exact Nat.le_succ _
      · have z:b=s1.heap.objs.size:=by simpa using z
        rw [z];exact Nat.le_refl _
    exact I1.fpOk hb' (I1.hok.fresh hb')
end
section
variable {X:Cx} {elts:List Expr} {k:Nat} {tpos:Pos} {K:PySem.W.Frag}
end
def BF (tp:Bool) (h:Heap) (it l:Addr) (i:Nat):Prop:=if tp=true then h.IsTupleIter it l i else h.IsListIter it l i
def Bi (tp:Bool) (h:Heap) (l:Addr) (xs:Array Value):Prop:=if tp=true then h.IsTuple l xs else h.IsList l xs
theorem Ar {tp:Bool} {h h':Heap} {it l:Addr} {i:Nat} (x:BF tp h it l i) (k:∀ o,h.get? it=some o->h'.get? it=some o):BF tp h' it l i:=by
  cases tp with
  | false=>obtain ⟨o,e,r⟩:=(show h.IsListIter it l i from x);exact (show h'.IsListIter it l i from ⟨o,k o e,r⟩)
  | true=>obtain ⟨o,e,r⟩:=(show h.IsTupleIter it l i from x);exact (show h'.IsTupleIter it l i from ⟨o,k o e,r⟩)
theorem Bw {tp:Bool} {h h':Heap} {l:Addr} {xs:Array Value} (x:Bi tp h l xs) (k:∀ o,h.get? l=some o->h'.get? l=some o):Bi tp h' l xs:=by
  cases tp with
  | false=>obtain ⟨o,e,r⟩:=(show h.IsList l xs from x);exact (show h'.IsList l xs from ⟨o,k o e,r⟩)
  | true=>obtain ⟨o,e,r⟩:=(show h.IsTuple l xs from x);exact (show h'.IsTuple l xs from ⟨o,k o e,r⟩)
theorem Bl {tp:Bool} {h:Heap} {it l:Addr} {i:Nat} (x:BF tp h it l i):∃ o,h.get? it=some o/\o.data= .fields #[.ref l, .int i 0]:=by
  cases tp with
  | false=>obtain ⟨o,e,_,d⟩:=(show h.IsListIter it l i from x);exact ⟨o,e,d⟩
  | true=>obtain ⟨o,e,_,d⟩:=(show h.IsTupleIter it l i from x);exact ⟨o,e,d⟩
theorem Cz {tp:Bool} {h:Heap} {l:Addr} {xs:Array Value} (x:Bi tp h l xs):∃ o n,h.get? l=some o/\o.data= .seq xs n:=by
  cases tp with
  | false=>obtain ⟨o,e,_,n,d⟩:=(show h.IsList l xs from x);exact ⟨o,n,e,d⟩
  | true=>obtain ⟨o,e,_,n,d⟩:=(show h.IsTuple l xs from x);exact ⟨o,n,e,d⟩
section
variable {prog:Program} {w:World} {A:Around} {E:Value->Shared->Prop} {s:Shared}
theorem Dm {tp:Bool} {it l:Addr} {i:Nat} {xs:Array Value} {x:Value} {Q:Value->Shared->Prop} (ht:BF tp s.heap it l i) (hq:Bi tp s.heap l xs) (hx:xs[i]?=some x)
    (k:∀ h',BF tp h' it l (i+1)->Heap.SameBut it s.heap h'->Q x { s with heap:=h' }):wpAny (model prog w) A (Builtin.SmallTypes.nextOf (.ref it)) Q E s:=by
  cases tp with
  | false=>exact wpAny_nextOf_list_item (show s.heap.IsListIter it l i from ht) (show s.heap.IsList l xs from hq) hx k
  | true=>
    have ht:s.heap.IsTupleIter it l i:=ht;obtain ⟨ob,eb,cb,db⟩:=id ht;obtain ⟨ol,el,_,nl,dl⟩:=(show s.heap.IsTuple l xs from hq);unfold Builtin.SmallTypes.nextOf;refine wpAny_bind (wpAny_callSpecial?_slot (name:=Str.ofString "__next__") ht.typeIs F.slot_tuple_iterator_next (wpAny_call_entry F.slot_tuple_iterator_next ht.typeIs F.entry_tuple_iterator_next ?_ (F.args_tuple_iterator_next_1 _)));show wpAny _ _ (field (.ref it) 0 >>= _) _ _ s;refine wpAny_bind (wpAny_field eb db (x:= .ref l) rfl ?_);show wpAny _ _ (if (Value.ref l == Value.none)=true then _ else _) _ _ s;rw [if_neg (show ¬ ((Value.ref l == Value.none)=true) from Bool.false_ne_true)];show wpAny _ _ (field (.ref it) 1 >>= _) _ _ s;refine wpAny_bind (wpAny_field eb db (x:= .int i 0) rfl ?_);show wpAny _ _ (seqItems? (.ref l) >>= _) _ _ s;refine wpAny_bind (wpAny_seqItems el dl ?_);simp only [Int.toNat_natCast,hx];refine wpAny_bind (wpAny_setField eb db (by simp) (wpAny_pure ⟨x,rfl,wpAny_pure (k _ ?_ (Heap.SameBut.update ..))⟩));exact (show Heap.IsTupleIter _ it l (i+1) from ⟨_,Heap.get?_update_self _ eb (Obj.isFreed_of_fields (Obj.data_mapFields db _)),(Obj.cls_mapFields ..).trans cb,by rw [Obj.data_mapFields db];simp [rawInt]⟩)
theorem FH {tp:Bool} {it l:Addr} {i:Nat} {xs:Array Value} {Q:Value->Shared->Prop} (hh:A.handled=none) (ht:BF tp s.heap it l i) (hq:Bi tp s.heap l xs) (hx:xs[i]?=none)
    (k:∀ h' e,Heap.ExtBut it s.heap h'->(∃ o,h'.get? e=some o/\o.cls= .type "StopIteration")->E (.ref e) { s with heap:=h' }):wpAny (model prog w) A (Builtin.SmallTypes.nextOf (.ref it)) Q E s:=by
  cases tp with
  | false=>exact wpAny_nextOf_list_end hh (show s.heap.IsListIter it l i from ht) (show s.heap.IsList l xs from hq) hx k
  | true=>
    have ht:s.heap.IsTupleIter it l i:=ht;obtain ⟨ob,eb,cb,db⟩:=id ht;obtain ⟨ol,el,_,nl,dl⟩:=(show s.heap.IsTuple l xs from hq);unfold Builtin.SmallTypes.nextOf;refine wpAny_bind (wpAny_callSpecial?_slot (name:=Str.ofString "__next__") ht.typeIs F.slot_tuple_iterator_next (wpAny_call_entry F.slot_tuple_iterator_next ht.typeIs F.entry_tuple_iterator_next ?_ (F.args_tuple_iterator_next_1 _)));show wpAny _ _ (field (.ref it) 0 >>= _) _ _ s;refine wpAny_bind (wpAny_field eb db (x:= .ref l) rfl ?_);show wpAny _ _ (if (Value.ref l == Value.none)=true then _ else _) _ _ s;rw [if_neg (show ¬ ((Value.ref l == Value.none)=true) from Bool.false_ne_true)];show wpAny _ _ (field (.ref it) 1 >>= _) _ _ s;refine wpAny_bind (wpAny_field eb db (x:= .int i 0) rfl ?_);show wpAny _ _ (seqItems? (.ref l) >>= _) _ _ s;refine wpAny_bind (wpAny_seqItems el dl ?_);simp only [Int.toNat_natCast,hx];refine wpAny_bind (wpAny_rule (wpAny_bind (wpAny_setField eb db (by simp) ?_)));show wpAny _ _ (newExc (.type "StopIteration") [] >>= _) _ _ _;refine wpAny_bind ?_;simp only [newExc,newTuple];refine wpAny_bind (wpAny_newObj_type ?_ (by size_fits));refine wpAny_bind (m:=firstArgMember _ _) (wpAny_of_eq (a:=Value.none) (by first | rfl | (simp only [firstArgMember];rfl)) ?_);refine wpAny_newObj_type ?_ (by size_fits);simp only [raiseNew];refine wpAny_bind (wpAny_handled ?_)
    first | rw [show A.in1.handled=none from hh] | rw [hh]
    exact wpAny_bind (wpAny_pure (wpAny_throw (k _ _ (((Heap.SameBut.update ..).extBut.push _).push _) ⟨_,Heap.get?_push_size _ rfl,rfl⟩)))
end
section
variable {prog:Program} {w:World} {A:Around} {E:Value->Shared->Prop} {s:Shared}
structure ZipSt (t1 t2:Bool) (h:Heap) (z TI TO i1 i2 l1 l2:Addr) (k:Nat):Prop where
  hz:IsZip h z TI TO .none
  hTI:IsPair h TI (.ref i1) (.ref i2)
  hTO:∃ c d,IsPair h TO c d
  h1:BF t1 h i1 l1 k
  h2:BF t2 h i2 l2 k
theorem JD {t1 t2:Bool} {z TI TO i1 i2 l1 l2:Addr} {k:Nat} {xs ys:Array Value} {x y:Value} {Q:Value->Shared->Prop} (D:ZipApart z TI TO i1 i2 l1 l2) (Z:ZipSt t1 t2 s.heap z TI TO i1 i2 l1 l2 k)
    (q1:Bi t1 s.heap l1 xs) (q2:Bi t2 s.heap l2 ys) (hx:xs[k]?=some x) (hy:ys[k]?=some y)
    (fin:∀ h',IsZip h' z TI TO (rawInt s.heap.objs.size)->IsPair h' TO x y->BF t1 h' i1 l1 (k+1)->BF t2 h' i2 l2 (k+1)->IsPair h' s.heap.objs.size x y->
      (∀ c o,c≠z->c≠TO->c≠i1->c≠i2->s.heap.get? c=some o->h'.get? c=some o)->Q (.ref s.heap.objs.size) { s with heap:=h' }):
    wpAny (model prog w) A (Builtin.«zip.__next__» ⟨[.ref z],[]⟩) (λ fin s'=>∃ v,fin= .done (.ret v)/\Q v s') E s:=by
  obtain ⟨hz,hTI,⟨c0,d0,hTO⟩,g1,g2⟩:=Z;show wpAny _ _ (field (.ref z) 2 >>= _) _ _ _;refine wpAny_bind (wpAny_field hz rfl (x:= .bool false) rfl ?_);show wpAny _ _ (field (.ref z) 3 >>= _) _ _ _;refine wpAny_bind (wpAny_field hz rfl (x:= .ref TI) rfl (wpAny_bind (wpAny_seqItems hTI rfl ?_)));show wpAny _ _ (Builtin.SmallTypes.ownedTupleIsFree (.ref z) >>= _) _ _ _;refine wpAny_bind ?_;unfold Builtin.SmallTypes.ownedTupleIsFree;refine wpAny_bind (wpAny_field hz rfl (x:= .none) rfl (wpAny_pure ?_));simp only [if_true];refine wpAny_bind (wpAny_rule (wpAny_bind (wpAny_field hz rfl (x:= .ref TO) rfl (wpAny_bind (wpAny_setField_rec hz (by simp) λ a1 za b1=> ?_)))));replace za:IsZip a1 z TI TO .ellipsis:=za;refine wpAny_bind ?_;simp only [List.zipIdx_cons,List.zipIdx_nil,List.forIn_cons,List.forIn_nil];refine wpAny_bind (wpAny_bind (wpAny_onRaise ?_));show wpAny _ _ (Builtin.SmallTypes.nextOf (.ref i1) >>= _) _ _ _;refine wpAny_bind (Dm (s:={ s with heap:=a1 }) (Ar g1 λ o e=>b1.extBut _ o D.i1z e) (Bw q1 λ o e=>b1.extBut _ o D.l1z e) hx λ a2 i1a b2=>wpAny_pure ?_);have to2:IsPair a2 TO c0 d0:=b2.extBut _ _ D.TOi1 (b1.extBut _ _ D.TOz hTO);refine wpAny_bind (wpAny_seqItems to2 rfl (wpAny_bind (wpAny_updateSeq_pair to2 λ a3 to3 b3=> ?_)));replace to3:IsPair a3 TO x d0:=to3;refine wpAny_bind (wpAny_letGo (wpAny_pure (wpAny_bind (wpAny_bind (wpAny_onRaise ?_)))));show wpAny _ _ (Builtin.SmallTypes.nextOf (.ref i2) >>= _) _ _ _;have up3:∀ c o,c≠z->c≠i1->c≠TO->s.heap.get? c=some o->a3.get? c=some o:=λ c o n1 n2 n3 e=>b3.extBut _ o n3 (b2.extBut _ o n2 (b1.extBut _ o n1 e));refine wpAny_bind (Dm (s:={ s with heap:=a3 }) (Ar g2 λ o e=>up3 _ o D.i2z D.i12.symm D.TOi2.symm e) (Bw q2 λ o e=>up3 _ o D.l2z D.l2i1 D.l2TO e) hy λ a4 i2a b4=>wpAny_pure ?_);have to4:IsPair a4 TO x d0:=b4.extBut _ _ D.TOi2 to3;refine wpAny_bind (wpAny_seqItems to4 rfl (wpAny_bind (wpAny_updateSeq_pair to4 λ a5 to5 b5=> ?_)));replace to5:IsPair a5 TO x y:=to5;refine wpAny_bind (wpAny_letGo (wpAny_pure (wpAny_pure (wpAny_bind (wpAny_seqItems to5 rfl (wpAny_bind (wpAny_newTuple ?_)))))));have sz:a5.objs.size=s.heap.objs.size:=by rw [b5.1,b4.1,b3.1,b2.1,b1.1]
  have z5:IsZip a5 z TI TO .ellipsis:=b5.extBut _ _ D.TOz.symm (b4.extBut _ _ D.i2z.symm (b3.extBut _ _ D.TOz.symm (b2.extBut _ _ D.i1z.symm za)));have k5:∀ c o,c≠z->c≠TO->c≠i1->c≠i2->s.heap.get? c=some o->a5.get? c=some o:=λ c o n1 n2 n3 n4 e=>b5.extBut _ _ n2 (b4.extBut _ _ n4 (up3 c o n1 n3 n2 e));have f1:BF t1 a5 i1 l1 (k+1):=Ar i1a λ o e=>b5.extBut _ o D.TOi1.symm (b4.extBut _ o D.i12 (b3.extBut _ o D.TOi1.symm e));have f2:BF t2 a5 i2 l2 (k+1):=Ar i2a λ o e=>b5.extBut _ o D.TOi2.symm e;have zlt:z<a5.objs.size:=Heap.lt_size z5;show wpAny _ _ (Builtin.SmallTypes.ownedTupleHandOut (.ref z) (.ref a5.objs.size) >>= _) _ _ _;refine wpAny_bind ?_;unfold Builtin.SmallTypes.ownedTupleHandOut;have z6:IsZip (a5.push { cls:= .type "tuple",data:= .seq #[x,y] }) z TI TO .ellipsis:=Heap.get?_push_of_some _ z5;refine wpAny_bind (wpAny_setField_rec z6 (by simp) λ a7 z7 b7=> ?_);replace z7:IsZip a7 z TI TO (rawInt a5.objs.size):=z7;refine wpAny_setField_rec z7 (by simp) λ a8 z8 b8=> ?_;replace z8:IsZip a8 z TI TO (rawInt a5.objs.size):=z8;have up:∀ c o,c≠z->a5.get? c=some o->a8.get? c=some o:=λ c o n e=>b8.extBut _ _ n (b7.extBut _ _ n (Heap.get?_push_of_some _ e));have t8:IsPair a8 a5.objs.size x y:=b8.extBut _ _ (Nat.ne_of_gt zlt) (b7.extBut _ _ (Nat.ne_of_gt zlt) (Heap.get?_push_size _ rfl));rw [sz] at z8 t8;refine wpAny_pure ⟨_,rfl,?_⟩;show Q (.ref a5.objs.size) _;rw [sz];exact fin a8 z8 (up _ _ D.TOz to5) (Ar f1 λ o e=>up _ o D.i1z e) (Ar f2 λ o e=>up _ o D.i2z e) t8 λ c o n1 n2 n3 n4 e=>up c o n1 (k5 c o n1 n2 n3 n4 e)
theorem KM {t1 t2:Bool} {z TI TO i1 i2 l1 l2:Addr} {k:Nat} {xs ys:Array Value} {Q:Fin->Shared->Prop} (hh:A.handled=none) (D:ZipApart z TI TO i1 i2 l1 l2) (Z:ZipSt t1 t2 s.heap z TI TO i1 i2 l1 l2 k)
    (q1:Bi t1 s.heap l1 xs) (q2:Bi t2 s.heap l2 ys) (hend:xs[k]?=none\/ys[k]?=none)
    (fin:∀ h' e,(∀ c o,c≠z->c≠TO->c≠i1->c≠i2->s.heap.get? c=some o->h'.get? c=some o)->(∃ o,h'.get? e=some o/\o.cls= .type "StopIteration")->E (.ref e) { s with heap:=h' }):
    wpAny (model prog w) A (Builtin.«zip.__next__» ⟨[.ref z],[]⟩) Q E s:=by
  obtain ⟨hz,hTI,⟨c0,d0,hTO⟩,g1,g2⟩:=Z;show wpAny _ _ (field (.ref z) 2 >>= _) _ _ _;refine wpAny_bind (wpAny_field hz rfl (x:= .bool false) rfl ?_);show wpAny _ _ (field (.ref z) 3 >>= _) _ _ _;refine wpAny_bind (wpAny_field hz rfl (x:= .ref TI) rfl (wpAny_bind (wpAny_seqItems hTI rfl ?_)));show wpAny _ _ (Builtin.SmallTypes.ownedTupleIsFree (.ref z) >>= _) _ _ _;refine wpAny_bind ?_;unfold Builtin.SmallTypes.ownedTupleIsFree;refine wpAny_bind (wpAny_field hz rfl (x:= .none) rfl (wpAny_pure ?_));simp only [if_true];refine wpAny_bind (wpAny_rule (wpAny_bind (wpAny_field hz rfl (x:= .ref TO) rfl (wpAny_bind (wpAny_setField_rec hz (by simp) λ a1 za b1=> ?_)))));replace za:IsZip a1 z TI TO .ellipsis:=za;refine wpAny_bind ?_;simp only [List.zipIdx_cons,List.zipIdx_nil,List.forIn_cons,List.forIn_nil];refine wpAny_bind (wpAny_bind (wpAny_onRaise ?_));show wpAny _ _ (Builtin.SmallTypes.nextOf (.ref i1) >>= _) _ _ _;have g1':=Ar g1 λ o e=>b1.extBut _ o D.i1z e;have q1':=Bw q1 λ o e=>b1.extBut _ o D.l1z e;cases hx:xs[k]? with
  | none=>
    refine wpAny_bind (FH (s:={ s with heap:=a1 }) hh g1' q1' hx λ a2 e b2 he=> ?_);obtain ⟨oe,eo,ce⟩:=he;have z2:IsZip a2 z TI TO .ellipsis:=b2 _ _ D.i1z.symm za;have nz:e≠z:=λ q=>by subst q;rw [z2] at eo;cases eo;simp at ce
    exact wpAny_setField_rec z2 (by simp) λ a3 _ b3=>fin a3 e (λ c o n1 _ n3 _ q=>b3.extBut _ _ n1 (b2 _ _ n3 (b1.extBut _ _ n1 q))) ⟨oe,b3.extBut _ _ nz eo,ce⟩
  | some x=>
    have hy:ys[k]?=none:=by
      rcases hend with q | q
      · rw [hx] at q;cases q
      · exact q
    refine wpAny_bind (Dm (s:={ s with heap:=a1 }) g1' q1' hx λ a2 i1a b2=>wpAny_pure ?_);have to2:IsPair a2 TO c0 d0:=b2.extBut _ _ D.TOi1 (b1.extBut _ _ D.TOz hTO);refine wpAny_bind (wpAny_seqItems to2 rfl (wpAny_bind (wpAny_updateSeq_pair to2 λ a3 to3 b3=> ?_)));refine wpAny_bind (wpAny_letGo (wpAny_pure (wpAny_bind (wpAny_bind (wpAny_onRaise ?_)))));show wpAny _ _ (Builtin.SmallTypes.nextOf (.ref i2) >>= _) _ _ _;have up3:∀ c o,c≠z->c≠i1->c≠TO->s.heap.get? c=some o->a3.get? c=some o:=λ c o n1 n2 n3 e=>b3.extBut _ o n3 (b2.extBut _ o n2 (b1.extBut _ o n1 e));refine wpAny_bind (FH (s:={ s with heap:=a3 }) hh (Ar g2 λ o e=>up3 _ o D.i2z D.i12.symm D.TOi2.symm e) (Bw q2 λ o e=>up3 _ o D.l2z D.l2i1 D.l2TO e) hy λ a4 e b4 he=> ?_);obtain ⟨oe,eo,ce⟩:=he;have z4:IsZip a4 z TI TO .ellipsis:=b4 _ _ D.i2z.symm (b3.extBut _ _ D.TOz.symm (b2.extBut _ _ D.i1z.symm za));have nz:e≠z:=λ q=>by subst q;rw [z4] at eo;cases eo;simp at ce
    exact wpAny_setField_rec z4 (by simp) λ a5 _ b5=>fin a5 e (λ c o n1 n2 n3 n4 q=>b5.extBut _ _ n1 (b4 _ _ n4 (up3 c o n1 n3 n2 q))) ⟨oe,b5.extBut _ _ nz eo,ce⟩
noncomputable def Jr (tp:Bool):String:=if tp=true then "tuple_iterator" else "list_iterator"
theorem Hh {tp:Bool} {l:Addr} {xs:Array Value} {Q:Value->Shared->Prop} (hq:Bi tp s.heap l xs) (k:Q (.ref s.heap.objs.size) { s with heap:=s.heap.push { cls:= .type (Jr tp),data:= .fields #[.ref l, .int 0 0] } }):
    wpAny (model prog w) A (pyIter (.ref l)) Q E s:=by
  cases tp with
  | false=>exact wpAny_pyIter_list (show s.heap.IsList l xs from hq) k
  | true=>exact wpAny_pyIter_tuple (show s.heap.IsTuple l xs from hq) k
theorem Gq {tp:Bool} {h:Heap} {l:Addr}:BF tp (h.push { cls:= .type (Jr tp),data:= .fields #[.ref l, .int 0 0] }) h.objs.size l 0:=by
  cases tp with
  | false=>exact (show Heap.IsListIter _ _ l 0 from ⟨_,Heap.get?_push_size _ rfl,rfl,rfl⟩)
  | true=>exact (show Heap.IsTupleIter _ _ l 0 from ⟨_,Heap.get?_push_size _ rfl,rfl,rfl⟩)
noncomputable abbrev zs1 (t1:Bool) (h:Heap) (l1:Addr):Heap:=h.push { cls:= .type (Jr t1),data:= .fields #[.ref l1, .int 0 0] }
noncomputable abbrev zs2 (t1 t2:Bool) (h:Heap) (l1 l2:Addr):Heap:=(zs1 t1 h l1).push { cls:= .type (Jr t2),data:= .fields #[.ref l2, .int 0 0] }
noncomputable abbrev zs3 (t1 t2:Bool) (h:Heap) (l1 l2:Addr):Heap:=(zs2 t1 t2 h l1 l2).push { cls:= .type "tuple",data:= .seq #[.ref h.objs.size, .ref (zs1 t1 h l1).objs.size] }
noncomputable abbrev zs4 (t1 t2:Bool) (h:Heap) (l1 l2:Addr):Heap:=(zs3 t1 t2 h l1 l2).push { cls:= .type "tuple",data:= .seq #[.none, .none] }
noncomputable abbrev zs5 (t1 t2:Bool) (h:Heap) (l1 l2:Addr):Heap:=(zs4 t1 t2 h l1 l2).push { cls:= .type "zip",data:= .fields #[.none, .bool false, .bool false, .ref (zs2 t1 t2 h l1 l2).objs.size, .ref (zs3 t1 t2 h l1 l2).objs.size] }
theorem LK (t1 t2:Bool) (l1 l2:Addr) (xs ys:Array Value):
    Meets (Builtin.«zip.__new__» ⟨[.type "zip", .ref l1, .ref l2],[]⟩) (λ _ R s=>Bi t1 s.heap l1 xs/\Bi t2 s.heap l2 ys/\
      R (.ok (.ret (.ref (zs4 t1 t2 s.heap l1 l2).objs.size))) { s with heap:=zs5 t1 t2 s.heap l1 l2 }):=
  .of_wp λ prog w A R s h=>by
    obtain ⟨hp,g,d,tk,os⟩:=s;obtain ⟨m1,m2,h⟩:=h;have hsub:=sub_zip;have M1:Bi t1 (Shared.heap ⟨hp,g,d,tk,os⟩) l1 xs:=m1;have M2:Bi t2 (Shared.heap ⟨hp.push { cls:= .type (Jr t1),data:= .fields #[.ref l1, .int 0 0] },g,d,tk,os⟩) l2 ys:=Bw m2 λ o e=>Heap.get?_push_of_some _ e
    wp_walk using Hh M1,Hh M2
    exact ⟨_,rfl,h⟩
theorem JE {t1 t2:Bool} {l1 l2:Addr} {xs ys:Array Value} {Q:Value->Shared->Prop} (m1:Bi t1 s.heap l1 xs) (m2:Bi t2 s.heap l2 ys)
    (k:∀ h',ZipSt t1 t2 h' (s.heap.objs.size+4) (s.heap.objs.size+2) (s.heap.objs.size+3) s.heap.objs.size (s.heap.objs.size+1) l1 l2 0->
      (∀ c o,s.heap.get? c=some o->h'.get? c=some o)->Q (.ref (s.heap.objs.size+4)) { s with heap:=h' }):
    wpAny (model prog w) A (call (.type "zip") [.ref l1, .ref l2]) Q E s:=by
  refine callType_new F.called_zip (by decide) (F.typeCall_zip_2 _ _) (F.newCall_zip_2 _ _) (λ obj=>F.args_object_init_3 obj _ _) F.entry_zip_new (LK t1 t2 l1 l2 xs ys) ⟨m1,m2,?_⟩;have n1:(zs1 t1 s.heap l1).objs.size=s.heap.objs.size+1:=Heap.size_push ..;have n2:(zs2 t1 t2 s.heap l1 l2).objs.size=s.heap.objs.size+2:=by rw [Heap.size_push,n1]
  have n3:(zs3 t1 t2 s.heap l1 l2).objs.size=s.heap.objs.size+3:=by rw [Heap.size_push,n2]
  have n4:(zs4 t1 t2 s.heap l1 l2).objs.size=s.heap.objs.size+4:=by rw [Heap.size_push,n3]
  have g5:(zs5 t1 t2 s.heap l1 l2).get? (zs4 t1 t2 s.heap l1 l2).objs.size=some _:=Heap.get?_push_size _ rfl;have g4:(zs5 t1 t2 s.heap l1 l2).get? (zs3 t1 t2 s.heap l1 l2).objs.size=some _:=Heap.get?_push_of_some _ (Heap.get?_push_size _ rfl);have g3:(zs5 t1 t2 s.heap l1 l2).get? (zs2 t1 t2 s.heap l1 l2).objs.size=some _:=Heap.get?_push_of_some _ (Heap.get?_push_of_some _ (Heap.get?_push_size _ rfl));have up2:∀ c o,(zs2 t1 t2 s.heap l1 l2).get? c=some o->(zs5 t1 t2 s.heap l1 l2).get? c=some o:=λ c o e=>Heap.get?_push_of_some _ (Heap.get?_push_of_some _ (Heap.get?_push_of_some _ e));have s2:BF t2 (zs5 t1 t2 s.heap l1 l2) (zs1 t1 s.heap l1).objs.size l2 0:=Ar Gq λ o e=>up2 _ o e;have s1:BF t1 (zs5 t1 t2 s.heap l1 l2) s.heap.objs.size l1 0:=Ar Gq λ o e=>up2 _ o (Heap.get?_push_of_some _ e);show _/\_;rw [n2,n3,n4] at g5;rw [n1,n2] at g3;rw [n3] at g4;rw [n1] at s2;rw [n4];exact ⟨⟨_,g5,rfl⟩,k _ ⟨g5,g3,⟨_,_,g4⟩,s1,s2⟩ λ c o e=>up2 c o (Heap.get?_push_of_some _ (Heap.get?_push_of_some _ e))⟩
end
def SqS (tp:Bool) (K:PySem.W.Frag) (H:Hp) (a:Addr) (xs:List V):Prop:=if tp=true then SqT K H a xs else SqL K H a xs
theorem Bg {X:Cx} {pins:List (Addr × Obj)} {σ:St} {H:Hp} {s:Shared} {tp:Bool} {a:Addr} {xs:List V} (I:Inv X pins σ H s) (h:SqS tp X.K H a xs):∃ its:List Value,Vals xs its/\Bi tp s.heap a its.toArray:=by
  cases tp with
  | false=>
    obtain ⟨its,r,p,_⟩:=I.list (show SqL X.K H a xs from h);exact ⟨its,r,(show s.heap.IsList a its.toArray from p.isList)⟩
  | true=>
    obtain ⟨its,r,p,_⟩:=I.tuple (show SqT X.K H a xs from h);exact ⟨its,r,(show s.heap.IsTuple a its.toArray from p)⟩
theorem Kr {X:Cx} {pins:List (Addr × Obj)} {σ:St} {H:Hp} {s:Shared} {tp:Bool} {a:Addr} {xs ys:List V} (I:Inv X pins σ H s) (h:SqS tp X.K H a xs) (h2:SqS tp X.K H a ys):xs=ys:=by
  cases tp with
  | false=>exact I.list_inj h h2
  | true=>exact I.tuple_inj h h2
noncomputable def Izs (t1 t2:Bool) (K:PySem.W.Frag) (a b:Addr):It:=
  ⟨λ i H=>∃ xs ys x y,SqS t1 K H a xs/\SqS t2 K H b ys/\xs[i]?=some x/\ys[i]?=some y,
   λ i H v H'=>∃ p x y,H p=none/\v= .ref p/\H'=upd H p (.tup [x,y])/\(∀ xs,SqS t1 K H a xs->xs[i]?=some x)/\∀ ys,SqS t2 K H b ys->ys[i]?=some y,
   λ i H=>∃ xs ys,SqS t1 K H a xs/\SqS t2 K H b ys/\(xs.length<=i\/ys.length<=i)⟩
theorem Rb {P:Program} {w:World} {K:PySem.W.Frag} {elts:List Expr} {k:Nat} {pos:Pos} (t1 t2:Bool) (a b z TI TO i1 i2:Addr) (D:ZipApart z TI TO i1 i2 a b):
    Turn P w K (.Tuple elts k pos) (Izs t1 t2 K a b) [z,TI,TO,i1,i2] z (λ i h=>ZipSt t1 t2 h z TI TO i1 i2 a b i) where
  mem:=by simp
  obj:=λ i h st c hc=>by
    obtain ⟨hz,hTI,⟨x,y,hTO⟩,h1,h2⟩:=st;obtain ⟨o1,e1,d1⟩:=Bl h1;obtain ⟨o2,e2,d2⟩:=Bl h2;simp only [List.mem_cons,List.not_mem_nil,or_false] at hc;rcases hc with q | q | q | q | q
    · subst q;exact ⟨_,hz,λ v z=>by cases (show Data.fields _=Data.cell v from z)⟩
    · subst q;exact ⟨_,hTI,λ v z=>by cases (show Data.seq _ _=Data.cell v from z)⟩
    · subst q;exact ⟨_,hTO,λ v z=>by cases (show Data.seq _ _=Data.cell v from z)⟩
    · subst q;exact ⟨o1,e1,λ v z=>by rw [d1] at z;cases z⟩
    · subst q;exact ⟨o2,e2,λ v z=>by rw [d2] at z;cases z⟩
  keep:=λ i h h' st kp=>by
    obtain ⟨hz,hTI,⟨x,y,hTO⟩,h1,h2⟩:=st;exact ⟨kp z (by simp) _ hz,kp TI (by simp) _ hTI,⟨x,y,kp TO (by simp) _ hTO⟩,Ar h1 λ o q=>kp i1 (by simp) o q,Ar h2 λ o q=>kp i2 (by simp) o q⟩
  item:=by
    intro X hP hw hK hc i pins s σ H E I hf st hg;subst hP hw hK;obtain ⟨xs,ys,x,y,hq1,hq2,hx,hy⟩:=hg;obtain ⟨its,rv,p1⟩:=Bg I hq1;obtain ⟨its2,rv2,p2⟩:=Bg I hq2;obtain ⟨u,hu,ru⟩:=rv.get hx;obtain ⟨u2,hu2,ru2⟩:=rv2.get hy;have lt:∀ q∈[z,TI,TO,i1,i2],q<s.heap.objs.size:=λ q hq=>by
      obtain ⟨hz,hTI,⟨c,d,hTO⟩,h1,h2⟩:=id st;obtain ⟨_,e1,_⟩:=Bl h1;obtain ⟨_,e2,_⟩:=Bl h2;simp only [List.mem_cons,List.not_mem_nil,or_false] at hq;rcases hq with q' | q' | q' | q' | q'
      · subst q';exact Heap.lt_size hz
      · subst q';exact Heap.lt_size hTI
      · subst q';exact Heap.lt_size hTO
      · subst q';exact Heap.lt_size e1
      · subst q';exact Heap.lt_size e2
    have hT0:s.TypeIs (.ref z) "zip":=⟨_,st.hz,rfl⟩;unfold pyNext;refine wpAny_bind (wpAny_attempt (wpAny_callSpecial?_slot (name:=Str.ofString "__next__") hT0 F.slot_zip_next (wpAny_call_entry F.slot_zip_next hT0 F.entry_zip_next
      (JD D st p1 p2 (x:=u) (y:=u2) (by simpa using hu) (by simpa using hu2) λ h' hz' hTO' h1' h2' hT hk=>wpAny_pure ?_) (F.args_zip_next_1 _))))
    have I0:=I.laid (h':=s.heap.push { cls:= .type "tuple",data:= .seq #[u,u2] }) (a:=s.heap.objs.size) (o:= .tup [x,y]) (t':=s.toks) (λ _ _ q=>Heap.get?_push_of_some _ q) (Nat.le_refl _)
      ⟨(by show 2<=sizeLine;decide),[u,u2], .cons ru (.cons ru2 .nil),⟨_,Heap.get?_push_size _ rfl,rfl,_,rfl⟩⟩
    have f0:∀ b∈[z,TI,TO,i1,i2],Cj X pins (upd H s.heap.objs.size (.tup [x,y])) b:=λ b hb=>Fl (hf b hb) (Nat.ne_of_lt (lt b hb));have I1:=Inv.turnedL (t':=s.toks) (h':=h') [z,TI,TO,i1,i2] I0 f0 (λ b o hb q=>by
      rcases Heap.get?_push_cases (show (s.heap.push { cls:= .type "tuple",data:= .seq #[u,u2] }).get? b=some o from q) with ⟨q1,q2⟩ | q
      · rw [q1,q2];exact hT
      · exact hk b o (λ e=>hb (by simp [e])) (λ e=>hb (by simp [e])) (λ e=>hb (by simp [e])) (λ e=>hb (by simp [e])) q)
    refine ⟨.ref s.heap.objs.size,rfl,wpAny_letOwnedTupleGo_zip (s:={ s with heap:=h' }) hz' λ h3 hz3 sb=> ?_⟩;refine ⟨.ref s.heap.objs.size,_,Inv.turnedL (t':=s.toks) (h':=h3) [z,TI,TO,i1,i2] I1 f0 (λ b o hb q=>(sb.2 b λ e=>hb (by simp [e])).trans q),rfl,
      ⟨_,x,y,I.fresh,rfl,rfl,λ l hl=>by rw [Kr I hl hq1];exact hx,λ l hl=>by rw [Kr I hl hq2];exact hy⟩,
      ⟨hz3,(sb.2 TI D.TIz).trans (hk TI _ D.TIz D.TITO D.TIi1 D.TIi2 st.hTI),⟨u,u2,(sb.2 TO D.TOz).trans hTO'⟩,Ar h1' λ o q=>(sb.2 i1 D.i1z).trans q,Ar h2' λ o q=>(sb.2 i2 D.i2z).trans q⟩,λ b hb=>(f0 b hb).1⟩
  done:=by
    intro X hP hw hK hc i pins s σ H E I hf st hg;subst hP hw hK;obtain ⟨xs,ys,hq1,hq2,hx⟩:=hg;obtain ⟨its,rv,p1⟩:=Bg I hq1;obtain ⟨its2,rv2,p2⟩:=Bg I hq2;have hl:=rv.length;have hl2:=rv2.length;have hT0:s.TypeIs (.ref z) "zip":=⟨_,st.hz,rfl⟩;unfold pyNext;refine wpAny_bind (wpAny_attempt (wpAny_callSpecial?_slot (name:=Str.ofString "__next__") hT0 F.slot_zip_next (wpAny_call_entry F.slot_zip_next hT0 F.entry_zip_next
      (KM (I.ok.hd hc) D st p1 p2 (hx.elim (λ q=> .inl (by simp;omega)) λ q=> .inr (by simp;omega)) λ h' e eb he=> ?_) (F.args_zip_next_1 _))))
    obtain ⟨oe,eo,ce⟩:=he;refine wpAny_bind (wpAny_isInstance (T:="StopIteration") (b:=true) ⟨oe,eo,ce⟩ isSubtype_stop (wpAny_pure ?_));exact ⟨rfl,I.turnedL (t':=s.toks) [z,TI,TO,i1,i2] hf λ b o hb q=>eb b o (λ e=>hb (by simp [e])) (λ e=>hb (by simp [e])) (λ e=>hb (by simp [e])) (λ e=>hb (by simp [e])) q⟩
  self:=λ _ _ _ _ _ st h=>wpAny_pyIter_zip st.hz h
section
variable {X:Cx} {elts:List Expr} {k:Nat} {tpos:Pos} {K:PySem.W.Frag}
def iZs (K:PySem.W.Frag) (ta:TA):TI:=λ σ H R=>ta σ H λ vs H1=>∃ t1 t2 a b,vs=[.ref a, .ref b]/\(∃ xs,SqS t1 K H1 a xs)/\(∃ ys,SqS t2 K H1 b ys)/\R (Izs t1 t2 K a b) H1
theorem UB {l m:Expr} {ta:TA} {p pos:Pos} (hg:Gl X "zip") (hm:X.mg "zip"=none) (ha:PA X [l,m] ta) (hK:X.K=K:=by rfl) (hs:starEach [l,m] X.env=[(false,eval l X.env),(false,eval m X.env)]:=by rfl) (hs2:starEach [m] X.env=[(false,eval m X.env)]:=by rfl):
    PI X (.Tuple elts k tpos) (.Call (.Name "zip" p) [l,m] [] pos) (iZs K ta):=by
  subst hK;intro pins s σ H R I h;refine Call_ (B3 I hg hm Ln (PyProof.Rows.callWith_type1 (thn (ha pos pins s σ H _ I h) λ us s1 ⟨vs,H1,I1,r1,q1⟩=> ?_) (by rw [hs,hs2]) (by rw [hs2];rfl)));obtain ⟨t1,t2,a,b,e,⟨xs,hq⟩,⟨ys,hq2⟩,q⟩:=q1;subst e;cases r1 with
  | cons r rr=>
    cases rr with
    | cons r' rr=>
    cases rr;cases r;cases r';obtain ⟨its,rv,pl⟩:=Bg I1 hq;obtain ⟨its2,rv2,pl2⟩:=Bg I1 hq2;obtain ⟨oa,_,ea,_⟩:=Cz pl;obtain ⟨ob,_,eb,_⟩:=Cz pl2;refine JE pl pl2 λ h' st hk=> ?_;refine wpAny_pyIter_zip st.hz ?_;have I2:=I1.kept (t':=s1.toks) hk;refine ⟨s1.heap.objs.size+4,_,_,_,H1,rfl,I2,Rb t1 t2 a b _ _ _ _ _ (PySem.W.ktu_apart s1.heap.objs.size a b (Heap.lt_size ea) (Heap.lt_size eb)),st,λ c hc=> ?_,q⟩;have hb':s1.heap.objs.size<=c:=by
      simp only [List.mem_cons,List.not_mem_nil,or_false] at hc;rcases hc with q | q | q | q | q <;> rw [q] <;> first | exact Nat.le_refl _ | exact Nat.le_add_right _ _
    exact I1.fpOk hb' (I1.hok.fresh hb')
end
section
variable {X:Cx} {K:PySem.W.Frag}
theorem Aw:bootBuiltins "list"=some (.type "list"):=by decide +kernel
theorem AH:bootBuiltins "tuple"=some (.type "tuple"):=by decide +kernel
def Pn (K:PySem.W.Frag):List V->Hp->VK->Prop:=λ xs H Q=>∃ (x:V) (p:Addr) (ns:List String) (t:Value) (b:Bool),xs=[x, .ref p]/\H p=some (.tup (ns.map V.ty))/\TyOf K H x t/\PySem.W.kitAny K t (ns.map Value.type)=some b/\Q (.bl b) H
theorem M8:∀ {ns:List String} {us:List Value},Vals (ns.map V.ty) us->us=ns.map Value.type
  | [],us,r=>by cases r;rfl
  | n::ns,us,r=>by
    cases r with
    | cons r1 r2=>
      cases r1;rw [M8 r2];rfl
theorem Ra (hK:X.K=K:=by rfl):BR X (.builtin "isinstance") (Pn K):=by
  subst hK;intro pins s σ H xs us Q I r h;obtain ⟨x,p,ns,t,b,rfl,hp,ty,e,q⟩:=h;obtain ⟨u,c,rfl,rx,rc⟩:=LD r;cases rc;obtain ⟨_,its,rt,ot,e1,e2,nt,e3⟩:=(show ObjOk X.prog X.w H s.heap p (.tup (ns.map V.ty)) from I.hok p _ hp);have ei:=M8 rt;subst ei;have htp:s.heap.get? p=some ⟨.type "tuple",ot.dict, .seq (ns.map Value.type).toArray nt,ot.slots⟩:=by
    rw [e1];obtain ⟨c,d,da,sl⟩:=ot;simp only at e2 e3;rw [e2,e3]
  have fin:∀ tk,EP X pins σ Q (.bool b) { s with toks:=tk }:=λ tk=>⟨.bl b,H,I.tok tk,rfl,q⟩;cases ty with
  | non=>cases (show u=Value.none from rx);exact PySem.W.kia_tup PySem.W.kitx_none I.kIn True.intro htp e (λ z=>nomatch z) fin
  | bl y=>cases (show u=Value.bool y from rx);exact PySem.W.kia_tup PySem.W.kitx_bool I.kIn True.intro htp e (λ z=>nomatch z) fin
  | int i=>obtain ⟨t,q⟩:=(show ∃ t,u=Value.int i t from rx);cases q;exact PySem.W.kia_tup PySem.W.kitx_int I.kIn True.intro htp e (λ z=>nomatch z) fin
  | str y=>obtain ⟨t,q⟩:=(show ∃ t,u=Value.str y t from rx);cases q;exact PySem.W.kia_tup PySem.W.kitx_str I.kIn True.intro htp e (λ z=>nomatch z) fin
  | flt y=>obtain ⟨t,q⟩:=(show ∃ t,u=Value.float y t from rx);cases q;exact PySem.W.kia_tup PySem.W.kitx_float I.kIn True.intro htp e (λ z=>nomatch z) fin
  | @lst a xs ea=>
    cases (show u=Value.ref a from rx);obtain ⟨_,_,n,_,h1⟩:=(show ObjOk X.prog X.w H s.heap a (.lst xs) from I.hok a _ ea);exact PySem.W.kia_tup PySem.W.kitx_list I.kIn ⟨_,h1,rfl⟩ htp e (λ z=>nomatch z) fin
  | @frz a ob xs ea=>
    cases (show u=Value.ref a from rx);obtain ⟨_,_,_,n,_,h1⟩:=(show ObjOk X.prog X.w H s.heap a (.frz ob (.lst xs)) from I.hok a _ ea);exact PySem.W.kia_tup PySem.W.kitx_list I.kIn ⟨_,h1,rfl⟩ htp e (λ z=>nomatch z) fin
  | @tup a xs ea=>
    cases (show u=Value.ref a from rx);obtain ⟨_,_,_,p⟩:=(show ObjOk X.prog X.w H s.heap a (.tup xs) from I.hok a _ ea);obtain ⟨o,h1,h2,_⟩:=p;exact PySem.W.kia_tup PySem.W.kitx_tuple I.kIn ⟨o,h1,h2⟩ htp e (λ z=>nomatch z) fin
  | @dK a kvs ea=>
    cases (show u=Value.ref a from rx);obtain ⟨_,_,vs,_,p⟩:=(show ObjOk X.prog X.w H s.heap a (.dK kvs) from I.hok a _ ea);obtain ⟨o,es,ep,h1,h2,_⟩:=p;exact PySem.W.kia_tup PySem.W.kitx_dict I.kIn ⟨o,h1,h2.1⟩ htp e (λ z=>nomatch z) fin
  | @dT a kvs ea=>
    cases (show u=Value.ref a from rx);obtain ⟨_,_,xs,_,o,es,ep,h1,h2,_⟩:=(show ObjOk X.prog X.w H s.heap a (.dT kvs) from I.hok a _ ea);exact PySem.W.kia_tup PySem.W.kitx_dict I.kIn ⟨o,h1,h2.1⟩ htp e (λ z=>nomatch z) fin
  | @ins a C dx fs ea cl ha hn htk hm=>
    cases (show u=Value.ref a from rx);obtain ⟨mA,O,_⟩:=FD I.hok ea;obtain ⟨od,J,_⟩:=O.look;exact PySem.W.kia_tup (PySem.W.kitx_own (cl.get _) cl.hd ha hn htk hm) I.kIn J htp e (λ z=>nomatch z) fin
theorem JO {es:List Expr} {k:Nat} {t:TGs} {n:Nat} {pos:Pos} (hc:X.calm=true) (h:PGs X es t) (hK:X.K=K:=by rfl)
    (hn:(assignEach es X.env).length=n:=by rfl) (hst:(assignEach es X.env).findIdx? (·.1)=none:=by rfl):PG X (.Tuple es k pos) (Ht K n t):=by
  subst hK;exact Ot hc h hn hst
variable {scope:Scope} {fr:List (Str × Nat)}
theorem MT {x y:Str} {px py pt:Pos} {k:Nat} (h:Ex X.env.scope X.N scope [x,y] fr=true) (hc:X.calm=true) (C:Addr) (ex:List Addr) (s:Shared) (H:Hp) (hK:X.K=K:=by rfl):
    PG (A8 X scope [x,y] fr C ex s H) (.Tuple [.Name x px, .Name y py] k pt) (Ht K 2 (BX (AE 0) (BX (AE 1) IK))):=by
  subst hK;exact Ot (X:=A8 X scope [x,y] fr C ex s H) hc (AI (HQ h rfl C ex s H) (AI (HQ h rfl C ex s H) FR))
theorem Dc {elt iter:Expr} {x y:Str} {px py pt:Pos} {k:Nat} {ifs:List Expr} {pos:Pos} {wi:TI} {tc:TT} {te:TE} (hi:PI X (.Tuple [.Name x px, .Name y py] k pt) iter wi)
    (ht:∀ C ex s H,PTs (A8 X scope [x,y] (Dj X.N scope) C ex s H) ifs tc) (he:∀ C ex s H,PE (A8 X scope [x,y] (Dj X.N scope) C ex s H) elt te) (hK:X.K=K:=by rfl)
    (hb:Ex X.env.scope X.N scope [x,y] (Dj X.N scope)=true:=by with_unfolding_all rfl) (hc:X.calm=true:=by rfl)
    (hs:∀ x,foldedSetIterable iter X.env x=pure x:=by intro _;rfl):PE X (.ListComp elt [⟨.Tuple [.Name x px, .Name y py] k pt,iter,ifs,0⟩] scope pos) (Fc wi [x,y] (Dj X.N scope) (Ht K 2 (BX (AE 0) (BX (AE 1) IK))) tc te):=
  JZ hc (.of hb) hi (λ C ex s H=>MT hb hc C ex s H hK) ht he hs
theorem K1 {i:Nat} {v x y:Str} {pv px py pt spos:Pos} {k:Nat} {elt iter:Expr} {ifs:List Expr} {pos:Pos} {wi:TI} {tc:TT} {te:TE} (hN:X.N.Nodup) (hix:X.N[i]?=some v) (hx:Loc X.env.scope v) (hi:PI X (.Tuple [.Name x px, .Name y py] k pt) iter wi)
    (ht:∀ C ex s H,PTs (A8 X scope [x,y] (Dj X.N scope) C ex s H) ifs tc) (he:∀ C ex s H,PE (A8 X scope [x,y] (Dj X.N scope) C ex s H) elt te) (hK:X.K=K:=by rfl)
    (hb:Ex X.env.scope X.N scope [x,y] (Dj X.N scope)=true:=by with_unfolding_all rfl) (hc:X.calm=true:=by rfl)
    (hsw:swapsWith (.ListComp elt [⟨.Tuple [.Name x px, .Name y py] k pt,iter,ifs,0⟩] scope pos) (some (.Name v pv)) spos.line X.env=pure true:=by rfl)
    (hf:X.fn v=true\/X.env.scope.names.lookup v=some .local:=by first | exact .inl rfl | exact .inr rfl | assumption)
    (hs:∀ x,foldedSetIterable iter X.env x=pure x:=by intro _;rfl):
    PS X (.Assign [.Name v pv] (.ListComp elt [⟨.Tuple [.Name x px, .Name y py] k pt,iter,ifs,0⟩] scope pos) spos) (Lk (Fc wi [x,y] (Dj X.N scope) (Ht K 2 (BX (AE 0) (BX (AE 1) IK))) tc te) (AE i)):=
  Nf hN hix hx hc (.of hb) hi (λ C ex s H=>MT hb hc C ex s H hK) ht he hsw hf hs
end
section
variable {K:PySem.W.Frag} {D:Addr} {σ0:St} {tc:TT} {te:TE} {Q:VK} {H:Hp}
theorem QB {t1 t2:Bool} {a b:Addr} {xs zs:List V} (hlen:xs.length=zs.length) (Pv:Nat->List V->Hp->Prop) (h0:Pv 0 [] (upd H D (.lst [])))
    (hl:∀ i ys H,i<=xs.length->Pv i ys H->SqS t1 K H a xs/\SqS t2 K H b zs)
    (hs:∀ i x z ys H p,xs[i]?=some x->zs[i]?=some z->Pv i ys H->H p=none->Kp σ0 ((σ0.set 0 (some x)).set 1 (some z))/\tc ((σ0.set 0 (some x)).set 1 (some z)) (upd H p (.tup [x,z])) λ b H3=>
      if b=true then te ((σ0.set 0 (some x)).set 1 (some z)) H3 λ y H4=>H4 D=some (.lst ys)/\ys.length<sizeLine/\Pv (i+1) (ys++[y]) (upd H4 D (.lst (ys++[y]))) else Pv (i+1) ys H3)
    (hd:∀ ys H,Pv xs.length ys H->Q (.ref D) H):
    E3 (Izs t1 t2 K a b) σ0 (Ht K 2 (BX (AE 0) (BX (AE 1) IK))) tc te Q H D:=by
  refine ⟨λ i m ys H=>m=xs.length - i/\i<=xs.length/\Pv i ys H,⟨_,rfl,Nat.zero_le _,h0⟩,?_⟩;rintro i m ys H ⟨rfl,hi,p⟩;obtain ⟨q1,q2⟩:=hl i ys H hi p;by_cases hlt:i<xs.length
  · refine .inr ⟨⟨xs,zs,xs[i],zs[i]'(by omega),q1,q2,by simp [hlt],by simp⟩,Pv (i+1),λ ys' H' p'=>⟨xs.length - (i+1),by omega,rfl,hlt,p'⟩,λ x H' y=> ?_⟩;obtain ⟨pp,v,z,hp,rfl,rfl,hv,hz⟩:=y;exact ⟨pp,_,rfl,SqT.of Af,rfl,_,_,rfl,_,_,rfl,rfl,hs i v z ys H pp (hv xs q1) (hz zs q2) p hp⟩
  · have e:i=xs.length:=by omega
    subst e;exact .inl ⟨⟨xs,zs,q1,q2, .inl (Nat.le_refl _)⟩,hd ys H p⟩
end
inductive Dt where
  | non | bl (b:Bool) | int (i:Int) | str (z:Str) | lst (xs:List Dt) | tup (xs:List Dt)
inductive Rp (H:Hp) (F:Addr->Prop):Nat->V->Dt->Prop where
  | non {n:Nat}:Rp H F n .non .non
  | bl {n:Nat} (b:Bool):Rp H F n (.bl b) (.bl b)
  | int {n:Nat} (i:Int):Rp H F n (.int i) (.int i)
  | str {n:Nat} (z:Str):Rp H F n (.str z) (.str z)
  | lst {n:Nat} {a:Addr} {vs:List V} {ds:List Dt} (h:H a=some (.lst vs)) (f:F a) (b:vs.length<=100000) (l:vs.length=ds.length) (e:∀ (i:Nat) (v:V) (d:Dt),vs[i]?=some v->ds[i]?=some d->Rp H F n v d):Rp H F (n+1) (.ref a) (.lst ds)
  | tup {n:Nat} {a:Addr} {vs:List V} {ds:List Dt} (h:H a=some (.tup vs)) (b:vs.length<=100000) (l:vs.length=ds.length) (e:∀ (i:Nat) (v:V) (d:Dt),vs[i]?=some v->ds[i]?=some d->Rp H F n v d):Rp H F (n+1) (.ref a) (.tup ds)
theorem Rp.mono {H H':Hp} {F F':Addr->Prop} {n:Nat} {v:V} {d:Dt} (r:Rp H F n v d) (k:∀ a o,H a=some o->(∀ xs,o= .lst xs->F a)->H' a=some o) (f:∀ a,F a->F' a):Rp H' F' n v d:=by
  induction r with
  | non=>exact .non
  | bl b=>exact .bl b
  | int i=>exact .int i
  | str z=>exact .str z
  | lst h p b l e ih=>exact .lst (k _ _ h λ _ _=>p) (f _ p) b l λ i v d h1 h2=>ih i v d h1 h2
  | tup h b l e ih=>exact .tup (k _ _ h λ xs q=>by cases q) b l λ i v d h1 h2=>ih i v d h1 h2
theorem Rp.same {H H':Hp} {F:Addr->Prop} {n:Nat} {v:V} {d:Dt} (r:Rp H F n v d) (s:Same H H'):Rp H' F n v d:=r.mono (λ a o h _=>s a o h) λ _ h=>h
theorem Rp.imp {H:Hp} {F F':Addr->Prop} {n:Nat} {v:V} {d:Dt} (r:Rp H F n v d) (f:∀ a,F a->F' a):Rp H F' n v d:=r.mono (λ a o h _=>h) f
theorem Rp.up {H:Hp} {F:Addr->Prop} {n m:Nat} {v:V} {d:Dt} (r:Rp H F n v d) (h:n<=m):Rp H F m v d:=by
  induction r generalizing m with
  | non=>exact .non
  | bl b=>exact .bl b
  | int i=>exact .int i
  | str z=>exact .str z
  | lst h p b l e ih=>
    cases m with
    | zero=>exact absurd h (by omega)
    | succ m=>exact .lst ‹_› p b l λ i v d h1 h2=>ih i v d h1 h2 (by omega)
  | tup h b l e ih=>
    cases m with
    | zero=>exact absurd h (by omega)
    | succ m=>exact .tup ‹_› b l λ i v d h1 h2=>ih i v d h1 h2 (by omega)
abbrev FT:Addr->Prop:=λ _=>True
abbrev FN (H:Hp):Addr->Prop:=λ a=>H a=none
theorem Rp.any {H:Hp} {F:Addr->Prop} {n:Nat} {v:V} {d:Dt} (r:Rp H F n v d):Rp H FT n v d:=r.imp λ _ _=>trivial
theorem Rp.new {H:Hp} {F:Addr->Prop} {n:Nat} {v:V} {d:Dt} {p:Addr} {o:HO} (r:Rp H F n v d) (h:H p=none):Rp (L2.upd H p o) F n v d:=r.same λ b u e=>by rw [Al (Ap e h)];exact e
noncomputable def R9 (ns:List Int):Dt:= .lst (ns.map .int)
theorem No {H:Hp} {F:Addr->Prop} {n:Nat} {v:V} {ns:List Int} (r:Rp H F n v (R9 ns)):∃ a,v= .ref a/\H a=some (.lst (ns.map V.int))/\F a:=by
  unfold R9 at r;cases r with
  | @lst n a vs _ h f b l e=>
    refine ⟨a,rfl,?_,f⟩;rw [h];congr 2;refine List.ext_getElem (by simpa using l) λ i h1 h2=> ?_;have h2':i<ns.length:=by simpa using h2
    have:=e i vs[i] (.int ns[i]) (by simp [h1]) (by simp [h2']);cases hv:vs[i] <;> rw [hv] at this <;> cases this;simp
section
variable {t u:TS} {D:Ends} {σ:St} {H:Hp} {te ta tb tk:TE} {tt tu:TT} {g:TG} {Q:VK} {QT:Bool->Hp->Prop} {QA:List V->Hp->Prop} {i:Nat} {v x y:V} {r:R2} {tr:TA} {K:PySem.W.Frag}
theorem Pt (h:t { D with nx:=u D } σ H):Wi t u D σ H:=h
theorem Bz (h:D.nx σ H):Sj D σ H:=h
theorem T9 (h:te σ H λ x H1=>g x σ H1 D.nx):Lk te g D σ H:=h
theorem Nd {QS:St->Hp->Prop} (h:QS (σ.set i (some v)) H):AE i v σ H QS:=h
theorem S7 (e:σ[i]?=some (some v)) (h:Q v H):TQ i σ H Q:=⟨v,e,h⟩
theorem ap (h:Q v H):tC v σ H Q:=h
theorem XC (h:ta σ H λ x H1=>tb σ H1 λ y H2=>r x y H2 Q):tOp r ta tb σ H Q:=h
theorem XW {ru:V->Hp->VK->Prop} (h:ta σ H λ x H1=>ru x H1 Q):tUn ru ta σ H Q:=h
theorem AM {C:Int->Int->Prop} {gg:Int->Int->V} {a b:Int} (c:C a b) (h:Q (gg a b) H):rI C gg (.int a) (.int b) H Q:=⟨a,b,rfl,rfl,c,h⟩
theorem SV {gg:Int->Int->V} {a b:Int} (h:Q (gg a b) H):rI0 gg (.int a) (.int b) H Q:=⟨a,b,rfl,rfl,h⟩
theorem V8 {gg:Int->V} {a:Int} (h:Q (gg a) H):rU gg (.int a) H Q:=⟨a,rfl,h⟩
theorem TN {a b:Int} (h:Q (.bl (decide (a=b))) H):rEq (.int a) (.int b) H Q:=⟨rfl,by rw [show decide (V.int a=V.int b)=decide (a=b) by rw [Bool.eq_iff_iff];simp];exact h⟩
theorem T3 {a b:Int} (h:Q (.bl (!decide (a=b))) H):rNe (.int a) (.int b) H Q:=⟨rfl,by rw [show decide (V.int a=V.int b)=decide (a=b) by rw [Bool.eq_iff_iff];simp];exact h⟩
theorem TV {a b:Bool} (h:Q (.bl (decide (a=b))) H):rEq (.bl a) (.bl b) H Q:=⟨rfl,by rw [show decide (V.bl a=V.bl b)=decide (a=b) by rw [Bool.eq_iff_iff];simp];exact h⟩
theorem Tu {a b:Bool} (h:Q (.bl (!decide (a=b))) H):rNe (.bl a) (.bl b) H Q:=⟨rfl,by rw [show decide (V.bl a=V.bl b)=decide (a=b) by rw [Bool.eq_iff_iff];simp];exact h⟩
theorem To (h:tt σ H λ c H1=>QT (!c) H1):VC tt σ H QT:=h
theorem Q3 (h:te σ H λ x H'=>∃ k,x= .bl k/\QT k H'):Sb te σ H QT:=h
theorem Xs (h:te σ H λ x H'=>∃ k,x= .bl k/\QT k H'):tB te σ H QT:=h
theorem VB {b:Bool} {R:Bool->Prop} (h:R b):∃ k,V.bl b= .bl k/\R k:=⟨b,rfl,h⟩
theorem ZS (h:tt σ H λ c H1=>if c=true then QT true H1 else tu σ H1 QT):tOr tt tu σ H QT:=h
theorem Ts (h:tt σ H λ c H1=>if c=true then tu σ H1 QT else QT false H1):Zi tt tu σ H QT:=h
theorem Rk (h:ta σ H λ x H1=>∃ c,x= .bl c/\if c=true then tb σ H1 Q else Q (.bl false) H1):RY ta tb σ H Q:=h
theorem QZ (h:ta σ H λ x H1=>∃ c,x= .bl c/\Q (.bl (!c)) H1):Sc ta σ H Q:=h
theorem S5 (h:tt σ H λ b H1=>if b=true then t D σ H1 else u D σ H1):QV tt t u D σ H:=h
theorem Uh (h:tt σ H λ c H1=>if c=true then ta σ H1 Q else tb σ H1 Q):tIf tt ta tb σ H Q:=h
theorem Ss (h:te σ H D.rt):UY te D σ H:=h
theorem Q5 (h:te σ H λ _ H1=>D.nx σ H1):RG te D σ H:=h
theorem T6 (h:QA [] H):Rz σ H QA:=h
theorem Qq (h:te σ H λ x H1=>tr σ H1 λ xs H2=>QA (x::xs) H2):RM te tr σ H QA:=h
theorem SO (h:tr σ H λ xs H1=>xs.length<=sizeLine/\∀ p,H1 p=none->Q (.ref p) (upd H1 p (.lst xs))):ZQ tr σ H Q:=h
theorem SL (h:tr σ H λ xs H1=>xs.length<=sizeLine/\∀ p,H1 p=none->Q (.ref p) (upd H1 p (.tup xs))):Uy tr σ H Q:=h
theorem ZG {rr:List V->Hp->VK->Prop} (h:tr σ H λ vs H1=>rr vs H1 Q):tCB rr tr σ H Q:=h
theorem RC {sp:Sp} {E:XK} (h:tr σ H λ vs H1=>sp vs H1 Q E):Ly sp [] E tr σ H Q:=by
  unfold Ly;simpa using h
theorem VR {rs:V->Option Int->Option Int->Hp->VK->Prop} {tl th:TO} (h:te σ H λ x H1=>tl σ H1 λ l H2=>th σ H2 λ u H3=>rs x l u H3 Q):tSl rs te tl th σ H Q:=h
theorem QJ {QO:Option Int->Hp->Prop} (h:te σ H λ x H1=>∃ i,x= .int i/\QO (some i) H1):Si te σ H QO:=h
theorem N3 {QO:Option Int->Hp->Prop} (h:QO none H):Na σ H QO:=h
theorem Tn {a:Int} {R:Int->Prop} (h:R a):∃ k,V.int a= .int k/\R k:=⟨a,rfl,h⟩
theorem Tb {p:Addr} {xs:List V} {lo hi:Option Int} (c:SqL K H p xs) (h:∀ q,H q=none->Q (.ref q) (upd H q (.lst (Fs xs lo hi)))):T7 K (.ref p) lo hi H Q:=⟨p,xs,rfl,c,h⟩
theorem Qi {z:Str} (c:z.length<=sizeLine) (h:Q (.int z.length) H):Pz K [.str z] H Q:=⟨_,_,rfl,⟨c,rfl⟩,h⟩
theorem Bm {p:Addr} {xs:List V} (c:SqL K H p xs) (h:Q (.int xs.length) H):Pz K [.ref p] H Q:=⟨_,_,rfl, .inl ⟨xs,c,rfl⟩,h⟩
theorem G7 {p:Addr} {xs:List V} (c:SqT K H p xs) (h:Q (.int xs.length) H):Pz K [.ref p] H Q:=⟨_,_,rfl, .inr ⟨xs,c,rfl⟩,h⟩
theorem Pc {p:Addr} {ns:List Int} (c:SqL K H p (ns.map V.int)) (h:Q (.int ns.sum) H):VA K [.ref p] H Q:=⟨p,ns,rfl,c,h⟩
theorem Hr {p:Addr} {bs:List Bool} (c:SqL K H p (bs.map V.bl)) (h:Q (.bl (bs.all id)) H):VO K [.ref p] H Q:=⟨p,bs,rfl,c,h⟩
theorem Bc {n:String} {ty:Value} {b:Bool} (c:TyOf K H x ty) (e:PySem.W.kitOne K ty (.type n)=some b) (h:Q (.bl b) H):R8 K [x, .ty n] H Q:=⟨x,n,ty,b,rfl,c,e,h⟩
theorem B5 {p:Addr} {xs:List V} {k:Int} (c:SqL K H p xs) (e:atI xs k=some v) (h:Q v H):S0 K (.ref p) (.int k) H Q:=⟨p,xs,k,v,rfl,rfl,c,e,h⟩
theorem Bf {p:Addr} {xs:List V} {k:Int} (c:SqT K H p xs) (e:atI xs k=some v) (h:Q v H):Tt K (.ref p) (.int k) H Q:=⟨p,xs,k,v,rfl,rfl,c,e,h⟩
theorem Oo {z:Str} {k:Int} {c:Nat} (l:z.length<=sizeLine) (e:atI z.cps.toList k=some c) (h:Q (.str ⟨#[c]⟩) H):Wx (.str z) (.int k) H Q:=⟨z,k,c,rfl,rfl,l,e,h⟩
theorem Tc {xs:List V} {B:Prop} (c:xs.length<=1000) (h:B):xs.length<=sizeLine/\B:=⟨Nat.le_trans c (by decide),h⟩
end
theorem Gv {p A B:Prop} [Decidable p] (h1:p->A) (h2:¬ p->B):if decide p=true then A else B:=by
  by_cases h:p
  · rw [if_pos (decide_eq_true h)];exact h1 h
  · rw [if_neg (λ q=>h (of_decide_eq_true q))];exact h2 h
theorem Iy {p A B:Prop} [Decidable p] (h1:¬ p->A) (h2:p->B):if (!decide p)=true then A else B:=by
  by_cases h:p
  · rw [decide_eq_true h];exact BN (h2 h)
  · rw [decide_eq_false h];exact ES (h1 h)
theorem TZ {b:Bool} {A B:Prop} (h1:b=true->A) (h2:b=false->B):if b=true then A else B:=by
  cases b with
  | true=>exact ES (h1 rfl)
  | false=>exact BN (h2 rfl)
noncomputable def tyD:Dt->String | .non=>"NoneType" | .bl _=>"bool" | .int _=>"int" | .str _=>"str" | .lst _=>"list" | .tup _=>"tuple"
noncomputable def Jv:Dt->Bool | .lst _=>true | _=>false
noncomputable def Fb:Dt->Bool | .tup _=>true | _=>false
noncomputable def aN:Dt->Bool | .bl _=>true | _=>false
theorem Rp.ty {K:PySem.W.Frag} {H:Hp} {F:Addr->Prop} {n:Nat} {v:V} {d:Dt} (r:Rp H F n v d):TyOf K H v (.type (tyD d)):=by
  cases r with
  | non=>exact .non
  | bl b=>exact .bl b
  | int i=>exact .int i
  | str z=>exact .str z
  | lst h _ _ _ _=>exact .lst h
  | tup h _ _ _=>exact .tup h
theorem NY:Dq "NoneType" "list"=some false/\Dq "bool" "list"=some false/\Dq "int" "list"=some false/\Dq "str" "list"=some false/\Dq "list" "list"=some true/\Dq "tuple" "list"=some false:=by decide +kernel
theorem Hc {K:PySem.W.Frag} (d:Dt):PySem.W.kitOne K (.type (tyD d)) (.type "list")=some (Jv d):=by
  obtain ⟨h1,h2,h3,h4,h5,h6⟩:=NY;cases d with
  | non=>exact kb h1
  | bl _=>exact kb h2
  | int _=>exact kb h3
  | str _=>exact kb h4
  | lst _=>exact kb h5
  | tup _=>exact kb h6
theorem LY:Dq "NoneType" "tuple"=some false/\Dq "bool" "tuple"=some false/\Dq "int" "tuple"=some false/\Dq "str" "tuple"=some false/\Dq "list" "tuple"=some false/\Dq "tuple" "tuple"=some true:=by decide +kernel
theorem Gc {K:PySem.W.Frag} (d:Dt):PySem.W.kitOne K (.type (tyD d)) (.type "tuple")=some (Fb d):=by
  obtain ⟨h1,h2,h3,h4,h5,h6⟩:=LY;cases d with
  | non=>exact kb h1
  | bl _=>exact kb h2
  | int _=>exact kb h3
  | str _=>exact kb h4
  | lst _=>exact kb h5
  | tup _=>exact kb h6
theorem Nu:Dq "NoneType" "bool"=some false/\Dq "bool" "bool"=some true/\Dq "int" "bool"=some false/\Dq "str" "bool"=some false/\Dq "list" "bool"=some false/\Dq "tuple" "bool"=some false:=by decide +kernel
theorem MA {K:PySem.W.Frag} (d:Dt):PySem.W.kitOne K (.type (tyD d)) (.type "bool")=some (aN d):=by
  obtain ⟨h1,h2,h3,h4,h5,h6⟩:=Nu;cases d with
  | non=>exact kb h1
  | bl _=>exact kb h2
  | int _=>exact kb h3
  | str _=>exact kb h4
  | lst _=>exact kb h5
  | tup _=>exact kb h6
theorem Ux {K:PySem.W.Frag} (d:Dt):PySem.W.kitAny K (.type (tyD d)) (["list","tuple"].map Value.type)=some (Jv d||Fb d):=by
  show (match PySem.W.kitOne K (.type (tyD d)) (.type "list") with
    | some true=>some true
    | some false=>(match PySem.W.kitOne K (.type (tyD d)) (.type "tuple") with
      | some true=>some true
      | some false=>some false
      | none=>none)
    | none=>none)=_
  rw [Hc,Gc];cases d <;> rfl
theorem OY {K:PySem.W.Frag} {H:Hp} {Q:VK} {x:V} {p:Addr} {ns:List String} {t:Value} {b:Bool} (hp:H p=some (.tup (ns.map V.ty))) (c:TyOf K H x t) (e:PySem.W.kitAny K t (ns.map Value.type)=some b) (h:Q (.bl b) H):Pn K [x, .ref p] H Q:=⟨x,p,ns,t,b,rfl,hp,c,e,h⟩
noncomputable def Be:Dt->List Dt | .lst ds=>ds | .tup ds=>ds | _=>[]
theorem Rp.seq {K:PySem.W.Frag} {H:Hp} {F:Addr->Prop} {n:Nat} {v:V} {d:Dt} (r:Rp H F n v d) (h:(Jv d||Fb d)=true):
    ∃ m a vs,n=m+1/\v= .ref a/\SqS (Fb d) K H a vs/\vs.length=(Be d).length/\vs.length<=100000/\∀ (i:Nat) (x:V) (e:Dt),vs[i]?=some x->(Be d)[i]?=some e->Rp H F m x e:=by
  cases r with
  | @lst m a vs ds q f b l e=>exact ⟨m,a,vs,rfl,rfl,(show SqL K H a vs from SqL.of q),l,b,e⟩
  | @tup m a vs ds q b l e=>exact ⟨m,a,vs,rfl,rfl,(show SqT K H a vs from SqT.of q),l,b,e⟩
  | non=>cases h
  | bl _=>cases h
  | int _=>cases h
  | str _=>cases h
theorem MO {K:PySem.W.Frag} {H:Hp} {Q:VK} {tp:Bool} {p:Addr} {xs:List V} (c:SqS tp K H p xs) (h:Q (.int xs.length) H):Pz K [.ref p] H Q:=by
  cases tp with
  | false=>exact Bm c h
  | true=>exact G7 c h
theorem SqS.same {K:PySem.W.Frag} {H H':Hp} {tp:Bool} {p:Addr} {xs:List V} (c:SqS tp K H p xs) (s:Same H H'):SqS tp K H' p xs:=by
  cases tp with
  | false=>exact (show SqL K H' p xs from s.seq c)
  | true=>
    rcases (show SqT K H p xs from c) with (q | ⟨o,q⟩) | q
    · exact (show SqT K H' p xs from .inl (.inl (s _ _ q)))
    · exact (show SqT K H' p xs from .inl (.inr ⟨o,s _ _ q⟩))
    · exact (show SqT K H' p xs from .inr q)
theorem Ai {H:Hp} {p:Addr} {o:HO} (h:H p=none):Same H (upd H p o):=λ b u e=>by rw [Al (Ap e h)];exact e
theorem Ha {H H':Hp} {D:Addr} {o:HO} (s:Same H H') (h:H D=none):Same H (upd H' D o):=λ b u e=>by rw [Al (Ap e h)];exact s b u e
theorem N1 {v:V} {d:Dt} {H:Hp} {F:Addr->Prop} {n:Nat} (r:Rp H F n v d) (h:(Jv d||Fb d)=false):Sl v v=true:=by
  cases r with
  | non=>rfl
  | bl _=>rfl
  | int _=>rfl
  | str _=>rfl
  | lst _ _ _ _ _=>cases h
  | tup _ _ _ _=>cases h
theorem Re {v u:V} {d:Dt} {H:Hp} {F:Addr->Prop} {n:Nat} (r:Rp H F n v d) (r2:Rp H F n u d) (h:(Jv d||Fb d)=false):v=u:=by
  cases r with
  | non=>cases r2;rfl
  | bl _=>cases r2;rfl
  | int _=>cases r2;rfl
  | str _=>cases r2;rfl
  | lst _ _ _ _ _=>cases h
  | tup _ _ _ _=>cases h
structure SrcOk (J:It) (g:TG) (σ0:St) (H:Hp) (n:Nat) (st:Nat->St):Prop where
  go:∀ i H',i<n->Same H H'->J.go i H'
  stop:∀ H',Same H H'->J.stop n H'
  yld:∀ i H' x H'' (R:St->Hp->Prop),i<n->Same H H'->J.yld i H' x H''->(∀ H3,Same H' H3->R (st i) H3)->g x σ0 H'' R
  kp:∀ i,i<n->Kp σ0 (st i)
section
variable {J:It} {g:TG} {σ0:St} {H:Hp} {n:Nat} {st:Nat->St} {tc:TT} {te:TE} {Q:VK} {D:Addr}
theorem Rp.off {H:Hp} {F:Addr->Prop} {m:Nat} {v:V} {d:Dt} {D:Addr} {xs:List V} {o:HO} (r:Rp H F m v d) (hD:H D=some (.lst xs)) (hF:¬ F D):Rp (L2.upd H D o) F m v d:=by
  refine r.mono (λ a u e q=> ?_) λ _ h=>h;have n:a≠D:=λ z=>by
    subst z;rw [hD] at e;cases e;exact hF (q _ rfl)
  rw [Al n];exact e
theorem Gr {m:Nat} {p:Nat->Bool} {G:Nat->Dt} (S:SrcOk J g σ0 H n st) (hD:H D=none) (hn:n<=100000)
    (ht:∀ i H' (R:Bool->Hp->Prop),i<n->Same H H'->(∀ H3,Same H' H3->R (p i) H3)->tc (st i) H' R)
    (he:∀ i H' (R:VK),i<n->p i=true->Same H H'->(∀ H3 y,Same H' H3->Rp H3 (FN H') m y (G i)->R y H3)->te (st i) H' R)
    (hd:∀ H' ys,Same H H'->H' D=some (.lst ys)->Rp H' (FN H) (m+1) (.ref D) (.lst (((List.range n).filter p).map G))->Q (.ref D) H'):
    E3 J σ0 g tc te Q H D:=by
  refine ⟨λ i k ys H'=>k=n - i/\i<=n/\Same H H'/\H' D=some (.lst ys)/\ys.length=(((List.range i).filter p).map G).length/\∀ (j:Nat) (y:V) (d:Dt),ys[j]?=some y->(((List.range i).filter p).map G)[j]?=some d->Rp H' (λ a=>H a=none/\a≠D) m y d,
    ⟨_,rfl,Nat.zero_le _,Ha (Same.refl _) hD,Af,rfl,λ j y d q=>by simp at q⟩,?_⟩
  rintro i k ys H1 ⟨rfl,hi,s1,hl,len,el⟩;have bnd:∀ i,(((List.range i).filter p).map G).length<=i:=λ i=>by
    rw [List.length_map];exact Nat.le_trans (List.length_filter_le _ _) (by simp)
  by_cases hlt:i<n
  · refine .inr ⟨S.go i H1 hlt s1,λ ys' H'=>Same H H'/\H' D=some (.lst ys')/\ys'.length=(((List.range (i+1)).filter p).map G).length/\∀ (j:Nat) (y:V) (d:Dt),ys'[j]?=some y->(((List.range (i+1)).filter p).map G)[j]?=some d->Rp H' (λ a=>H a=none/\a≠D) m y d,
      λ ys' H' q=>⟨n - (i+1),by omega,rfl,hlt,q⟩,λ x H2 y=> ?_⟩
    refine S.yld i H1 x H2 _ hlt s1 y λ H3 s3=>⟨S.kp i hlt,?_⟩;refine ht i H3 _ hlt (s1.trans s3) λ H4 s4=> ?_;have hl4:H4 D=some (.lst ys):=s4 _ _ (s3 _ _ hl);have s14:Same H H4:=s1.trans (s3.trans s4);cases hp:p i with
    | false=>
      refine BN ⟨s14,hl4,?_,?_⟩
      · rw [List.range_succ,List.filter_append,List.filter_cons,hp];simpa using len
      · intro j y d h1 h2;have e:((List.range (i+1)).filter p).map G=((List.range i).filter p).map G:=by
          rw [List.range_succ,List.filter_append,List.filter_cons,hp];simp
        rw [e] at h2;exact (el j y d h1 h2).same (s3.trans s4)
    | true=>
      refine ES ?_;refine he i H4 _ hlt hp s14 λ H5 y s5 ry=> ?_;have hl5:H5 D=some (.lst ys):=s5 _ _ hl4;have e:((List.range (i+1)).filter p).map G=((List.range i).filter p).map G++[G i]:=by
        rw [List.range_succ,List.filter_append,List.filter_cons,hp];simp
      refine ⟨hl5,?_,?_,Af,?_,?_⟩
      · have:=bnd i;exact Nat.lt_of_le_of_lt (by omega:ys.length<=100000) (by decide)
      · exact Ha (s14.trans s5) hD
      · rw [e,List.length_append,List.length_append,len];rfl
      · intro j z d h1 h2;rw [e] at h2;have nF:¬ (H D=none/\D≠D):=λ q=>q.2 rfl;by_cases hj:j<ys.length
        · rw [List.getElem?_append_left hj] at h1;rw [List.getElem?_append_left (by omega)] at h2;exact ((el j z d h1 h2).same (s3.trans (s4.trans s5))).off hl5 nF
        · have ej:j=ys.length:=by
            have:=(List.getElem?_eq_some_iff.mp h1).1;rw [List.length_append] at this;have:([y]:List V).length=1:=rfl;omega
          subst ej;rw [List.getElem?_append_right (Nat.le_refl _),Nat.sub_self] at h1;rw [len,List.getElem?_append_right (Nat.le_refl _),Nat.sub_self] at h2;cases h1;cases h2;refine (ry.imp (F':=λ a=>H a=none/\a≠D) λ a ha=>⟨s14.free ha,λ q=> ?_⟩).off hl5 nF;subst q;rw [show H4 a=none from ha] at hl4;cases hl4
  · have e:i=n:=by omega
    subst e;refine .inl ⟨S.stop H1 s1,hd H1 ys s1 hl (.lst hl hD ?_ len λ j y d h1 h2=>(el j y d h1 h2).imp λ a q=>q.1)⟩;have:=bnd i;omega
theorem AF {m:Nat} {G:Nat->Dt} (S:SrcOk J g σ0 H n st) (hD:H D=none) (hn:n<=100000)
    (he:∀ i H' (R:VK),i<n->Same H H'->(∀ H3 y,Same H' H3->Rp H3 (FN H') m y (G i)->R y H3)->te (st i) H' R)
    (hd:∀ H' ys,Same H H'->H' D=some (.lst ys)->Rp H' (FN H) (m+1) (.ref D) (.lst ((List.range n).map G))->Q (.ref D) H'):
    E3 J σ0 g O6 te Q H D:=by
  refine Gr (p:=λ _=>true) (m:=m) (G:=G) S hD hn (λ i H' R _ _ k=>k H' (Same.refl _)) (λ i H' R hi _ s k=>he i H' R hi s k) λ H' ys s hl r=>hd H' ys s hl ?_;have e:(List.range n).filter (λ _=>true)=List.range n:=by simp
  rw [e] at r;exact r
variable {K:PySem.W.Frag} {a b:Addr} {xs zs:List V}
theorem AJ (h:SqL K H a xs) (h0:σ0[0]?=some none):SrcOk (Itl K a) (AE 0) σ0 H xs.length (λ i=>σ0.set 0 (some (xs.getD i .non))) where
  go:=λ i H' hi s=>⟨xs,xs[i],s.seq h,by simp [hi]⟩
  stop:=λ H' s=>⟨xs,s.seq h,Nat.le_refl _⟩
  yld:=λ i H' x H'' R hi s y k=>by
    obtain ⟨e,hv⟩:=y;subst e;have e:x=xs.getD i .non:=by
      have:=hv xs (s.seq h);rw [List.getD_eq_getElem?_getD,this];rfl
    subst e;exact k _ (Same.refl _)
  kp:=λ i hi=>(Kp.refl _).set h0
theorem B9 (h:SqT K H a xs) (h0:σ0[0]?=some none):SrcOk (Itt K a) (AE 0) σ0 H xs.length (λ i=>σ0.set 0 (some (xs.getD i .non))) where
  go:=λ i H' hi s=>⟨xs,xs[i],(SqS.same (tp:=true) h s),by simp [hi]⟩
  stop:=λ H' s=>⟨xs,(SqS.same (tp:=true) h s),Nat.le_refl _⟩
  yld:=λ i H' x H'' R hi s y k=>by
    obtain ⟨e,hv⟩:=y;subst e;have e:x=xs.getD i .non:=by
      have:=hv xs (SqS.same (tp:=true) h s);rw [List.getD_eq_getElem?_getD,this];rfl
    subst e;exact k _ (Same.refl _)
  kp:=λ i hi=>(Kp.refl _).set h0
theorem BE {lo:Int} {n:Nat} (h0:σ0[0]?=some none):SrcOk (Itr lo n) (AE 0) σ0 H n (λ i=>σ0.set 0 (some (.int (lo+i)))) where
  go:=λ i H' hi s=>hi
  stop:=λ H' s=>Nat.le_refl _
  yld:=λ i H' x H'' R hi s y k=>by
    obtain ⟨e,hv⟩:=y;subst e hv;exact k _ (Same.refl _)
  kp:=λ i hi=>(Kp.refl _).set h0
theorem Hm (h:SqL K H a xs) (h0:σ0[0]?=some none) (h1:σ0[1]?=some none):SrcOk (Ite K a) (Ht K 2 (BX (AE 0) (BX (AE 1) IK))) σ0 H xs.length (λ i=>(σ0.set 0 (some (.int i))).set 1 (some (xs.getD i .non))) where
  go:=λ i H' hi s=>⟨xs,xs[i],s.seq h,by simp [hi]⟩
  stop:=λ H' s=>⟨xs,s.seq h,Nat.le_refl _⟩
  yld:=λ i H' x H'' R hi s y k=>by
    obtain ⟨p,v,hp,rfl,rfl,hv⟩:=y;have e:v=xs.getD i .non:=by
      have:=hv xs (s.seq h);rw [List.getD_eq_getElem?_getD,this];rfl
    subst e;exact ⟨p,_,rfl,SqT.of Af,rfl,_,_,rfl,_,_,rfl,rfl,k _ (Ai hp)⟩
  kp:=λ i hi=>((Kp.refl _).set h0).set h1
end
theorem Aq {α β:Type} (f:α->β) (xs:List α) (d:α):(List.range xs.length).map (λ i=>f (xs.getD i d))=xs.map f:=by
  refine List.ext_getElem (by simp) λ i h1 h2=> ?_;have hi:i<xs.length:=by simpa using h2
  simp [List.getD_eq_getElem?_getD,hi]
theorem O8 (a b c:Int) (hc:c≠0):0<=Builtin.Range.rangeSize a b c/\Builtin.Range.rangeSize a b c<=(b - a).natAbs:=by
  unfold Builtin.Range.rangeSize;split
  · rename_i h
    split
    · rename_i h2
      have h3:0<=(b - a - 1) / c:=Int.ediv_nonneg (by omega) (by omega);have h4:(b - a - 1) / c<=b - a - 1:=Int.ediv_le_self _ (by omega);omega
    · omega
  · rename_i h
    split
    · rename_i h2
      have h3:0<=(a - b - 1) / (-c):=Int.ediv_nonneg (by omega) (by omega);have h4:(a - b - 1) / (-c)<=a - b - 1:=Int.ediv_le_self _ (by omega);omega
    · omega
theorem QR {a b c:Int} (ha: -(2 ^ 40)<=a/\a<2 ^ 40) (hb: -(2 ^ 40)<=b/\b<2 ^ 40) (hc: -(2 ^ 20)<=c/\c<2 ^ 20) (h0:c≠0):Builtin.Range.small a b c=true:=by
  have h:=O8 a b c h0;unfold Builtin.Range.small;simp only [Builtin.Range.rangeFitsLong,Bool.and_eq_true,Bool.or_eq_true,decide_eq_true_eq,beq_iff_eq];generalize Builtin.Range.rangeSize a b c=n at h;have hn:(b - a).natAbs<2 ^ 42:=by omega
  refine ⟨⟨⟨⟨by omega,by omega⟩,by omega⟩,by omega⟩, .inr ?_⟩;split <;> rw [Bool.and_eq_true,decide_eq_true_eq,decide_eq_true_eq] <;> omega
noncomputable def Itc (lo c:Int) (n:Nat):It:=⟨λ i _=>i<n,λ i H x H'=>H'=H/\x= .int (lo+i*c),λ i _=>n<=i⟩
theorem Lg {P:Program} {w:World} {K:PySem.W.Frag} {tg:Expr} (it:Addr) (lo c:Int) (n:Nat):Turn P w K tg (Itc lo c n) [it] it (λ i h=>IsRangeIter h it (lo+(i:Nat)*c) ((n:Int) - (i:Nat)) c) where
  mem:=by simp
  obj:=λ i h st b hb=>by
    have e:b=it:=by simpa using hb
    subst e;exact ⟨_,st,λ v z=>by cases (show Data.fields _=Data.cell v from z)⟩
  keep:=λ i h h' st k=>k it (by simp) _ st
  item:=by
    intro X hP hw hK hc i pins s σ H E I hf st hg;subst hP hw hK;obtain ⟨f0,f1,f2,f3,f4,f5⟩:=hf it (by simp);have W:=Walks.range (prog:=X.prog) (w:=X.w) (I.ok.hd hc) it lo c n;refine W.item i s _ _ hg st λ v h' tk hv st' kk=> ?_;obtain ⟨t,rfl⟩:=hv;have I1:Inv X pins σ H { s with heap:=h',toks:=tk }:=I.turned (λ b o hb e=>kk b o (by simpa using hb) e) f0 f1 f3 f4 f5;exact ⟨_,rfl,LC (s:={ s with heap:=h',toks:=tk }) (n:="range_iterator") st' rfl rfl (by decide) ⟨.int (lo+i*c),H,I1,⟨t,rfl⟩,⟨rfl,rfl⟩,st',λ b hb=>(hf b hb).1⟩⟩
  done:=by
    intro X hP hw hK hc i pins s σ H E I hf st hg;subst hP hw hK;obtain ⟨f0,f1,f2,f3,f4,f5⟩:=hf it (by simp);exact wpAny_pyNext_range_end (I.ok.hd hc) st (by have:n<=i:=hg;omega) λ h' eb=>⟨rfl,I.turned (t':=s.toks) (λ b o hb e=>eb b o hb e) f0 f1 f3 f4 f5⟩
  self:=λ _ _ _ _ _ st h=>wpAny_pyIter_rangeiter st h
section
variable {X:Cx} {tg:Expr}
def RF (ta:TA):TI:=λ σ H R=>ta σ H λ vs H1=>∃ i j c:Int,vs=[.int i, .int j, .int c]/\(-(2 ^ 40)<=i/\i<2 ^ 40)/\(-(2 ^ 40)<=j/\j<2 ^ 40)/\(-(2 ^ 20)<=c/\c<2 ^ 20)/\c≠0/\R (Itc i c (Builtin.Range.rangeSize i j c).toNat) H1
theorem NK {a b c:Expr} {ta:TA} {p pos:Pos} (hg:Gl X "range") (hm:X.mg "range"=none) (ha:PA X [a,b,c] ta) (hs:starEach [a,b,c] X.env=[(false,eval a X.env),(false,eval b X.env),(false,eval c X.env)]:=by rfl)
    (hs2:starEach [b,c] X.env=[(false,eval b X.env),(false,eval c X.env)]:=by rfl):PI X tg (.Call (.Name "range" p) [a,b,c] [] pos) (RF ta):=by
  intro pins s σ H R I h;refine Call_ (B3 I hg hm boot_range (PyProof.Rows.callWith_type1 (thn (ha pos pins s σ H _ I h) λ us s1 ⟨vs,H1,I1,r1,q1⟩=> ?_) (by rw [hs,hs2]) (by rw [hs2];rfl)));obtain ⟨i,j,k,e,h1,h2,h3,h0,q⟩:=q1;subst e;cases r1 with
  | cons r rr=>
    cases rr with
    | cons r' rr=>
      cases rr with
      | cons r'' rr=>
        cases rr;obtain ⟨t,rfl⟩:=r;obtain ⟨t',rfl⟩:=r';obtain ⟨t'',rfl⟩:=r'';refine call_range_3 h0 ?_ (.inl (PyProof.noPylong_small (by omega)));refine wpAny_pyIter_range (IsRange.new ..) (QR h1 h2 h3 h0) ?_;have I2:Inv X pins σ H1 { s1 with heap:=s1.heap.push { cls:= .type "range",data:= .fields #[.int i t, .int j t', .int k t''] },toks:=s1.toks }:=I1.kept λ b o e=>Heap.get?_push_of_some _ e;refine ⟨(s1.heap.push { cls:= .type "range",data:= .fields #[.int i t, .int j t', .int k t''] }).objs.size,[(s1.heap.push { cls:= .type "range",data:= .fields #[.int i t, .int j t', .int k t''] }).objs.size],_,_,H1,rfl,
          I2.kept (t':=s1.toks) λ b o e=>Heap.get?_push_of_some _ e,Lg _ i k (Builtin.Range.rangeSize i j k).toNat,?_,λ b hb=> ?_,q⟩
        · have e1:i+((0:Nat):Int)*k=i:=by simp
          have e2:(((Builtin.Range.rangeSize i j k).toNat:Nat):Int) - ((0:Nat):Int)=Builtin.Range.rangeSize i j k:=by have:=(O8 i j k h0).1;omega
          show IsRangeIter _ _ (i+((0:Nat):Int)*k) ((((Builtin.Range.rangeSize i j k).toNat:Nat):Int) - ((0:Nat):Int)) k;rw [e1,e2];exact Heap.get?_push_size _ rfl
        · have e:b=(s1.heap.push { cls:= .type "range",data:= .fields #[.int i t, .int j t', .int k t''] }).objs.size:=by simpa using hb
          subst e;exact I2.fpOk (Nat.le_refl _) (I2.hok.fresh (Nat.le_refl _))
theorem LR {lo c:Int} {n:Nat} {σ0:St} {H:Hp} (h0:σ0[0]?=some none):SrcOk (Itc lo c n) (AE 0) σ0 H n (λ i=>σ0.set 0 (some (.int (lo+i*c)))) where
  go:=λ i H' hi s=>hi
  stop:=λ H' s=>Nat.le_refl _
  yld:=λ i H' x H'' R hi s y k=>by
    obtain ⟨e,hv⟩:=y;subst e hv;exact k _ (Same.refl _)
  kp:=λ i hi=>(Kp.refl _).set h0
def YN:List V->Hp->VK->Prop:=λ xs H Q=>∃ b:Bool,xs=[.bl b]/\Q (.int (if b=true then 1 else 0)) H
end
theorem Tz {X:Cx}:BR X (.type "int") YN:=by
  intro pins s σ H xs us Q I r h;obtain ⟨b,rfl,q⟩:=h;exact NO pins s σ H _ us Q I r (.inr ⟨b,rfl,q⟩)
def R1 (K:PySem.W.Frag):R2:=λ x y H Q=>∃ a xs,x= .ref a/\y= .int (-1)/\SqL K H a xs/\∀ p,H p=none->Q (.ref p) (upd H p (.lst xs.reverse))
section
variable {X:Cx} {K:PySem.W.Frag} {e st:Expr} {te ts:TE} {pos p2:Pos}
theorem Kq (he:PE X e te) (hst:PE X st ts) (hK:X.K=K:=by rfl):PE X (.Subscript e (.Slice none none (some st) p2) pos) (tOp (R1 K) te ts):=by
  subst hK;intro pins s σ H Q I h;refine Subscript_ (thn (he pins s σ H _ I h) λ v s1 ⟨x,H1,I1,r1,q1⟩=> ?_);refine wpAny_Slice ?_;rw [evalPart_none];refine wpAny_pure (wpAny_pure ?_);rw [evalPart_some];refine thn (hst pins s1 σ H1 _ I1 q1) λ u s2 ⟨y,H2,I2,r2,q2⟩=> ?_;obtain ⟨a,xs,rfl,rfl,hx,q⟩:=q2;obtain ⟨t,rfl⟩:=r2;cases r1;have I3:Inv X pins σ H2 { s2 with heap:=s2.heap.push { cls:= .type "slice",data:= .fields #[.none, .none, .int (-1) t] } }:=I2.kept (t':=s2.toks) λ b ob q=>Heap.get?_push_of_some _ q;obtain ⟨its,r,ht,hz⟩:=I3.list hx;have hlen:=r.length;show wpAny (model X.prog X.w) X.A (subscriptTail e (.Slice none none (some st) p2) (.ref a) (.ref s2.heap.objs.size)) (EP X pins σ Q) X.xe { s2 with heap:=s2.heap.push { cls:= .type "slice",data:= .fields #[.none, .none, .int (-1) t] } };refine tail_any (ops:=[.ref a, .ref s2.heap.objs.size]) ht.isList.typeIs slot_list_getitem.lookup ?_ (by with_unfolding_all rfl);refine wpAny_getItem_list_slice (lo:=none) (hi:=none) (st:=some (-1)) ht.isList (Heap.IsSliceOf.new ..) .none .none (.int (-1) t) (by decide) ?_ (by rw [List.size_toArray] <;> omega);rw [PySem.W.krv_pick];refine ⟨.ref _,_,I3.laid (t':=s2.toks) (o:= .lst xs.reverse) (λ b ob q=>Heap.get?_push_of_some _ q) (Nat.le_refl _) ?_,rfl,q _ (I3.hok.fresh (Nat.le_refl _))⟩;exact ⟨by rw [List.length_reverse];exact hz,_,0,r.reverse,Heap.get?_push_size _ rfl⟩
theorem JX {p:Addr} {xs:List V} {H:Hp} {Q:VK} (c:SqL K H p xs) (h:∀ q,H q=none->Q (.ref q) (upd H q (.lst xs.reverse))):R1 K (.ref p) (.int (-1)) H Q:=⟨p,xs,rfl,rfl,c,h⟩
end
end L2
namespace MM
theorem LA {α:Type} {p:List α->Prop} (h0:p []) (h1:∀ l a,p l->p (l++[a])):∀ l,p l:=λ l=>by
  have h:∀ r:List α,p r.reverse:=λ r=>by
    induction r with
    | nil=>exact h0
    | cons a r ih=>rw [List.reverse_cons];exact h1 _ _ ih
  have:=h l.reverse
  rwa [List.reverse_reverse] at this
theorem or_add_and (a:Nat):∀ b:Nat,(a ||| b)+(a &&& b)=a+b:=by
  induction a using Nat.strongRecOn with
  | ind a ih=>
    intro b;by_cases h:a=0
    · subst h;simp
    · have ih':=ih (a / 2) (by omega) (b / 2);have e1:(a ||| b)=2*((a ||| b) / 2)+(a ||| b)%2:=by omega
      have e2:(a &&& b)=2*((a &&& b) / 2)+(a &&& b)%2:=by omega
      have d1:(a ||| b) / 2=a / 2 ||| b / 2:=by simpa using Nat.or_div_two (a:=a) (b:=b)
      have d2:(a &&& b) / 2=a / 2 &&& b / 2:=by simpa using Nat.and_div_two (a:=a) (b:=b)
      have m1:(a ||| b)%2+(a &&& b)%2=a%2+b%2:=by
        have z:∀ x:Nat,x%2=(x.testBit 0).toNat:=λ x=>by rw [Nat.toNat_testBit];simp
        rw [z (a ||| b),z (a &&& b),z a,z b,Nat.testBit_or,Nat.testBit_and];cases a.testBit 0 <;> cases b.testBit 0 <;> rfl
      rw [d1] at e1;rw [d2] at e2;omega
theorem xor_eq (a b:Nat):(a ^^^ b)+(a &&& b)=(a ||| b):=by
  have h1:=or_add_and (a ^^^ b) (a &&& b);have e1:((a ^^^ b) ||| (a &&& b))=(a ||| b):=by
    refine Nat.eq_of_testBit_eq λ i=> ?_;simp only [Nat.testBit_or,Nat.testBit_xor,Nat.testBit_and];cases a.testBit i <;> cases b.testBit i <;> rfl
  have e2:((a ^^^ b) &&& (a &&& b))=0:=by
    refine Nat.eq_of_testBit_eq λ i=> ?_;simp only [Nat.testBit_and,Nat.testBit_xor,Nat.zero_testBit];cases a.testBit i <;> cases b.testBit i <;> rfl
  rw [e1,e2] at h1;omega
def ofB (f:Nat->Bool):Nat->Nat
  | 0=>0
  | w+1=>ofB f w+(f w).toNat*2 ^ w
theorem ofB_lt (f:Nat->Bool):∀ w,ofB f w<2 ^ w
  | 0=>by simp [ofB]
  | w+1=>by
    have:=ofB_lt f w;unfold ofB;rw [Nat.pow_succ];cases f w <;> simp <;> omega
theorem ofB_bit (f:Nat->Bool):∀ w i,(ofB f w).testBit i=(decide (i<w)&&f i)
  | 0,i=>by simp [ofB]
  | w+1,i=>by
    have hl:=ofB_lt f w;unfold ofB;have e:ofB f w+(f w).toNat*2 ^ w=2 ^ w*(f w).toNat+ofB f w:=by rw [Nat.mul_comm];omega
    rw [e,Nat.testBit_two_pow_mul_add _ hl];by_cases h:i<w
    · rw [if_pos h,ofB_bit f w i];simp [h,Nat.lt_succ_of_lt h]
    · rw [if_neg h];by_cases h2:i=w
      · subst h2;cases f i <;> simp
      · have h3:¬ i<w+1:=by omega
        have h4:i - w≠0:=by omega
        have h5:(1:Nat).testBit (i - w)=false:=by
          obtain ⟨d,hd⟩:∃ d,i - w=d+1:=⟨i - w - 1,by omega⟩;rw [hd,Nat.testBit_succ];simp
        cases f w
        · simp [h3]
        · simp only [Bool.toNat_true,h5,h3,decide_false,Bool.false_and]
theorem ofB_self (m w:Nat) (h:m<2 ^ w):ofB m.testBit w=m:=by
  refine Nat.eq_of_testBit_eq λ i=> ?_;rw [ofB_bit];by_cases hi:i<w
  · simp [hi]
  · have:m.testBit i=false:=Nat.testBit_lt_two_pow (Nat.lt_of_lt_of_le h (Nat.pow_le_pow_right (by decide) (by omega)));simp [hi,this]
theorem ofB_congr {f g:Nat->Bool} {w:Nat} (h:∀ i,i<w->f i=g i):ofB f w=ofB g w:=by
  refine Nat.eq_of_testBit_eq λ i=> ?_;rw [ofB_bit,ofB_bit];by_cases hi:i<w
  · simp [hi,h i hi]
  · simp [hi]
theorem eq_ofB {m w:Nat} {f:Nat->Bool} (h:m<2 ^ w) (b:∀ i,i<w->m.testBit i=f i):m=ofB f w:=by
  rw [<-ofB_self m w h];exact ofB_congr b
theorem bit_div (m e:Nat):m / 2 ^ e%2=(m.testBit e).toNat:=by
  rw [Nat.testBit_eq_decide_div_mod_eq];have:m / 2 ^ e%2<2:=Nat.mod_lt _ (by decide);by_cases h:m / 2 ^ e%2=1
  · simp [h]
  · have:m / 2 ^ e%2=0:=by omega
    simp [this]
def mOf (ns:List Nat):Nat:=ns.foldl (λ m n=>m ||| 2 ^ (n - 1)) 0
theorem mOf_snoc (ns:List Nat) (n:Nat):mOf (ns++[n])=mOf ns ||| 2 ^ (n - 1):=by unfold mOf;rw [List.foldl_append];rfl
theorem mOf_bit (ns:List Nat) (i:Nat):(mOf ns).testBit i=ns.any λ n=>decide (n - 1=i):=by
  refine LA (p:=λ ns=>(mOf ns).testBit i=ns.any λ n=>decide (n - 1=i)) (by simp [mOf]) (λ l a ih=> ?_) ns
  · rw [mOf_snoc,Nat.testBit_or,ih,List.any_append,Nat.testBit_two_pow];simp
theorem mOf_lt {ns:List Nat} {w:Nat} (h:∀ n∈ns,n - 1<w):mOf ns<2 ^ w:=by
  refine Nat.lt_pow_two_of_testBit _ λ i hi=> ?_;rw [mOf_bit,List.any_eq_false];intro n hn;have:=h n hn;simp;omega
def uOf (ms:List Nat):Nat:=ms.foldl (λ m n=>m ||| n) 0
theorem uOf_snoc (ns:List Nat) (n:Nat):uOf (ns++[n])=uOf ns ||| n:=by unfold uOf;rw [List.foldl_append];rfl
theorem uOf_bit (ns:List Nat) (i:Nat):(uOf ns).testBit i=ns.any λ n=>n.testBit i:=by
  refine LA (p:=λ ns=>(uOf ns).testBit i=ns.any λ n=>n.testBit i) (by simp [uOf]) (λ l a ih=> ?_) ns;rw [uOf_snoc,Nat.testBit_or,ih,List.any_append];simp
def bits (m:Nat):Nat:=if m=0 then 0 else m.log2+1
theorem Nj (m:Nat):m<2 ^ bits m:=by
  unfold bits;split
  · subst_vars;decide
  · exact Nat.lt_log2_self
theorem bits_le {m w:Nat} (h:m<2 ^ w):bits m<=w:=by
  unfold bits;split
  · exact Nat.zero_le _
  · rename_i h0
    exact (Nat.log2_lt h0).mpr h
def nOf (m:Nat):List Nat:=((List.range (bits m)).filter m.testBit).map (· + 1)
theorem nOf_mem (m n:Nat):n∈nOf m↔1<=n/\m.testBit (n - 1)=true:=by
  unfold nOf;simp only [List.mem_map,List.mem_filter,List.mem_range];constructor
  · rintro ⟨k,⟨_,h⟩,rfl⟩;exact ⟨by omega,by simpa using h⟩
  · rintro ⟨h1,h2⟩;refine ⟨n - 1,⟨?_,h2⟩,by omega⟩;rcases Nat.lt_or_ge (n - 1) (bits m) with q | q
    · exact q
    · rw [Nat.testBit_lt_two_pow (Nat.lt_of_lt_of_le (Nj m) (Nat.pow_le_pow_right (by decide) q))] at h2;cases h2
theorem Ph {m w:Nat} (h:m<2 ^ w):nOf m=((List.range w).filter m.testBit).map (· + 1):=by
  unfold nOf;have hb:=bits_le h;obtain ⟨d,rfl⟩:∃ d,w=bits m+d:=⟨w - bits m,by omega⟩;congr 1;rw [List.range_add,List.filter_append];have e:((List.range d).map (bits m+ ·)).filter m.testBit=[]:=by
    rw [List.filter_eq_nil_iff];intro x hx;obtain ⟨k,_,rfl⟩:=List.mem_map.mp hx;rw [Nat.testBit_lt_two_pow (Nat.lt_of_lt_of_le (Nj m) (Nat.pow_le_pow_right (by decide) (Nat.le_add_right _ _)))];simp
  rw [e,List.append_nil]
theorem nOf_len {m w:Nat} (h:m<2 ^ w):(nOf m).length<=w:=by
  rw [Ph h,List.length_map];exact Nat.le_trans (List.length_filter_le _ _) (by simp)
def tOf (m w:Nat):Nat:=mOf ((nOf m).map λ n=>w+1 - n)
theorem tOf_bit {m w i:Nat} (h:m<2 ^ w) (hi:i<w):(tOf m w).testBit i=m.testBit (w - 1 - i):=by
  unfold tOf;rw [mOf_bit,Bool.eq_iff_iff,List.any_eq_true];constructor
  · rintro ⟨n,hn,e⟩;obtain ⟨k,hk,rfl⟩:=List.mem_map.mp hn;have:=(nOf_mem m k).mp hk;have e:=of_decide_eq_true e;rw [show w - 1 - i=k - 1 by
      have:k - 1<w:=by
        rcases Nat.lt_or_ge (k - 1) w with q | q
        · exact q
        · rw [Nat.testBit_lt_two_pow (Nat.lt_of_lt_of_le h (Nat.pow_le_pow_right (by decide) q))] at this;cases this.2
      omega]
    exact this.2
  · intro q;refine ⟨i+1,List.mem_map.mpr ⟨w - i,(nOf_mem m (w - i)).mpr ⟨by omega,?_⟩,by omega⟩,by simp⟩;rw [show w - i - 1=w - 1 - i by omega];exact q
theorem tOf_lt {m w:Nat} (h:m<2 ^ w):tOf m w<2 ^ w:=by
  refine mOf_lt λ n hn=> ?_;obtain ⟨k,hk,rfl⟩:=List.mem_map.mp hn;have:=(nOf_mem m k).mp hk;have:0<w:=by
    rcases Nat.eq_zero_or_pos w with q | q
    · subst q;have:m=0:=by simpa using h
      subst this;simp at this
    · exact q
  omega
theorem PK (w i:Nat):(2 ^ w - 1).testBit i=decide (i<w):=Nat.testBit_two_pow_sub_one w i
theorem other_bit {m w i:Nat} (hi:i<w):((2 ^ w - 1) ^^^ m).testBit i= !m.testBit i:=by
  rw [Nat.testBit_xor,PK];simp [hi]
theorem other_lt {m w:Nat} (h:m<2 ^ w):((2 ^ w - 1) ^^^ m)<2 ^ w:=Nat.xor_lt_two_pow (by have:0<2 ^ w:=Nat.two_pow_pos w;omega) h
end MM
namespace L2
open PySem PySem.Spec PyProof.Rows
section
variable {X:Cx}
theorem Jn {x:Str} {i:Int} {pos:Pos} (h:∃ t,X.mg x=some (.int i t)) (hg:Gl X x:=by rfl) (hd:(x == ("__debug__":Str))=false:=by decide):PE X (.Name x pos) (tC (.int i)):=by
  obtain ⟨t,e⟩:=h;exact KB hg e ⟨t,rfl⟩ hd
theorem UC {x z:Str} {pos:Pos} (h:∃ t,X.mg x=some (.str z t)) (hg:Gl X x:=by rfl) (hd:(x == ("__debug__":Str))=false:=by decide):PE X (.Name x pos) (tC (.str z)):=by
  obtain ⟨t,e⟩:=h;exact KB hg e ⟨t,rfl⟩ hd
end
section
variable {H:Hp} {Q:VK} {σ:St} {td ty tv:TE} {D:Ends} {a:Addr} {kvs:List (Key × V)}
theorem Q4 (h:td σ H λ x H1=>ty σ H1 λ y H2=>∃ a v,x= .ref a/\DGet H2 a y (some v)/\Q v H2):RN td ty σ H Q:=h
theorem Rt {trs:List (TE × TE)} (h:∀ p,H p=none->Fe trs σ (upd H p (.dK [])) λ ps H2=>H2 p=some (.dK [])/\∃ kvs:List (Key × V),ps=kvs.map (λ kv=>(kV kv.1,kv.2))/\kvs.length<=15/\Q (.ref p) (upd H2 p (.dK (AK [] kvs)))):Sk trs σ H Q:=h
theorem Qm {R:List (V × V)->Hp->Prop} (h:R [] H):Fe [] σ H R:=h
theorem Qa {tk tw:TE} {r:List (TE × TE)} {R:List (V × V)->Hp->Prop} (h:tk σ H λ x H1=>tw σ H1 λ y H2=>Fe r σ H2 λ ps H3=>R ((x,y)::ps) H3):Fe ((tk,tw)::r) σ H R:=h
end
theorem Room.units1 {k:Nat} {A:Around} (r:Room k A):A.units+1<cLine:=by have:=r.un;omega
section
variable {H:Hp} {Q:VK} {σ:St} {K:PySem.W.Frag} {to:TE} {t:TA} {r:V->List V->Hp->VK->Prop} {T:String} {l p q:Addr} {xs ys:List V} {y:V}
theorem TU (h:to σ H λ x H1=>tyV K T x H1/\r x [] H1 Q):SH K T r to σ H Q:=h
theorem Z4 (h:to σ H λ x H1=>tyV K T x H1/\t σ H1 λ xs H2=>r x xs H2 Q):tBM K T r to t σ H Q:=h
theorem tyL {B:Prop} (c:SqL K H l xs) (h:B):tyV K "list" (.ref l) H/\B:=⟨.inl ⟨rfl,xs,c⟩,h⟩
theorem tyI {B:Prop} {i:Int} (h:B):tyV K "int" (.int i) H/\B:=⟨rfl,h⟩
theorem S4 (c:H l=some (.lst xs)) (b:xs.length<16777216) (h:Q .non (upd H l (.lst (xs++[y])))):rAppend (.ref l) [y] H Q:=⟨l,xs,y,rfl,rfl,c,by rw [sizeLine_eq];exact b,h⟩
theorem Hf (c:SqL K H l xs) (d:SqL K H p ys) (b:xs.length+ys.length<=16777216) (h:∀ q,H q=none->Q (.ref q) (upd H q (.lst (xs++ys)))):OM K (.ref l) (.ref p) H Q:=⟨l,p,xs,ys,rfl,rfl,c,d,by rw [sizeLine_eq];exact b,h⟩
theorem Td {k:Int} (c:H l=some (.lst xs)) (b1:0<=k) (b2:k<=100000) (b3:xs.length<=100) (h:∀ q,H q=none->Q (.ref q) (upd H q (.lst (List.replicate k.toNat xs).flatten))):Vx (.ref l) (.int k) H Q:=
  ⟨l,k,xs,rfl,rfl,c,by omega,by omega,by
    rw [sizeLine_eq];have h1:k.toNat<=100000:=by omega
    exact Nat.le_trans (Nat.mul_le_mul b3 h1) (by decide),h⟩
theorem Nk {as bs:List Int} (c:SqL K H l (as.map V.int)) (d:SqL K H p (bs.map V.int)) (h:Q (.bl (decide (as=bs))) H):Mc K false (.ref l) (.ref p) H Q:=
  ⟨l,p,_,_,rfl,rfl,c,d,FO as,FO bs,by rw [Le];exact h⟩
theorem M9 {as bs:List Int} (c:SqL K H l (as.map V.int)) (d:SqL K H p (bs.map V.int)) (h:Q (.bl (!decide (as=bs))) H):Mc K true (.ref l) (.ref p) H Q:=
  ⟨l,p,_,_,rfl,rfl,c,d,FO as,FO bs,by rw [Le];exact h⟩
theorem JA {z:Addr} (c:SqL K H z xs) (h:∀ q,H q=none->Q (.ref q) (upd H q (.lst xs))):JY K [.ref z] H Q:=⟨z,xs,rfl, .inl c,h⟩
theorem Bh {z:Addr} (c:SqT K H z xs) (h:∀ q,H q=none->Q (.ref q) (upd H q (.lst xs))):JY K [.ref z] H Q:=⟨z,xs,rfl, .inr c,h⟩
theorem BO {z:Addr} (c:SqL K H z xs) (h:∀ q,H q=none->Q (.ref q) (upd H q (.tup xs))):Lu K [.ref z] H Q:=⟨z,xs,rfl, .inl ⟨c,h⟩⟩
end
end L2
namespace L2
open PySem
open Sem (wp)
open AutoSeq1 (wpAny_loadPart')
section
variable {prog:Program} {w:World} {A:Around} {E:Value->Shared->Prop} {s:Shared}
theorem LB {T newId:String} {Bn:Builtin} {v:Value} {x:Str} {u:Value} {Q:Value->Shared->Prop} (ft:TypeCalled T newId "object.__init__") (hne:(some newId != some "object.__new__")=true)
    (hct:checkTypeCall T ⟨[v],[(x,u)]⟩=pure ()) (hcn:checkBuiltinCall newId ⟨[.type T,v],[(x,u)]⟩=pure ()) (hok:∀ obj,argsOk "object.__init__" ⟨[obj,v],[(x,u)]⟩) (entryN:entryFor table newId=some Bn)
    (g:wpAny (model prog w) A.in1.in1 (Bn ⟨[.type T,v],[(x,u)]⟩) (λ fin s1=>∃ obj,fin= .done (.ret obj)/\s1.TypeIs obj T/\Q obj s1) E s):wpAny (model prog w) A (call (.type T) [v] [(x,u)]) Q E s:=by
  obtain ⟨c,tl,hmro⟩:=ft.mro;have hmade:=ft.made;have hsub:=ft.sub;refine wpAny_call (codeAny_of_tree ?_);show wpAny _ _ (callAny (.type T) _) _ _ _;refine wpAny_pure ⟨Code.quiet_builtin _ (by decide +kernel),codeAny_builtin F.entry_type_call ?_⟩;rw [Around.under_plain (weight_type_call_type T [v] [(x,u)]) (units_type_call_type T [v] [(x,u)])];have h1:=ft.notType;have h2:=ft.canCreate
  repeat (any_goals (first | assumption | wp_step))
  refine codeAny_call_builtin ft.plain entryN (wpAny_of_eq hcn (wpAny_mono g (λ fin s1 q=> ?_) λ _ _ q=>q));obtain ⟨obj,rfl,hT,q⟩:=q;have hli:=ft.init.lookup;have hbi:=ft.init.bind obj;show wpAny _ _ _ _ _ _
  repeat (any_goals (first | assumption | wp_step))
  refine codeAny_call_builtin ft.init.plain F.entry_object_init (ft.init.check _ _ _ _ _ _ _ _ hT (hok obj) ?_)
  repeat (any_goals (first | assumption | wp_step))
  trace_state
theorem KZ {v:Value} {t:Tok} {Q:Value->Shared->Prop}
    (h:wpAny (model prog w) A (pyIter v) (λ itv s1=>Q (.ref s1.heap.objs.size) { s1 with heap:=s1.heap.push { cls:= .type "enumerate",data:= .fields #[.none, .bool false,itv,rawInt 1, .none, .none] } }) E s):
    wpAny (model prog w) A (Builtin.«enumerate.__new__» ⟨[.type "enumerate",v],[("start", .int 1 t)]⟩) (λ fin s1=>∃ obj,fin= .done (.ret obj)/\Q obj s1) E s:=by
  have hsub:=sub_enumerate;have hit:∀ {R:Value->Shared->Prop},(∀ itv s1,Q (.ref s1.heap.objs.size) { s1 with heap:=s1.heap.push { cls:= .type "enumerate",data:= .fields #[.none, .bool false,itv,rawInt 1, .none, .none] } }->R itv s1)->wpAny (model prog w) A (pyIter v) R E s:=λ k=>wpAny_mono h k λ _ _ q=>q;unfold Builtin.«enumerate.__new__»
  wp_walk
  refine wpAny_stack_any λ st=>wpAny_pure ?_;split
  · rename_i c _ _ _ _ _
    cases (c == Value.type "enumerate")
    · wp_walk using hit
      intro itv s1 q
      wp_walk
      exact ⟨_,rfl,q⟩
    · wp_walk using hit
      intro itv s1 q
      wp_walk
      exact ⟨_,rfl,q⟩
  · wp_walk using hit
    intro itv s1 q
    wp_walk
    exact ⟨_,rfl,q⟩
theorem LX {v:Value} {t:Tok} {Q:Value->Shared->Prop}
    (h:wpAny (model prog w) A.in1.in1 (pyIter v) (λ itv s1=>∃ it,itv= .ref it/\∀ h',IsEnum h' s1.heap.objs.size it 1 .none->(∀ b o,s1.heap.get? b=some o->h'.get? b=some o)->h'.objs.size=s1.heap.objs.size+1->Q (.ref s1.heap.objs.size) { s1 with heap:=h' }) E s):
    wpAny (model prog w) A (call (.type "enumerate") [v] [("start", .int 1 t)]) Q E s:=by
  refine LB F.called_enumerate (by decide) (by kernel_rfl) (by kernel_rfl) (λ obj=>by unfold argsOk;kernel_rfl) F.entry_enumerate_new (KZ (wpAny_mono h (λ itv s1 q=> ?_) λ _ _ q=>q));obtain ⟨it,rfl,q⟩:=q;refine ⟨⟨_,Heap.get?_push_size _ rfl,rfl⟩,q _ (Heap.get?_push_size _ rfl) (λ b o e=>Heap.get?_push_of_some _ e) (Heap.size_push ..)⟩
end
theorem TR {prog:Program} {w:World} {A:Around} {it:Addr} {fp:List Addr} {n:Nat} {Pv:Nat->Value->Prop} {St:Nat->Heap->Prop} (k:Nat) (D:Draws prog w A it fp n Pv St):
    Draws prog w A it fp (n+k) (λ i v=>∃ j,i=j+k/\Pv j v) (λ i h=>∃ j,i=j+k/\St j h) where
  live:=λ i h ⟨j,_,st⟩=>D.live j h st
  frame:=λ i h h' ⟨j,e,st⟩ q=>⟨j,e,D.frame j h h' st q⟩
  item:=λ i s Q E hi ⟨j,e,st⟩ hQ=>D.item j s Q E (by omega) st λ x h' tk p st' sb=>hQ x h' tk ⟨j,e,p⟩ ⟨j+1,by omega,st'⟩ sb
  done:=λ s Q E ⟨j,e,st⟩ hE=>D.done s Q E (by
    have q:j=n:=by omega
    rw [q] at st;exact st) hE
theorem LE {M:Model} {A:Around} {E:Value->Shared->Prop} {s:Shared} {pos:Pos} {T:String} {args:List (Bool × Sem Value)} {kws:List (Option Str × Sem Value)} {Q:Value->Shared->Prop}
    (hp:args.any (·.1)=false) (hk:kws.any (·.1.isNone)=false) (h:wpAny M A (evalArgs (.type T) true args kws) (λ a s1=>wpAny M A (call (.type T) a.pos a.kw) Q E s1) E s):wpAny M A (callWith pos (.type T) [] args kws) Q E s:=by
  unfold callWith;refine wpAny_bind (wpAny_holding (wpAny_mono h (λ a s1 h1=>wpAny_bind (wpAny_standAt ?_)) λ _ _ q=>q));simp only [hp,hk,Bool.or_false];refine wpAny_bind (wpAny_pure ?_);refine wpAny_bind (wpAny_mono h1 (λ r s2 hr=> ?_) λ _ _ q=>q);exact wpAny_bind (wpAny_holding (wpAny_point (wpAny_pure hr)))
end L2
namespace L2
open PySem PySem.Spec PyProof.Rows
theorem Tr {prog:Program} {w:World} {A:Around} (hh:A.handled=none) (tp:Bool) (it l:Addr) (hne:l≠it) (items:Array Value):
    Draws prog w A it [it,l] items.size (λ i v=>items[i]?=some v) (λ i h=>BF tp h it l i/\Bi tp h l items) where
  live:=λ _ _ st=>let ⟨o,e,_⟩:=Bl st.1;⟨o,e⟩
  frame:=λ _ _ _ st hk=>⟨Ar st.1 λ o e=>hk it (by simp) o e,Bw st.2 λ o e=>hk l (by simp) o e⟩
  item:=λ i s Q E hi st hQ=>Dm st.1 st.2 (x:=items[i]) (by simp [hi]) λ h' hit sb=>hQ _ h' s.toks (by simp [hi]) ⟨hit,Bw st.2 λ o e=>(sb.2 l hne).trans e⟩ sb
  done:=λ s Q E st hE=>FH hh st.1 st.2 (by simp) hE
noncomputable def Pg (tp:Bool) (K:PySem.W.Frag) (a:Addr):It:=
  ⟨λ i H=>∃ xs x,SqS tp K H a xs/\xs[i]?=some x,λ i H v H'=>∃ p x,H p=none/\v= .ref p/\H'=upd H p (.tup [.int ((i+1:Nat):Int),x])/\∀ xs,SqS tp K H a xs->xs[i]?=some x,λ i H=>∃ xs,SqS tp K H a xs/\xs.length<=i⟩
theorem Mh {P:Program} {w:World} {K:PySem.W.Frag} {elts:List Expr} {k:Nat} {pos:Pos} (tp:Bool) (a e it:Addr) (hne:e≠it):
    Turn P w K (.Tuple elts k pos) (Pg tp K a) [e,it] e (λ i h=>(∃ old,IsEnum h e it ((i+1:Nat):Int) old)/\BF tp h it a i) where
  mem:=by simp
  obj:=λ i h st b hb=>by
    obtain ⟨⟨old,he⟩,hi⟩:=st;obtain ⟨o,eo,d⟩:=Bl hi;rcases List.mem_cons.mp hb with z | z
    · subst z;exact ⟨_,he,λ v z=>by cases (show Data.fields _=Data.cell v from z)⟩
    · have z:b=it:=by simpa using z
      subst z;exact ⟨o,eo,λ v z=>by rw [d] at z;cases z⟩
  keep:=λ i h h' st kp=>by
    obtain ⟨⟨old,he⟩,hi⟩:=st;exact ⟨⟨old,kp e (by simp) _ he⟩,Ar hi λ o z=>kp it (by simp) o z⟩
  item:=by
    intro X hP hw hK hc i pins s σ H E I hf st hg;subst hP hw hK;obtain ⟨xs,x,hq,hx⟩:=hg;obtain ⟨its,rv,p⟩:=Bg I hq;obtain ⟨u,hu,ru⟩:=rv.get hx;obtain ⟨⟨old,he⟩,hi⟩:=st;obtain ⟨oi,ei,di⟩:=Bl hi;obtain ⟨oa,na,ea,da⟩:=Cz p;have hel:e<s.heap.objs.size:=Heap.lt_size he;have hil:it<s.heap.objs.size:=Heap.lt_size ei;have nia:a≠it:=λ z=>by
      subst z;rw [ei] at ea;cases ea;rw [di] at da;cases da
    have nea:e≠a:=λ z=>by
      subst z;rw [show s.heap.get? e=_ from he] at ea;cases ea;cases (show Data.fields _=Data.seq _ _ from da)
    have hlt:i<its.toArray.size:=by
      have:=(List.getElem?_eq_some_iff.mp hu).1;simpa using this
    have D:=TR 1 (Tr (prog:=X.prog) (w:=X.w) (A:=X.A.in1) (I.ok.hd hc) tp it a nia its.toArray);refine wpAny_pyNext_enum_itemD (i:=i+1) D he ⟨i,rfl,hi,p⟩ (by omega) hne (by simp [hne,nea]) λ v h' tk pv ho st' hT hsz hk=> ?_;obtain ⟨j,ej,ev⟩:=pv;obtain ⟨j2,ej2,hi',p'⟩:=st';have ej:j=i:=by omega
    have ej2:j2=i+1:=by omega
    subst ej ej2;have ev:v=u:=by
      rw [show its.toArray[j]?=some u by simpa using hu] at ev;exact (Option.some.inj ev).symm
    subst ev;have I0:=I.laid (h':=s.heap.push { cls:= .type "tuple",data:= .seq #[.int ((j+1:Nat):Int) tk,v] }) (a:=s.heap.objs.size) (o:= .tup [.int ((j+1:Nat):Int),x]) (t':=tk+1) (λ _ _ q=>Heap.get?_push_of_some _ q) (Nat.le_refl _)
      ⟨(by show 2<=sizeLine;decide),[.int ((j+1:Nat):Int) tk,v], .cons ⟨_,rfl⟩ (.cons ru .nil),⟨_,Heap.get?_push_size _ rfl,rfl,_,rfl⟩⟩
    have f0:∀ b∈[e,it],Cj X pins (upd H s.heap.objs.size (.tup [.int ((j+1:Nat):Int),x])) b:=λ b hb=>Fl (hf b hb) (by
      rcases List.mem_cons.mp hb with z | z
      · rw [z];exact Nat.ne_of_lt hel
      · rw [show b=it by simpa using z];exact Nat.ne_of_lt hil)
    have I1:=Inv.turnedL (t':=tk+1) (h':=h') [e,it] I0 f0 (λ b o hb z=>by
      have hb1:b≠e:=λ q=>hb (by simp [q]);have hb2:b≠it:=λ q=>hb (by simp [q]);rcases Heap.get?_push_cases (show (s.heap.push { cls:= .type "tuple",data:= .seq #[.int ((j+1:Nat):Int) tk,v] }).get? b=some o from z) with ⟨q1,q2⟩ | q
      · rw [q1,q2];exact hT
      · exact hk b o hb1 hb2 q)
    refine ⟨.ref s.heap.objs.size,rfl,wpAny_letOwnedTupleGo_enum (s:={ s with heap:=h',toks:=tk+1 }) ho λ h2 he2 sb=> ?_⟩;exact ⟨.ref s.heap.objs.size,_,Inv.turnedL (t':=tk+1) (h':=h2) [e,it] I1 f0 (λ b o hb z=>(sb.2 b λ q=>hb (by simp [q])).trans z),rfl,⟨_,x,I.fresh,rfl,rfl,λ ys hy=>by rw [Kr I hy hq];exact hx⟩,
      ⟨⟨v,by simpa using he2⟩,Ar hi' λ o z=>(sb.2 it hne.symm).trans z⟩,λ b hb=>(f0 b hb).1⟩
  done:=by
    intro X hP hw hK hc i pins s σ H E I hf st hg;subst hP hw hK;obtain ⟨xs,hq,hx⟩:=hg;obtain ⟨its,rv,p⟩:=Bg I hq;obtain ⟨⟨old,he⟩,hi⟩:=st;obtain ⟨oi,ei,di⟩:=Bl hi;obtain ⟨oa,na,ea,da⟩:=Cz p;have hT:s.TypeIs (.ref e) "enumerate":=⟨_,he,rfl⟩;have hl:=rv.length;unfold pyNext;refine wpAny_bind (wpAny_attempt (wpAny_callSpecial?_slot (name:=Str.ofString "__next__") hT F.slot_enumerate_next (wpAny_call_entry F.slot_enumerate_next hT F.entry_enumerate_next ?_ (F.args_enumerate_next_1 _))));show wpAny _ _ (field (.ref e) 2 >>= _) _ _ _;refine wpAny_bind (wpAny_field he rfl (x:= .ref it) rfl ?_);refine wpAny_bind (FH (A:=X.A.in1) (I.ok.hd hc) hi p (by simp;omega) λ h' x eb hx'=> ?_);obtain ⟨o,ho,hc2⟩:=hx';exact wpAny_bind (wpAny_isInstance (T:="StopIteration") (b:=true) ⟨o,ho,hc2⟩ isSubtype_stop (wpAny_pure ⟨rfl,I.turnedL (t':=s.toks) [e,it] hf λ b o hb z=>eb b o (λ q=>hb (by simp [q])) z⟩))
  self:=λ _ _ _ _ _ st h=>by
    obtain ⟨⟨old,he⟩,_⟩:=st;exact wpAny_pyIter_enum he h
section
variable {X:Cx} {elts:List Expr} {k:Nat} {tpos:Pos} {K:PySem.W.Frag}
def O1 (K:PySem.W.Frag) (ta:TA):TI:=λ σ H R=>ta σ H λ vs H1=>∃ tp a,vs=[.ref a]/\(∃ xs,SqS tp K H1 a xs)/\R (Pg tp K a) H1
theorem EC {l:Expr} {ta:TA} {p pos kp cp:Pos} {cj:Nat} (hg:Gl X "enumerate") (hm:X.mg "enumerate"=none) (ha:PA X [l] ta) (hK:X.K=K:=by rfl) (hs:starEach [l] X.env=[(false,eval l X.env)]:=by rfl):
    PI X (.Tuple elts k tpos) (.Call (.Name "enumerate" p) [l] [⟨some "start", .Constant (.int 1) cj cp,kp⟩] pos) (O1 K ta):=by
  subst hK;intro pins s σ H R I h;refine wpAny_Call_Name_kw (B3 I hg hm Jk (LE (by rw [hs];rfl) rfl (PyProof.Rows.evalArgs_kw2 rfl ?_ (by rw [hs];rfl))));refine thn (ha pos pins s σ H _ I h) λ us s1 ⟨vs,H1,I1,r1,q1⟩=>PyProof.Rows.kwAll_cons ?_;refine Ae pins s1 σ H1 (λ v H2=>v= .int 1/\H2=H1) I1 ⟨rfl,rfl⟩ |> λ z=>thn z λ u s2 ⟨v,H2,I2,r2,ev,eh⟩=> ?_
  subst ev eh;obtain ⟨t,rfl⟩:=r2;refine PyProof.Rows.kwAll_nil ?_;obtain ⟨tp,a,e,⟨xs,hq⟩,q⟩:=q1;subst e;cases r1 with
  | cons r rr=>
    cases rr;cases r;obtain ⟨its,rv,pl⟩:=Bg I2 hq;refine LX ?_;refine Hh pl ⟨_,rfl,λ h' he hk hsz=> ?_⟩;refine wpAny_pyIter_enum he ?_;have hz:(s2.heap.push { cls:= .type (Jr tp),data:= .fields #[.ref a, .int 0 0] }).objs.size=s2.heap.objs.size+1:=Heap.size_push ..;have hk2:∀ b o,s2.heap.get? b=some o->h'.get? b=some o:=λ b o z=>hk b o (Heap.get?_push_of_some _ z);have I3:=I2.kept (t':=s2.toks) hk2;have st:BF tp h' s2.heap.objs.size a 0:=Ar Gq λ o z=>hk _ o z;refine ⟨_,[_,s2.heap.objs.size],_,_,H2,rfl,I3,Mh tp a _ _ (by rw [hz];exact Nat.succ_ne_self _),⟨⟨_,he⟩,st⟩,λ b hb=> ?_,q⟩;have hb':s2.heap.objs.size<=b:=by
      rcases List.mem_cons.mp hb with z | z
      · rw [z,hz];exact Nat.le_succ _
      · have z:b=s2.heap.objs.size:=by simpa using z
        rw [z];exact Nat.le_refl _
    exact I2.fpOk hb' (I2.hok.fresh hb')
end
noncomputable def Isq (tp:Bool) (K:PySem.W.Frag) (a:Addr):It:=if tp=true then Itt K a else Itl K a
section
variable {X:Cx} {tg:Expr} {K:PySem.W.Frag}
def iSq (K:PySem.W.Frag) (tl:TE):TI:=λ σ H R=>tl σ H λ x H1=>∃ tp a,x= .ref a/\(∃ xs,SqS tp K H1 a xs)/\R (Isq tp K a) H1
theorem OF {l:Expr} {tl:TE} (hl:PE X l tl) (hK:X.K=K:=by rfl):PI X tg l (iSq K tl):=by
  subst hK;intro pins s σ H R I h;refine thn (hl pins s σ H _ I h) λ v s1 ⟨x,H1,I1,r1,q1⟩=> ?_;obtain ⟨tp,a,e,⟨xs,hq⟩,q⟩:=q1;subst e;cases r1;cases tp with
  | false=>
    obtain ⟨its,rv,p,hz⟩:=I1.list (show SqL X.K H1 a xs from hq);refine wpAny_pyIter_list p.isList ?_;refine ⟨s1.heap.objs.size,[s1.heap.objs.size],_,_,H1,rfl,I1.kept (t':=s1.toks) λ b o e=>Heap.get?_push_of_some _ e,Js a _,⟨_,Heap.get?_push_size _ rfl,rfl,rfl⟩,λ b hb=> ?_,q⟩;have e:b=s1.heap.objs.size:=by simpa using hb
    subst e;exact I1.fpOk (Nat.le_refl _) (I1.hok.fresh (Nat.le_refl _))
  | true=>
    obtain ⟨its,rv,p,hz⟩:=I1.tuple (show SqT X.K H1 a xs from hq);refine wpAny_pyIter_tuple (show s1.heap.IsTuple a its.toArray from p) ?_;refine ⟨s1.heap.objs.size,[s1.heap.objs.size],_,_,H1,rfl,I1.kept (t':=s1.toks) λ b o e=>Heap.get?_push_of_some _ e,Ib a _,⟨_,Heap.get?_push_size _ rfl,rfl,rfl⟩,λ b hb=> ?_,q⟩;have e:b=s1.heap.objs.size:=by simpa using hb
    subst e;exact I1.fpOk (Nat.le_refl _) (I1.hok.fresh (Nat.le_refl _))
end
structure FSrc (J:It) (g:TG) (H:Hp) (n:Nat) (set:Nat->St->St):Prop where
  go:∀ i H',i<n->Same H H'->J.go i H'
  stop:∀ H',Same H H'->J.stop n H'
  yld:∀ i σ H' x H'' (R:St->Hp->Prop),i<n->Same H H'->J.yld i H' x H''->(∀ H3,Same H' H3->R (set i σ) H3)->g x σ H'' R
theorem Cu {J:It} {g:TG} {H:Hp} {n:Nat} {set:Nat->St->St} {tb:TS} {D:Ends} {σ:St} (S:FSrc J g H n set) (Pv:Nat->St->Hp->Prop) (h0:Pv 0 σ H) (hk:∀ i σ H',Pv i σ H'->Same H H')
    (hs:∀ i σ H' H3,i<n->Pv i σ H'->Same H' H3->tb { D with nx:=Pv (i+1),ct:=Pv (i+1),bk:=D.nx } (set i σ) H3) (hd:∀ σ H',Pv n σ H'->D.nx σ H'):
    ∃ W:Nat->Nat->St->Hp->Prop,(∃ m,W 0 m σ H)/\∀ i m σ H,W i m σ H->
      (J.stop i H/\D.nx σ H)\/(J.go i H/\∃ N:St->Hp->Prop,(∀ σ' H',N σ' H'->∃ m',m'<m/\W (i+1) m' σ' H')/\∀ x H',J.yld i H x H'->g x σ H' λ σ2 H2=>tb { D with nx:=N,ct:=N,bk:=D.nx } σ2 H2):=by
  refine ⟨λ i m σ H'=>m=n - i/\i<=n/\Pv i σ H',⟨n,by simp,Nat.zero_le _,h0⟩,?_⟩;rintro i m σ H1 ⟨rfl,hi,p⟩;by_cases hlt:i<n
  · exact .inr ⟨S.go i H1 hlt (hk _ _ _ p),Pv (i+1),λ σ' H' p'=>⟨n - (i+1),by omega,rfl,hlt,p'⟩,λ x H' y=>S.yld i σ H1 x H' _ hlt (hk _ _ _ p) y λ H3 s3=>hs i σ H1 H3 hlt p s3⟩
  · have e:i=n:=by omega
    subst e;exact .inl ⟨S.stop H1 (hk _ _ _ p),hd σ H1 p⟩
section
variable {K:PySem.W.Frag} {H:Hp} {a b:Addr} {xs zs:List V} {tp t1 t2:Bool} {i1 i2:Nat}
theorem MX (h:SqS tp K H a xs):FSrc (Isq tp K a) (AE i1) H xs.length (λ i σ=>σ.set i1 (some (xs.getD i .non))):=by
  cases tp with
  | false=>exact {
      go:=λ i H' hi s=>⟨xs,xs[i],SqS.same (tp:=false) h s,by simp [hi]⟩
      stop:=λ H' s=>⟨xs,SqS.same (tp:=false) h s,Nat.le_refl _⟩
      yld:=λ i σ H' x H'' R hi s y k=>by
        obtain ⟨e,hv⟩:=y;subst e;have e:x=xs.getD i .non:=by
          rw [List.getD_eq_getElem?_getD,hv xs (SqS.same (tp:=false) h s)];rfl
        subst e;exact k _ (Same.refl _) }
  | true=>exact {
      go:=λ i H' hi s=>⟨xs,xs[i],SqS.same (tp:=true) h s,by simp [hi]⟩
      stop:=λ H' s=>⟨xs,SqS.same (tp:=true) h s,Nat.le_refl _⟩
      yld:=λ i σ H' x H'' R hi s y k=>by
        obtain ⟨e,hv⟩:=y;subst e;have e:x=xs.getD i .non:=by
          rw [List.getD_eq_getElem?_getD,hv xs (SqS.same (tp:=true) h s)];rfl
        subst e;exact k _ (Same.refl _) }
theorem MD (h:SqL K H a xs):FSrc (Itl K a) (AE i1) H xs.length (λ i σ=>σ.set i1 (some (xs.getD i .non))):=MX (tp:=false) h
theorem Lw {lo:Int} {n:Nat}:FSrc (Itr lo n) (AE i1) H n (λ i σ=>σ.set i1 (some (.int (lo+i)))) where
  go:=λ i H' hi s=>hi
  stop:=λ H' s=>Nat.le_refl _
  yld:=λ i σ H' x H'' R hi s y k=>by
    obtain ⟨e,hv⟩:=y;subst e hv;exact k _ (Same.refl _)
theorem HZ (h:SqS tp K H a xs):FSrc (Pg tp K a) (Ht K 2 (BX (AE i1) (BX (AE i2) IK))) H xs.length (λ i σ=>(σ.set i1 (some (.int ((i+1:Nat):Int)))).set i2 (some (xs.getD i .non))) where
  go:=λ i H' hi s=>⟨xs,xs[i],h.same s,by simp [hi]⟩
  stop:=λ H' s=>⟨xs,h.same s,Nat.le_refl _⟩
  yld:=λ i σ H' x H'' R hi s y k=>by
    obtain ⟨p,v,hp,rfl,rfl,hv⟩:=y;have e:v=xs.getD i .non:=by
      rw [List.getD_eq_getElem?_getD,hv xs (h.same s)];rfl
    subst e;exact ⟨p,_,rfl,SqT.of Af,rfl,_,_,rfl,_,_,rfl,rfl,k _ (Ai hp)⟩
theorem FSrc.src {J:It} {g:TG} {n:Nat} {set:Nat->St->St} {σ0:St} (S:FSrc J g H n set) (kp:∀ i,i<n->Kp σ0 (set i σ0)):SrcOk J g σ0 H n (λ i=>set i σ0) where
  go:=S.go
  stop:=S.stop
  yld:=λ i H' x H'' R hi s y k=>S.yld i σ0 H' x H'' R hi s y k
  kp:=kp
theorem Sy {σ0:St} (h:SqS tp K H a xs) (h0:σ0[0]?=some none):SrcOk (Isq tp K a) (AE 0) σ0 H xs.length (λ i=>σ0.set 0 (some (xs.getD i .non))):=(MX h).src λ i _=>(Kp.refl _).set h0
theorem GG {σ0:St} (h:SqS tp K H a xs) (h0:σ0[0]?=some none) (h1:σ0[1]?=some none):SrcOk (Pg tp K a) (Ht K 2 (BX (AE 0) (BX (AE 1) IK))) σ0 H xs.length (λ i=>(σ0.set 0 (some (.int ((i+1:Nat):Int)))).set 1 (some (xs.getD i .non))):=
  (HZ h).src λ i _=>((Kp.refl _).set h0).set h1
end
theorem bA (a b:Nat):Builtin.bitAnd (a:Int) (b:Int)=((a &&& b:Nat):Int):=by
  rw [PyProof.Rows.bitAnd_pp (by omega) (by omega)];rfl
theorem bO (a b:Nat):Builtin.bitOr (a:Int) (b:Int)=((a ||| b:Nat):Int):=by
  have h:=MM.or_add_and a b;rw [PyProof.Rows.bitOr_and,bA];omega
theorem bX (a b:Nat):Builtin.bitXor (a:Int) (b:Int)=((a ^^^ b:Nat):Int):=by
  have h:=MM.xor_eq a b;show Builtin.bitOr (a:Int) b - Builtin.bitAnd (a:Int) b=_;rw [bO,bA];omega
theorem Ro (m:Nat):((Builtin.Int.intBits (m:Int):Nat):Int)=((MM.bits m:Nat):Int):=by
  unfold Builtin.Int.intBits MM.bits;by_cases h:m=0
  · subst h;rfl
  · have e:((m:Int) == 0)=false:=by simp [h]
    rw [e,if_neg h];simp
theorem FM (n:Nat):(1:Int)*2 ^ n=((2 ^ n:Nat):Int):=by
  rw [Int.one_mul];push_cast;rfl
section
variable {X:Cx}
def rBits:V->List V->Hp->VK->Prop:=λ x vs H Q=>∃ i:Int,x= .int i/\vs=[]/\Q (.int (Builtin.Int.intBits i:Nat)) H
theorem IQ:MtM X "int.bit_length" rBits:=by
  intro pins s σ H x vs v us Q I rx rv h;obtain ⟨i,rfl,rfl,q⟩:=h;obtain ⟨t,rfl⟩:=rx;have hus:=rv.zero;subst hus;exact PyProof.Rows.call_int_bit_length ⟨.int _,H,I.tok _,⟨_,rfl⟩,q⟩
end
section
variable {H:Hp} {Q:VK} {σ:St} {D:Ends} {te:TE} {ti:TIp} {i:Nat} {x:V}
theorem Q1 {m:Nat} (h:Q (.int (MM.bits m:Nat)) H):rBits (.int (m:Nat)) [] H Q:=⟨m,rfl,rfl,by rw [Ro];exact h⟩
theorem OJ (e:σ[i]?=some (some x)) (h:te σ H λ y H1=>ti x y H1 λ z H2=>D.nx (σ.set i (some z)) H2):YH i te ti D σ H:=⟨x,e,h⟩
end
noncomputable abbrev nV (n:Nat):V:= .int (n:Nat)
theorem AS {ns:List Nat} {i:Nat} (h:i<(ns.map nV).length):(ns.map nV).getD i .non= .int (ns.getD i 0:Nat):=by
  have h':i<ns.length:=by simpa using h
  simp [List.getD_eq_getElem?_getD,h']
theorem Ci {ns:List Int} {i:Nat} (h:i<(ns.map V.int).length):(ns.map V.int).getD i .non= .int (ns.getD i 0):=by
  have h':i<ns.length:=by simpa using h
  simp [List.getD_eq_getElem?_getD,h']
theorem Qx {ns:List Int} {k:Int} (h0:0<=k) (h1:k<ns.length):atI (ns.map V.int) k=some (.int (ns.getD k.toNat 0)):=by
  obtain ⟨j,rfl⟩:∃ j:Nat,k=j:=⟨k.toNat,by omega⟩;have h':j<ns.length:=by omega
  refine Cw ?_;rw [show ((j:Int)).toNat=j by omega];simp [List.getD_eq_getElem?_getD,h']
theorem Df {ns:List Nat} {k:Int} (h0:0<=k) (h1:k<ns.length):atI (ns.map nV) k=some (.int (ns.getD k.toNat 0:Nat)):=by
  obtain ⟨j,rfl⟩:∃ j:Nat,k=j:=⟨k.toNat,by omega⟩;have h':j<ns.length:=by omega
  refine Cw ?_;rw [show ((j:Int)).toNat=j by omega];simp [List.getD_eq_getElem?_getD,h']
theorem JH {ns:List Nat} {i:Nat} (h:i<ns.length):ns.take (i+1)=ns.take i++[ns.getD i 0]:=by
  rw [List.take_succ_eq_append_getElem h];simp [List.getD_eq_getElem?_getD,h]
theorem AQ {J:It} {g:TG} {σ0:St} {H:Hp} {n:Nat} {st:Nat->St} {te:TE} {Q:VK} {D:Addr} {G:Nat->Int} (S:SrcOk J g σ0 H n st) (hD:H D=none) (hn:n<=100000)
    (he:∀ i H' (R:VK),i<n->Same H H'->(∀ H3,Same H' H3->R (.int (G i)) H3)->te (st i) H' R)
    (hd:∀ H',Same H H'->H' D=some (.lst (((List.range n).map G).map V.int))->Q (.ref D) H'):E3 J σ0 g O6 te Q H D:=by
  refine AF (m:=0) (G:=λ i=> .int (G i)) S hD hn (λ i H' R hi s k=>he i H' R hi s λ H3 s3=>k H3 _ s3 (.int _)) λ H' ys s hl r=> ?_;have e:(List.range n).map (λ i=>Dt.int (G i))=((List.range n).map G).map Dt.int:=by rw [List.map_map];rfl
  rw [e] at r;obtain ⟨b,eb,hb,fb⟩:=No r;cases eb;exact hd H' s hb
theorem A9 {J:It} {g:TG} {σ0:St} {H:Hp} {n:Nat} {st:Nat->St} {tc:TT} {te:TE} {Q:VK} {D:Addr} {p:Nat->Bool} {G:Nat->Int} (S:SrcOk J g σ0 H n st) (hD:H D=none) (hn:n<=100000)
    (ht:∀ i H' (R:Bool->Hp->Prop),i<n->Same H H'->(∀ H3,Same H' H3->R (p i) H3)->tc (st i) H' R)
    (he:∀ i H' (R:VK),i<n->p i=true->Same H H'->(∀ H3,Same H' H3->R (.int (G i)) H3)->te (st i) H' R)
    (hd:∀ H',Same H H'->H' D=some (.lst ((((List.range n).filter p).map G).map V.int))->Q (.ref D) H'):E3 J σ0 g tc te Q H D:=by
  refine Gr (m:=0) (p:=p) (G:=λ i=> .int (G i)) S hD hn ht (λ i H' R hi hp s k=>he i H' R hi hp s λ H3 s3=>k H3 _ s3 (.int _)) λ H' ys s hl r=> ?_;have e:((List.range n).filter p).map (λ i=>Dt.int (G i))=(((List.range n).filter p).map G).map Dt.int:=by rw [List.map_map];rfl
  rw [e] at r;obtain ⟨b,eb,hb,fb⟩:=No r;cases eb;exact hd H' s hb
theorem FK {J:It} {g:TG} {σ0:St} {H:Hp} {n:Nat} {st:Nat->St} {te:TE} {Q:VK} {D:Addr} {G:Nat->Bool} (S:SrcOk J g σ0 H n st) (hD:H D=none) (hn:n<=100000)
    (he:∀ i H' (R:VK),i<n->Same H H'->(∀ H3,Same H' H3->R (.bl (G i)) H3)->te (st i) H' R)
    (hd:∀ H',Same H H'->H' D=some (.lst (((List.range n).map G).map V.bl))->Q (.ref D) H'):E3 J σ0 g O6 te Q H D:=by
  refine AF (m:=0) (G:=λ i=> .bl (G i)) S hD hn (λ i H' R hi s k=>he i H' R hi s λ H3 s3=>k H3 _ s3 (.bl _)) λ H' ys s hl r=> ?_;have e:ys=((List.range n).map G).map V.bl:=by
    cases r with
    | @lst _ _ vs _ q f b l ee=>
      rw [hl] at q;cases q;refine List.ext_getElem (by simpa using l) λ i h1 h2=> ?_;have hi:i<n:=by simpa using h2
      have:=ee i ys[i] (.bl (G i)) (by simp [h1]) (by simp [hi]);cases hv:ys[i] <;> rw [hv] at this <;> cases this;simp
  rw [e] at hl;exact hd H' s hl
def LI (P:Program) (w:World) (K:PySem.W.Frag) (mg:Str->Option Value) (base:Heap) (x:Str) (C:Addr) (k:Nat) (ps:List Str) (sp:Sp):Prop:=
  ∃ f fd,mg x=some (.ref C)/\Mk K C f/\FnOk P w K mg base CX0 k f fd ps sp/\Binds K fd ps []
def Bu (P:Program) (w:World) (K:PySem.W.Frag) (mg:Str->Option Value) (base:Heap) (C:Addr) (m:Str) (k:Nat) (ps:List Str) (sp:Sp):Prop:=
  ∃ f fd,Cls K C/\Meth K C m f/\FnOk P w K mg base CX0 k f fd ps sp/\Binds K fd ps []
section
variable {X:Cx} {x m:Str} {C:Addr} {k:Nat} {ps:List Str} {sp:Sp} {o e:Expr} {es:List Expr} {t:TA} {ta:TE} {p pos apos:Pos}
theorem Hd (h:LI X.prog X.w X.K X.mg X.base x C k ps sp) (hr:Room (k+1) X.A) (ha:PA X (e::es) t) (hg:Gl X x:=by rfl) (hdb:(x == ("__debug__":Str))=false:=by decide)
    (he:starEach (e::es) X.env=(false,eval e X.env)::starEach es X.env:=by rfl) (hpl:(backTo pos (starEach es X.env)).any (·.1)=false:=by rfl):
    PE X (.Call (.Name x p) (e::es) [] pos) (KU C sp [] E0 t):=by
  obtain ⟨f,fd,hm,M,F,hb⟩:=h;exact M4 M F hr hg hm hb .nil ME ha hdb he hpl
theorem Lb {pl:Sem Bool} (he:PE X o ta) (h:Bu X.prog X.w X.K X.mg X.base C m k ps sp) (hr:Room k X.A) (ha:PA X (e::es) t)
    (hst:starEach (e::es) X.env=(false,eval e X.env)::starEach es X.env:=by rfl) (hpl:(backTo pos (starEach es X.env)).any (·.1)=false:=by rfl)
    (ht:eval (.Call (.Attribute o m apos) (e::es) [] pos) X.env=(do
      let ov <-eval o X.env
      standAt apos.atName
      let (f,first) <-holding [ov] (getMethod ov m pl)
      callWith pos f first (backTo pos (starEach (e::es) X.env)) (backToKw pos (keywordEach [] X.env))):=by rfl):
    PE X (.Call (.Attribute o m apos) (e::es) [] pos) (JM C m sp [] E0 ta t):=by
  obtain ⟨f,fd,c,hm,F,hb⟩:=h;exact Q6 (pl:=pl) he c hm F hr hb .nil ME ha hst hpl ht
theorem AW {pl:Sem Bool} (he:PE X o ta) (h:Bu X.prog X.w X.K X.mg X.base C m k ps sp) (hr:Room k X.A)
    (ht:eval (.Call (.Attribute o m apos) [] [] pos) X.env=(do
      let ov <-eval o X.env
      standAt apos.atName
      let (f,first) <-holding [ov] (getMethod ov m pl)
      callWith pos f first (backTo pos (starEach [] X.env)) (backToKw pos (keywordEach [] X.env))):=by rfl):
    PE X (.Call (.Attribute o m apos) [] [] pos) (JM C m sp [] E0 ta Rz):=by
  obtain ⟨f,fd,c,hm,F,hb⟩:=h;exact Pw (pl:=pl) he c hm F hr hb .nil ME ht
theorem Bv {x:Str} {C:Addr} {pos:Pos} (h:X.mg x=some (.ref C)) (hg:Gl X x:=by rfl) (hd:(x == ("__debug__":Str))=false:=by decide):PE X (.Name x pos) (tC (.ref C)):=KB hg h rfl hd
def P0 (K:PySem.W.Frag):List V->Hp->VK->Prop:=λ xs H Q=>∃ (y:V) (C:Addr) (t:Value) (b:Bool),xs=[y, .ref C]/\TyOf K H y t/\PySem.W.kitOne K t (.ref C)=some b/\Q (.bl b) H
theorem QH {K:PySem.W.Frag} (hK:X.K=K:=by rfl):BR X (.builtin "isinstance") (P0 K):=by
  subst hK;intro pins s σ H xs us Q I r h;obtain ⟨y,C,t,b,rfl,ty,e,q⟩:=h;obtain ⟨u,c,rfl,rx,rc⟩:=LD r;cases rc;exact Gx I rx ty e λ tk=>⟨.bl b,H,I.tok tk,rfl,q⟩
end
structure Kind (K:PySem.W.Frag) (C:Addr):Prop where
  cl:Cls K C
  ha:PySem.W.findIn K (.ref C) "__class__"=some (some (.builtin "object.__class__"))
  hn:PySem.W.specialIn K (.builtin "object.__class__") "__get__"=some (some (.builtin "getset_descriptor.__get__"))
  htk:PySem.W.takesIn K (.builtin "object.__class__")=some true
  hm:PySem.W.mroIn K C (.type "object")=some true
theorem Kind.ty {K:PySem.W.Frag} {C a dx:Addr} {H:Hp} {fs:List (Str × V)} (k:Kind K C) (e:H a=some (.ins C dx fs)):TyOf K H (.ref a) (.ref C):= .ins e k.cl k.ha k.hn k.htk k.hm
section
variable {K:PySem.W.Frag} {H:Hp} {Q:VK} {σ:St} {D:Ends} {te tv:TE} {t:TA} {a C dx:Addr} {fs:List (Str × V)} {f:Str} {v:V} {sp:Sp}
theorem Ov {y:V} {ty:Value} {b:Bool} (c:TyOf K H y ty) (e:PySem.W.kitOne K ty (.ref C)=some b) (h:Q (.bl b) H):P0 K [y, .ref C] H Q:=⟨y,C,ty,b,rfl,c,e,h⟩
theorem TC (h:te σ H λ x H1=>∃ a C dx fs v,x= .ref a/\H1 a=some (.ins C dx fs)/\Cls K C/\NoAttr K C f/\fs.lookup f=some v/\Q v H1):S6 K te f σ H Q:=h
theorem SA (h:tv σ H λ y H1=>te σ H1 λ x H2=>∃ a C dx fs,x= .ref a/\H2 a=some (.ins C dx fs)/\Cls K C/\NoAttr K C f/\fs.length<1000/\D.nx σ (upd H2 a (.ins C dx (AX f y fs)))):Uw K te tv f D σ H:=h
theorem DF {y:V} (e:H a=some (.ins C dx fs)) (c:Cls K C) (n:NoAttr K C f) (l:fs.length<1000) (h:D.nx σ (upd H a (.ins C dx (AX f y fs)))):∃ a' C' dx' fs',V.ref a= .ref a'/\H a'=some (.ins C' dx' fs')/\Cls K C'/\NoAttr K C' f/\fs'.length<1000/\D.nx σ (upd H a' (.ins C' dx' (AX f y fs'))):=⟨a,C,dx,fs,rfl,e,c,n,l,h⟩
theorem Qk (h:t σ H λ vs H1=>∀ x dx,H1 x=none->H1 dx=none->dx≠x->sp (.ref x::vs) (upd (upd H1 dx (.own x)) x (.ins C dx [])) (λ v H2=>v= .non/\Q (.ref x) H2) E0):KU C sp [] E0 t σ H Q:=by
  unfold KU;simpa using h
theorem Rf {m:Str} (h:te σ H λ x H1=>∃ a dx fs,x= .ref a/\H1 a=some (.ins C dx fs)/\fs.lookup m=none/\t σ H1 λ vs H2=>sp (x::vs) H2 Q E0):JM C m sp [] E0 te t σ H Q:=by
  unfold JM;simpa using h
end
theorem PF {r r':R2} {ta tb tc:TE} {σ:St} {H:Hp} {Q:VK} (h:ta σ H λ x H1=>tb σ H1 λ y H2=>r x y H2 λ z H3=>∃ k,z= .bl k/\(if k=true then tc σ H3 λ w' H4=>r' y w' H4 Q else Q (.bl false) H3)):P4 r r' ta tb tc σ H Q:=h
noncomputable def BI (x:V) (a b:Int):Bool:=match x with | .int i=>decide (a<=i)&&decide (i<=b) | _=>false
theorem E4 {b b':Bool} {Q:VK} {H:Hp} (e:b=b') (h:Q (.bl b') H):Q (.bl b) H:=e▸h
theorem QC {b:Bool} {A B:Prop} (h1:b=true->A) (h2:b=false->B):if b=true then A else B:=by
  cases b with
  | true=>exact h1 rfl
  | false=>exact h2 rfl
theorem Lm {H:Hp} {x dx:Addr} {o:HO} {u:HO} (h1:H x=none) (h2:H dx=none):Same H (upd (upd H dx u) x o):=λ b q e=>by
  rw [Al (Ap e h1),Al (Ap e h2)];exact e
section
variable {X:Cx} {pins:List (Addr × Obj)} {σ:St} {H:Hp} {s:Shared}
end
noncomputable abbrev dN (n:Nat):Dt:= .int (n:Nat)
noncomputable def dL (ns:List Nat):Dt:= .lst (ns.map dN)
noncomputable def dT (ns:List Nat):Dt:= .tup (ns.map dN)
noncomputable def dS (zs:List Str):Dt:= .lst (zs.map .str)
noncomputable def dST (zs:List Str):Dt:= .tup (zs.map .str)
noncomputable def dLL (ls:List (List Nat)):Dt:= .lst (ls.map dL)
noncomputable def dTT (ls:List (List Nat)):Dt:= .tup (ls.map dT)
section
variable {H:Hp} {F:Addr->Prop} {n:Nat} {v:V}
theorem FV {α:Type} {f:α->V} {g:α->Dt} (uniq:∀ (a:α) (v:V),Rp H F n v (g a)->v=f a) {vs:List V} {as:List α} (l:vs.length=(as.map g).length)
    (e:∀ (i:Nat) (v:V) (d:Dt),vs[i]?=some v->(as.map g)[i]?=some d->Rp H F n v d):vs=as.map f:=by
  refine List.ext_getElem (by simpa using l) λ i h1 h2=> ?_;have h3:i<as.length:=by simpa using h2
  rw [List.getElem_map];exact uniq _ _ (e i vs[i] (g as[i]) (by simp [h1]) (by simp [h3]))
theorem Px (a:Nat) (v:V) (r:Rp H F n v (dN a)):v=nV a:=by cases r;rfl
theorem Om (a:Str) (v:V) (r:Rp H F n v (.str a)):v= .str a:=by cases r;rfl
theorem Hz {ns:List Nat} (r:Rp H F n v (dL ns)):∃ a,v= .ref a/\H a=some (.lst (ns.map nV))/\F a/\ns.length<=100000:=by
  unfold dL at r;cases r with
  | @lst m a vs _ h f b l e=>
    have q:=FV (f:=nV) (λ a v r=>Px a v r) l e;subst q;exact ⟨a,rfl,h,f,by simpa using b⟩
theorem CH {ns:List Nat} (r:Rp H F n v (dT ns)):∃ a,v= .ref a/\H a=some (.tup (ns.map nV))/\ns.length<=100000:=by
  unfold dT at r;cases r with
  | @tup m a vs _ h b l e=>
    have q:=FV (f:=nV) (λ a v r=>Px a v r) l e;subst q;exact ⟨a,rfl,h,by simpa using b⟩
theorem Hk {zs:List Str} (r:Rp H F n v (dS zs)):∃ a,v= .ref a/\H a=some (.lst (zs.map V.str))/\F a/\zs.length<=100000:=by
  unfold dS at r;cases r with
  | @lst m a vs _ h f b l e=>
    have q:=FV (f:=V.str) (λ a v r=>Om a v r) l e;subst q;exact ⟨a,rfl,h,f,by simpa using b⟩
theorem Gw {zs:List Str} (r:Rp H F n v (dST zs)):∃ a,v= .ref a/\H a=some (.tup (zs.map V.str))/\zs.length<=100000:=by
  unfold dST at r;cases r with
  | @tup m a vs _ h b l e=>
    have q:=FV (f:=V.str) (λ a v r=>Om a v r) l e;subst q;exact ⟨a,rfl,h,by simpa using b⟩
theorem J5 {α:Type} {f:α->V} {g:α->Dt} {as:List α} (k:∀ a∈as,Rp H F n (f a) (g a)):∀ (i:Nat) (v:V) (d:Dt),(as.map f)[i]?=some v->(as.map g)[i]?=some d->Rp H F n v d:=by
  intro i v d h1 h2;rw [List.getElem?_map] at h1 h2;cases e:as[i]? with
  | none=>rw [e] at h1;cases h1
  | some a=>
    rw [e] at h1 h2;cases h1;cases h2;exact k a (List.mem_of_getElem? e)
theorem C9 {a:Addr} {ns:List Nat} (h:H a=some (.lst (ns.map nV))) (f:F a) (b:ns.length<=100000):Rp H F (n+1) (.ref a) (dL ns):= .lst h f (by simpa using b) (by simp) (J5 λ k _=> .int _)
theorem T8 {a:Addr} {ns:List Nat} (h:H a=some (.tup (ns.map nV))) (b:ns.length<=100000):Rp H F (n+1) (.ref a) (dT ns):= .tup h (by simpa using b) (by simp) (J5 λ k _=> .int _)
theorem GY {a:Addr} {zs:List Str} (h:H a=some (.lst (zs.map V.str))) (f:F a) (b:zs.length<=100000):Rp H F (n+1) (.ref a) (dS zs):= .lst h f (by simpa using b) (by simp) (J5 λ k _=> .str _)
theorem R7 {a:Addr} {zs:List Str} (h:H a=some (.tup (zs.map V.str))) (b:zs.length<=100000):Rp H F (n+1) (.ref a) (dST zs):= .tup h (by simpa using b) (by simp) (J5 λ k _=> .str _)
theorem GC {ds:List Dt} (r:Rp H F n v (.lst ds)):∃ m a vs,n=m+1/\v= .ref a/\H a=some (.lst vs)/\F a/\vs.length=ds.length/\vs.length<=100000/\∀ i,i<ds.length->Rp H F m (vs.getD i .non) (ds.getD i .non):=by
  cases r with
  | @lst m a vs _ h f b l e=>
    refine ⟨m,a,vs,rfl,rfl,h,f,l,b,λ i hi=>e i _ _ ?_ ?_⟩
    · rw [List.getD_eq_getElem?_getD,List.getElem?_eq_getElem (by omega)];rfl
    · rw [List.getD_eq_getElem?_getD,List.getElem?_eq_getElem hi];rfl
theorem DB {ds:List Dt} (r:Rp H F n v (.tup ds)):∃ m a vs,n=m+1/\v= .ref a/\H a=some (.tup vs)/\vs.length=ds.length/\vs.length<=100000/\∀ i,i<ds.length->Rp H F m (vs.getD i .non) (ds.getD i .non):=by
  cases r with
  | @tup m a vs _ h b l e=>
    refine ⟨m,a,vs,rfl,rfl,h,l,b,λ i hi=>e i _ _ ?_ ?_⟩
    · rw [List.getD_eq_getElem?_getD,List.getElem?_eq_getElem (by omega)];rfl
    · rw [List.getD_eq_getElem?_getD,List.getElem?_eq_getElem hi];rfl
theorem AA {α β:Type} (f:α->β) (as:List α) (i:Nat) (x:β) (y:α) (h:i<as.length):(as.map f).getD i x=f (as.getD i y):=by simp [List.getD_eq_getElem?_getD,h]
theorem Ge {zs:List Str} {i:Nat} (h:i<(zs.map V.str).length):(zs.map V.str).getD i .non= .str (zs.getD i Str.empty):=AA V.str zs i .non Str.empty (by simpa using h)
theorem An {α:Type} {as:List α} {i:Nat} {y:α} (h:i<as.length):as.getD i y∈as:=by
  rw [List.getD_eq_getElem?_getD,List.getElem?_eq_getElem h];exact List.getElem_mem h
theorem Dk {α β:Type} (f:α->β) (as:List α) (y:α):(List.range as.length).map (λ i=>f (as.getD i y))=as.map f:=Aq f as y
end
theorem Rp.ins {H:Hp} {F:Addr->Prop} {n:Nat} {v:V} {d:Dt} {x C dx:Addr} {fs:List (Str × V)} {o:HO} (r:Rp H F n v d) (h:H x=some (.ins C dx fs)):Rp (L2.upd H x o) F n v d:=by
  induction r with
  | non=>exact .non
  | bl b=>exact .bl b
  | int i=>exact .int i
  | str z=>exact .str z
  | @lst n a vs ds q f b l e ih=>
    refine .lst ?_ f b l ih;rw [Al (GU q h (by intro z;cases z))];exact q
  | @tup n a vs ds q b l e ih=>
    refine .tup ?_ b l ih;rw [Al (GU q h (by intro z;cases z))];exact q
def But (x:Addr) (H H':Hp):Prop:=∀ b o,H b=some o->b≠x->H' b=some o
theorem But.same {x:Addr} {H H1 H2:Hp} (b:But x H H1) (s:Same H1 H2):But x H H2:=λ a o e n=>s _ _ (b a o e n)
theorem But.of {x:Addr} {H H1:Hp} (s:Same H H1):But x H H1:=λ a o e _=>s _ _ e
theorem But.put {x:Addr} {H H1:Hp} {o:HO} (b:But x H H1):But x H (upd H1 x o):=λ a u e n=>by rw [Al n];exact b a u e n
theorem But.rp {x:Addr} {H H':Hp} {F:Addr->Prop} {n:Nat} {v:V} {d:Dt} {C dx:Addr} {fs:List (Str × V)} (k:But x H H') (h:H x=some (.ins C dx fs)) (r:Rp H F n v d):Rp H' F n v d:=by
  induction r with
  | non=>exact .non
  | bl b=>exact .bl b
  | int i=>exact .int i
  | str z=>exact .str z
  | @lst n a vs ds q f b l e ih=>exact .lst (k _ _ q (GU q h (by intro z;cases z))) f b l ih
  | @tup n a vs ds q b l e ih=>exact .tup (k _ _ q (GU q h (by intro z;cases z))) b l ih
theorem Rp.tupd {H:Hp} {F:Addr->Prop} {n:Nat} {D t:Addr} {ds:List Dt} {ys:List V} (r:Rp H F (n+1) (.ref D) (.lst ds)) (hl:H D=some (.lst ys)) (ht:H t=none):Rp (L2.upd H t (.tup ys)) F (n+1) (.ref t) (.tup ds):=by
  cases r with
  | @lst _ _ vs _ q f b l ee=>
    rw [hl] at q;cases q;exact .tup Af b l λ i v e h1 h2=>(ee i v e h1 h2).new ht
theorem Se (ls:List (List Nat)):(List.range ls.length).map (λ i=>dT (ls.getD i []))=ls.map dT:=Aq dT ls []
theorem RV (ls:List (List Nat)):(List.range ls.length).map (λ i=>dL (ls.getD i []))=ls.map dL:=Aq dL ls []
section
variable {H:Hp} {a:Addr} {kvs:List (Key × V)}
end
theorem Sz {xs:List V} {k:Int} (h:0<=k):Fs xs none (some k)=xs.take k.toNat:=by
  unfold Fs;have e2:HT.sIx xs.length 0 none=0:=rfl;rw [e2,List.drop_zero];have e1:HT.sIx xs.length xs.length (some k)=min k.toNat xs.length:=by
    unfold HT.sIx;simp only;split <;> omega
  rw [e1,Nat.sub_zero];by_cases q:k.toNat<=xs.length
  · rw [Nat.min_eq_left q]
  · rw [Nat.min_eq_right (by omega),List.take_of_length_le (Nat.le_refl _),List.take_of_length_le (by omega)]
section
variable {K:PySem.W.Frag} {wi:TI} {own:List Str} {fr:List (Str × Nat)} {g:TG} {tc:TT} {te tl:TE} {tb:TS} {D:Ends} {σ:St} {H:Hp} {Q:VK} {R:It->Hp->Prop} {ta:TA}
theorem RD (h:wi σ H λ J H1=>∀ D,H1 D=none->E3 J (Cr own fr σ) g tc te Q H1 D):Fc wi own fr g tc te σ H Q:=h
theorem Tp (h:wi σ H λ J H1=>∃ W:Nat->Nat->St->Hp->Prop,(∃ m,W 0 m σ H1)/\∀ i m σ H,W i m σ H->
  (J.stop i H/\D.nx σ H)\/(J.go i H/\∃ N:St->Hp->Prop,(∀ σ' H',N σ' H'->∃ m',m'<m/\W (i+1) m' σ' H')/\∀ x H',J.yld i H x H'->g x σ H' λ σ2 H2=>tb { D with nx:=N,ct:=N,bk:=D.nx } σ2 H2)):Yo wi g tb D σ H:=h
theorem Wh (h:tl σ H λ x H1=>∃ a,x= .ref a/\(∃ xs,SqL K H1 a xs)/\R (Itl K a) H1):Oq K tl σ H R:=h
theorem Wu (h:tl σ H λ x H1=>∃ a,x= .ref a/\(∃ xs,SqT K H1 a xs)/\R (Itt K a) H1):Tg K tl σ H R:=h
theorem WJ (h:tl σ H λ x H1=>∃ tp a,x= .ref a/\(∃ xs,SqS tp K H1 a xs)/\R (Isq tp K a) H1):iSq K tl σ H R:=h
theorem Uf (h:ta σ H λ vs H1=>∃ a,vs=[.ref a]/\(∃ xs,SqL K H1 a xs)/\R (Ite K a) H1):RH K ta σ H R:=h
theorem ZI (h:ta σ H λ vs H1=>∃ tp a,vs=[.ref a]/\(∃ xs,SqS tp K H1 a xs)/\R (Pg tp K a) H1):O1 K ta σ H R:=h
theorem ZY (h:ta σ H λ vs H1=>∃ t1 t2 a b,vs=[.ref a, .ref b]/\(∃ xs,SqS t1 K H1 a xs)/\(∃ ys,SqS t2 K H1 b ys)/\R (Izs t1 t2 K a b) H1):iZs K ta σ H R:=h
theorem Yx (h:ta σ H λ vs H1=>∃ j:Int,vs=[.int j]/\ -(2 ^ 62)<=j/\j<2 ^ 62/\R (Itr 0 j.toNat) H1):RQ ta σ H R:=h
theorem UA (h:ta σ H λ vs H1=>∃ i j:Int,vs=[.int i, .int j]/\(-(2 ^ 62)<=i/\i<2 ^ 62/\ -(2 ^ 62)<=j/\j<2 ^ 62)/\R (Itr i (j - i).toNat) H1):R0 ta σ H R:=h
theorem Ul (h:ta σ H λ vs H1=>∃ i j c:Int,vs=[.int i, .int j, .int c]/\(-(2 ^ 40)<=i/\i<2 ^ 40)/\(-(2 ^ 40)<=j/\j<2 ^ 40)/\(-(2 ^ 20)<=c/\c<2 ^ 20)/\c≠0/\R (Itc i c (Builtin.Range.rangeSize i j c).toNat) H1):RF ta σ H R:=h
end
theorem MQ {K:PySem.W.Frag} {n:Nat} {t:TGs} {a:Addr} {xs:List V} {σ:St} {H:Hp} {QS:St->Hp->Prop} (h:SqT K H a xs) (l:xs.length=n) (k:t xs σ H QS):Ht K n t (.ref a) σ H QS:=⟨a,xs,rfl,h,l,k⟩
theorem OI {t:TG} {u:TGs} {v:V} {vs:List V} {σ:St} {H:Hp} {QS:St->Hp->Prop} (k:t v σ H λ σ' H'=>u vs σ' H' QS):BX t u (v::vs) σ H QS:=⟨v,vs,rfl,k⟩
theorem Qs {σ:St} {H:Hp} {QS:St->Hp->Prop} (k:QS σ H):IK [] σ H QS:=⟨rfl,k⟩
theorem PL {J:It} {g:TG} {H0 H:Hp} {n:Nat} {set:Nat->St->St} {tb:TS} {D:Ends} {σ:St} (S:FSrc J g H0 n set) (Pv:Nat->St->Hp->Prop) (h0:Pv 0 σ H) (hk:∀ i σ H',Pv i σ H'->Same H0 H')
    (hs:∀ i σ H' H3,i<n->Pv i σ H'->Same H' H3->tb { D with nx:=Pv (i+1),ct:=Pv (i+1),bk:=D.nx } (set i σ) H3) (hd:∀ σ H',Pv n σ H'->D.nx σ H'):
    ∃ W:Nat->Nat->St->Hp->Prop,(∃ m,W 0 m σ H)/\∀ i m σ H,W i m σ H->
      (J.stop i H/\D.nx σ H)\/(J.go i H/\∃ N:St->Hp->Prop,(∀ σ' H',N σ' H'->∃ m',m'<m/\W (i+1) m' σ' H')/\∀ x H',J.yld i H x H'->g x σ H' λ σ2 H2=>tb { D with nx:=N,ct:=N,bk:=D.nx } σ2 H2):=by
  refine ⟨λ i m σ H'=>m=n - i/\i<=n/\Pv i σ H',⟨n,by simp,Nat.zero_le _,h0⟩,?_⟩;rintro i m σ H1 ⟨rfl,hi,p⟩;by_cases hlt:i<n
  · exact .inr ⟨S.go i H1 hlt (hk _ _ _ p),Pv (i+1),λ σ' H' p'=>⟨n - (i+1),by omega,rfl,hlt,p'⟩,λ x H' y=>S.yld i σ H1 x H' _ hlt (hk _ _ _ p) y λ H3 s3=>hs i σ H1 H3 hlt p s3⟩
  · have e:i=n:=by omega
    subst e;exact .inl ⟨S.stop H1 (hk _ _ _ p),hd σ H1 p⟩
theorem GD {H:Hp} {i1 n:Nat}:FSrc (Itr 0 n) (AE i1) H n (λ i σ=>σ.set i1 (some (.int (i:Nat)))):=by
  have:=Lw (H:=H) (i1:=i1) (lo:=0) (n:=n);simpa using this
theorem HU {n:Nat} {σ0:St} {H:Hp} (h0:σ0[0]?=some none):SrcOk (Itr 0 n) (AE 0) σ0 H n (λ i=>σ0.set 0 (some (.int (i:Nat)))):=by
  have:=BE (H:=H) (lo:=0) (n:=n) h0;simpa using this
theorem Th {H:Hp} {F:Addr->Prop} {n:Nat} {a:Addr} {x y:V} {d e:Dt} (h:H a=some (.lst [x,y])) (f:F a) (r1:Rp H F n x d) (r2:Rp H F n y e):Rp H F (n+1) (.ref a) (.lst [d,e]):=by
  refine .lst h f (by simp) rfl λ i v u h1 h2=> ?_
  match i with
  | 0=>cases h1;cases h2;exact r1
  | 1=>cases h1;cases h2;exact r2
  | i+2=>cases h1
theorem Qz {H:Hp} {F:Addr->Prop} {n:Nat} {a:Addr} {x y:V} {d e:Dt} (h:H a=some (.tup [x,y])) (r1:Rp H F n x d) (r2:Rp H F n y e):Rp H F (n+1) (.ref a) (.tup [d,e]):=by
  refine .tup h (by simp) rfl λ i v u h1 h2=> ?_
  match i with
  | 0=>cases h1;cases h2;exact r1
  | 1=>cases h1;cases h2;exact r2
  | i+2=>cases h1
theorem UN {A B:Prop} (h:B):if (!true)=true then A else B:=by simpa using h
theorem XH {A B:Prop} (h:A):if (!false)=true then A else B:=by simpa using h
theorem DR {H:Hp} {F:Addr->Prop} {n:Nat} {a:Addr} {v0 v1 v2 v3 v4 v5 v6:V} {d0 d1 d2 d3 d4 d5 d6:Dt} (h:H a=some (.tup [v0,v1,v2,v3,v4,v5,v6])) (r0:Rp H F n v0 d0) (r1:Rp H F n v1 d1) (r2:Rp H F n v2 d2) (r3:Rp H F n v3 d3) (r4:Rp H F n v4 d4) (r5:Rp H F n v5 d5) (r6:Rp H F n v6 d6):
    Rp H F (n+1) (.ref a) (.tup [d0,d1,d2,d3,d4,d5,d6]):=by
  refine .tup h (by simp) rfl λ i v u h1 h2=> ?_
  match i with
  | 0=>cases h1;cases h2;exact r0
  | 1=>cases h1;cases h2;exact r1
  | 2=>cases h1;cases h2;exact r2
  | 3=>cases h1;cases h2;exact r3
  | 4=>cases h1;cases h2;exact r4
  | 5=>cases h1;cases h2;exact r5
  | 6=>cases h1;cases h2;exact r6
  | i+7=>cases h1
theorem CF {α:Type} {xs:List α} {n:Nat} (h:xs.length=n+1):∃ x ys,xs=x::ys/\ys.length=n:=by
  cases xs with
  | nil=>cases h
  | cons x ys=>exact ⟨x,ys,rfl,Nat.succ.inj h⟩
theorem Km {H:Hp} {F:Addr->Prop} {n:Nat} {v:V} {d0 d1 d2 d3 d4 d5 d6:Dt} (r:Rp H F n v (.tup [d0,d1,d2,d3,d4,d5,d6])):∃ m a v0 v1 v2 v3 v4 v5 v6,n=m+1/\v= .ref a/\H a=some (.tup [v0,v1,v2,v3,v4,v5,v6])/\
    Rp H F m v0 d0/\Rp H F m v1 d1/\Rp H F m v2 d2/\Rp H F m v3 d3/\Rp H F m v4 d4/\Rp H F m v5 d5/\Rp H F m v6 d6:=by
  cases r with
  | @tup m a vs _ h b l e=>
    replace l:vs.length=7:=l;obtain ⟨v0,w0,rfl,l0⟩:=CF l;obtain ⟨v1,w1,rfl,l1⟩:=CF l0;obtain ⟨v2,w2,rfl,l2⟩:=CF l1;obtain ⟨v3,w3,rfl,l3⟩:=CF l2;obtain ⟨v4,w4,rfl,l4⟩:=CF l3;obtain ⟨v5,w5,rfl,l5⟩:=CF l4;obtain ⟨v6,w6,rfl,l6⟩:=CF l5;cases List.eq_nil_of_length_eq_zero l6;exact ⟨m,a,v0,v1,v2,v3,v4,v5,v6,rfl,rfl,h,e 0 _ _ rfl rfl,e 1 _ _ rfl rfl,e 2 _ _ rfl rfl,e 3 _ _ rfl rfl,e 4 _ _ rfl rfl,e 5 _ _ rfl rfl,e 6 _ _ rfl rfl⟩
theorem ifJ {c:TT} {t u:TS} {D:Ends} {σ:St} {H:Hp} (J:St->Hp->Prop) (h1:∀ σ' H',J σ' H'->D.nx σ' H') (h2:(∀ σ' H',J σ' H'->D.nx σ' H')->QV c t u D σ H):QV c t u D σ H:=h2 h1
theorem FX {α:Type} (f:α->List Nat) (xs:List α):Dt.lst (xs.map λ x=>dL (f x))=dLL (xs.map f):=by unfold dLL;rw [List.map_map];rfl
theorem Tk {α:Type} (f:α->Nat) (xs:List α):Dt.lst (xs.map λ x=>dN (f x))=dL (xs.map f):=by unfold dL;rw [List.map_map];rfl
theorem OH {α:Type} (f:α->Str) (xs:List α):Dt.lst (xs.map λ x=>Dt.str (f x))=dS (xs.map f):=by unfold dS;rw [List.map_map];rfl
theorem MZ (s:Nat) (ns:List Nat):inV (nV s) (ns.map nV)=decide (s∈ns):=by
  unfold inV;rw [Bool.eq_iff_iff,List.any_eq_true,decide_eq_true_eq];constructor
  · rintro ⟨y,hy,e⟩;obtain ⟨k,hk,rfl⟩:=List.mem_map.mp hy;have e:((k:Nat):Int)=(s:Nat):=by simpa [eqV] using e
    have:k=s:=by omega
    exact this▸hk
  · intro h;exact ⟨nV s,List.mem_map.mpr ⟨s,h,rfl⟩,by simp [eqV]⟩
theorem LG (ns:List Nat):(ns.map nV).all Br=true:=by simp [Br]
theorem Pb {K:PySem.W.Frag} {H:Hp} {Q:VK} {tp:Bool} {p:Addr} {s:Nat} {ns:List Nat} (c:SqS tp K H p (ns.map nV)) (h:Q (.bl (decide (s∈ns))) H):rIn K false (nV s) (.ref p) H Q:=by
  refine ⟨p,_,rfl,?_,rfl,LG ns,by rw [MZ];exact h⟩;cases tp with
  | false=>exact .inl c
  | true=>exact .inr c
theorem HR {vs:List V} {k:Int} {j:Nat} (e:k=j) (h:j<vs.length):atI vs k=some (vs.getD j .non):=by
  subst e;refine Cw ?_;rw [List.getD_eq_getElem?_getD,List.getElem?_eq_getElem h];rfl
end L2
namespace L2
theorem G6 {α:Type} {as:List α} {i:Nat} {y:α} (h:i<as.length):as.getD i y=as[i]:=by
  rw [List.getD_eq_getElem?_getD,List.getElem?_eq_getElem h];rfl
end L2
namespace L2
open PySem PySem.Spec PyProof.Rows
theorem Mn {n j y:Nat} (h:j<n):(List.range n).getD j y=j:=by
  rw [G6 (by simpa using h),List.getElem_range]
theorem EK {α:Type} (f:Nat->α) {n j:Nat} {y:α} (h:j<n):((List.range n).map f).getD j y=f j:=by
  rw [AA f (List.range n) j y 0 (by simpa using h),Mn h]
def Z9 (i j:Int):Prop:=0<j/\j<2 ^ 200
theorem N2 {j:Int} (h0:0<j) (h:j<2 ^ 200):j.natAbs.log2<9000:=by
  have h1:j.natAbs<2 ^ 200:=by omega
  have:=(Nat.log2_lt (show j.natAbs≠0 by omega)).mpr h1;omega
theorem Do {X:Cx}:OpR X (binaryOp .FloorDiv) (rI Z9 λ i j=> .int (i / j)):=opI λ i j _ _ _ _ _ hc q=>by
  rw [<-Int.fdiv_eq_ediv_of_nonneg i (by have:=hc.1;omega)] at q;exact floordiv_int (by have:=hc.1;omega) q (.inl (PyProof.noPylong_of_log2 (N2 hc.1 hc.2)))
section
variable {prog:Program} {w:World} {A:Around} {E:Value->Shared->Prop} {s:Shared} {T:String} {r d:Addr} {n:Nat} {P:Nat->Value->Prop} {St:Nat->Heap->Prop}
theorem Ld {R:Result->Shared->Prop} {S:Addr} {res:Value} {c0:Nat} (W:Walks prog w A.in1 r [r,d] [r] n P St) (hT:s.TypeIs (.ref r) T) (nl:(Value.type T == Value.type "list")=false) (nt:(Value.type T == Value.type "tuple")=false)
    (hint:∀ (E:Value->Shared->Prop) (Q:Bool->Shared->Prop),(∀ b tk,Q b { s with toks:=tk })->wpAny (model prog w) A.in1 (Builtin.List.listLengthHint (.ref r)) Q E s)
    (st:St 0 s.heap) (hSr:S≠r) (hSd:S≠d) (hS:s.heap.get? S=some { cls:= .type "list",data:= .seq #[] c0 })
    (hR:∀ h' tk acc' c',(∀ b o,b≠S->b≠r->s.heap.get? b=some o->h'.get? b=some o)->h'.get? S=some { cls:= .type "list",dict:=none,data:= .seq acc' c',slots:= #[] }->ItemsOf P acc' n->R (.ok (.ret res)) { s with heap:=h',toks:=tk }) (hn:n<=sizeLine):
    wpAny (model prog w) A.in1 (Builtin.List.listExtendWith (.ref S) (.ref r) res)
      (λ fin s'=>match fin with | .done f=>R (.ok f) s' | .again c'=>c'.quiet=true/\codeAny (model prog w) A c' R s') (λ e s'=>R (.error e) s') s:=by
  have hSf:S∉[r,d]:=by simp [hSr,hSd]
  have key:∀ (h:Heap) (c1 tk:Nat),St 0 h->(∀ b o,b≠S->s.heap.get? b=some o->h.get? b=some o)->h.get? S=some { cls:= .type "list",data:= .seq #[] c1 }->
      codeAny (model prog w) A (.builtin "list.extend.loop" ⟨[.ref S, .ref r,res],[]⟩) R { s with heap:=h,toks:=tk }:=by
    intro h c1 tk hst hk hS1;refine codeAny_extend_loopS W.toS hn S hSf res n 0 _ #[] c1 rfl (Nat.zero_le _) hst hS1 (ItemsOf.nil _) λ s' acc' c' hm hS' hacc=> ?_;rw [Moved.eq_with hm];refine hR s'.heap s'.toks acc' c' (λ b o hb hbr e=>hm.heap b o (λ hmem=> ?_) (hk b o hb e)) hS' hacc;rcases List.mem_cons.mp hmem with z | z
    · exact hb z
    · exact hbr (List.mem_singleton.mp z)
  unfold Builtin.List.listExtendWith;refine wpAny_bind (wpAny_typeOf (T:=T) hT ?_);have h1:Builtin.List.listSameRef (.ref S) (.ref r)=false:=by simp [Builtin.List.listSameRef,hSr]
  simp only [h1,nl,nt,Bool.or_false,Bool.false_eq_true,if_false];refine wpAny_bind (W.self 0 s _ _ st ?_);refine wpAny_bind (wpAny_holding (hint _ _ λ b tk=> ?_));refine wpAny_ite_split (λ _=> ?_) (λ _=>wpAny_pure ⟨plainId_quiet PySem.F.plain_extend_loop _,key _ c0 _ st (λ b o _ e=>e) hS⟩);refine wpAny_bind (wpAny_rule ?_);refine wpAny_bind ?_;show wpAny _ _ (updateSeq S (·.push .none) >>= λ _=>updateSeq S (·.pop)) _ _ _;refine wpAny_bind (wpAny_updateSeq hS rfl ?_);have hS2:=Heap.get?_update_self (Obj.mapSeq (·.push Value.none)) hS rfl;refine wpAny_updateSeq (hz:=by seq_fits) hS2 rfl ?_;have hS3:=Heap.get?_update_self (Obj.mapSeq (·.pop)) hS2 rfl;have oth:∀ b o,b≠S->s.heap.get? b=some o->((s.heap.update S (Obj.mapSeq (·.push Value.none))).update S (Obj.mapSeq (·.pop))).get? b=some o:=λ b o hb e=>
    (Heap.get?_update_other _ _ (Ne.symm hb)).trans ((Heap.get?_update_other _ _ (Ne.symm hb)).trans e)
  exact wpAny_pure ⟨plainId_quiet PySem.F.plain_extend_loop _,key _ _ _ (W.frame 0 _ _ st λ b hb o e=>oth b o (λ z=>hSf (z▸hb)) e) oth hS3⟩
theorem N0 {Q:Value->Shared->Prop} (hA:A.handled=none) (W:Walks prog w A.in1.in1 r [r,d] [r] n P St) (hT:∀ h,St 0 h->Shared.TypeIs { s with heap:=h } (.ref r) T) (nl:(Value.type T == Value.type "list")=false) (nt:(Value.type T == Value.type "tuple")=false)
    (hint:∀ (h:Heap) (E:Value->Shared->Prop) (Q:Bool->Shared->Prop),St 0 h->(∀ b tk,Q b { s with heap:=h,toks:=tk })->wpAny (model prog w) A.in1.in1 (Builtin.List.listLengthHint (.ref r)) Q E { s with heap:=h })
    (st:St 0 s.heap) (hr:r<s.heap.objs.size) (hd:d<s.heap.objs.size) (hn:n<=sizeLine)
    (hQ:∀ h' tk acc' c',(∀ b o,b≠r->s.heap.get? b=some o->h'.get? b=some o)->h'.get? s.heap.objs.size=some { cls:= .type "list",dict:=none,data:= .seq acc' c',slots:= #[] }->ItemsOf P acc' n->Q (.ref s.heap.objs.size) { s with heap:=h',toks:=tk }):
    wpAny (model prog w) A (call (.type "list") [.ref r]) Q E s:=by
  refine callType_codes (Q₁:=λ ob z=>ob= .ref s.heap.objs.size/\z={ s with heap:=s.heap.push { cls:= .type "list",data:= .seq #[] } }) PySem.F.called_list (PySem.F.typeCall_list_1 _) PySem.F.entry_list_init (code_list_new _ ⟨rfl,rfl⟩) λ ob z hz=> ?_;obtain ⟨rfl,rfl⟩:=hz;have g0:(s.heap.push { cls:= .type "list",data:= .seq #[] }).get? s.heap.objs.size=some { cls:= .type "list",data:= .seq #[] }:=Heap.get?_push_size _ rfl;refine ⟨⟨_,g0,rfl⟩,PySem.F.args_list_init_2 _ _,?_⟩;show wpAny _ A.in1.in1 (do let old <-Builtin.List.listItems (.ref s.heap.objs.size);Builtin.List.listUpdate (.ref s.heap.objs.size) (λ _=> #[]);letGo old.toList.reverse;Builtin.List.listExtendWith (.ref s.heap.objs.size) (.ref r) .none) _ _ _;refine wpAny_bind ?_;unfold Builtin.List.listItems;refine wpAny_bind (wpAny_seqItems g0 rfl (wpAny_pure ?_));show wpAny _ _ (updateSeq s.heap.objs.size (λ _=> #[]) >>= λ _=>letGo (#[]:Array Value).toList.reverse >>= λ _=>Builtin.List.listExtendWith (.ref s.heap.objs.size) (.ref r) .none) _ _ _;refine wpAny_bind (wpAny_updateSeq g0 rfl ?_);have g1:=Heap.get?_update_self (Obj.mapSeq (λ _=>(#[]:Array Value))) g0 rfl;have ot:∀ b o,s.heap.get? b=some o->((s.heap.push { cls:= .type "list",data:= .seq #[] }).update s.heap.objs.size (Obj.mapSeq (λ _=>(#[]:Array Value)))).get? b=some o:=λ b o e=>
    (Heap.get?_update_other _ _ (Nat.ne_of_gt (Heap.lt_size e))).trans (Heap.get?_push_of_some _ e)
  have st1:=W.frame 0 _ _ st λ b _ o e=>ot b o e;refine wpAny_bind (wpAny_letGo ?_);refine Ld (A:=A.in1) (s:={ s with heap:=(s.heap.push { cls:= .type "list",data:= .seq #[] }).update s.heap.objs.size (Obj.mapSeq (λ _=>(#[]:Array Value))) }) W (hT _ st1) nl nt (λ E Q k=>hint _ E Q st1 k) st1 (Nat.ne_of_gt hr) (Nat.ne_of_gt hd) g1 (λ h' tk acc' c' kp g2 it=> ?_) hn;exact ⟨rfl,hQ h' tk acc' c' (λ b o nb e=>kp b o (Nat.ne_of_lt (Heap.lt_size e)) nb (ot b o e)) g2 it⟩
end
section
variable {prog:Program} {w:World} {A:Around} {E:Value->Shared->Prop} {s:Shared}
end
section
variable {X:Cx} {K:PySem.W.Frag} {e o:Expr} {ta:TA} {to:TE} {p p2 pos pos2 apos cpos:Pos}
theorem Op:bootBuiltins "reversed"=some (.type "reversed"):=by decide +kernel
theorem PN {xs:List V} {its acc:List Value} (rv:Vals xs its) (hl:acc.length=its.length) (h:∀ j v,acc[j]?=some v->its.toArray[its.toArray.size - 1 - j]?=some v):acc=its.reverse:=by
  refine List.ext_getElem (by simpa using hl) λ j h1 h2=> ?_;have:=h j acc[j] (by simp [h1]);rw [List.size_toArray,List.getElem?_toArray,List.getElem?_eq_getElem (by omega)] at this;rw [List.getElem_reverse];exact (Option.some.inj this).symm
end
section
variable {X:Cx} {K:PySem.W.Frag} {e o:Expr} {es:List Expr} {ta to:TE} {t:TA} {f name:Str} {pos apos cpos:Pos} {T id:String} {r:V->List V->Hp->VK->Prop}
theorem AN (he:PE X e ta) (hb:attributeBase e f X.env (eval e X.env)=eval e X.env) (hK:X.K=K:=by rfl):PE X (.Attribute e f pos) (S6 K ta f):=by
  subst hK;exact T2 he hb
theorem Tw (pa:PlainAttrs T) (slot:Slot T name id) (hty:typeOf (.builtin id)=pure (.type "method_descriptor")) (hm:MtR X id r) (ho:PE X o to) (hK:X.K=K:=by rfl)
    (hbase:attributeBase o name X.env (eval o X.env)=eval o X.env:=by rfl) (hline:(apos.endLine == cpos.line)=true:=by rfl):PE X (.Call (.Attribute o name apos) [] [] cpos) (SH K T r to):=by
  subst hK;exact S8 pa slot hty hm ho hbase hline
theorem RZ (pa:PlainAttrs T) (slot:Slot T name id) (hty:typeOf (.builtin id)=pure (.type "method_descriptor")) (hm:MtR X id r) (ho:PE X o to) (ha:PA X (e::es) t) (hK:X.K=K:=by rfl)
    (hbase:attributeBase o name X.env (eval o X.env)=eval o X.env:=by rfl)
    (hfew:((backTo cpos (starEach (e::es) X.env)).all (λ x=> !x.1)&&(backToKw cpos (keywordEach [] X.env)).all (λ x=>x.1.isSome)
      && decide ((e::es).length+([]:List Keyword).length+(if ([]:List Keyword).isEmpty then 0 else 1)<30))=true:=by rfl)
    (hline:(apos.endLine == cpos.line)=true:=by rfl) (hs:starEach (e::es) X.env=(false,eval e X.env)::starEach es X.env:=by rfl) (hplain:(backTo cpos (starEach es X.env)).any (·.1)=false:=by rfl):
    PE X (.Call (.Attribute o name apos) (e::es) [] cpos) (tBM K T r to t):=by
  subst hK;exact XU pa slot hty hm ho ha hbase hfew hline hs hplain
end
theorem slot_rvd_next:Slot "reversed" "__next__" "reversed.__next__":=
  .of (owner:="reversed") (n:="__next__") (by rw [typeLookup_type,builtinLookup_eq_fast];kernel_rfl) (by decide +kernel) (by decide +kernel) (by decide +kernel)
    (by first | exact .inl (by decide +kernel) | exact .inr (by decide +kernel)) (by rw [isSubtype_type];kernel_rfl)
theorem Gk:Manifest.owners.lookup (String.ofList ['d', 'e', 's', 'r', 'e', 'v', 'e', 'r'].reverse)=some Manifest.sig_reversed:=by kernel_rfl
theorem EE:entryFor table "reversed.__next__"=some Builtin.«reversed.__next__» := entryFor_of_tree (by kernel_rfl)
theorem Ec (a:Value):argsOk "reversed.__next__" ⟨[a],[]⟩:=by
  unfold argsOk;rw [signature?_of (id:="reversed.__next__") (n:=['_', '_', 't', 'x', 'e', 'n', '_', '_']) (o:=['d', 'e', 's', 'r', 'e', 'v', 'e', 'r']) (by kernel_rfl) Gk];kernel_rfl
theorem Cc:Slot "reversed" "__iter__" "reversed.__iter__":=
  .of (owner:="reversed") (n:="__iter__") (by rw [typeLookup_type,builtinLookup_eq_fast];kernel_rfl) (by decide +kernel) (by decide +kernel) (by decide +kernel)
    (by first | exact .inl (by decide +kernel) | exact .inr (by decide +kernel)) (by rw [isSubtype_type];kernel_rfl)
theorem Ea (a:Value):argsOk "reversed.__iter__" ⟨[a],[]⟩:=by
  unfold argsOk;rw [signature?_of (id:="reversed.__iter__") (n:=['_', '_', 'r', 'e', 't', 'i', '_', '_']) (o:=['d', 'e', 's', 'r', 'e', 'v', 'e', 'r']) (by kernel_rfl) Gk];kernel_rfl
theorem Ew:entryFor table "reversed.__iter__"=some Builtin.«dict_keyiterator.__iter__» :=
  entryFor_alias (id':="dict_keyiterator.__iter__") (by kernel_rfl) (by first | rfl | decide +kernel | (unfold String.splitOn;simp +decide [String.splitOnAux])) (by decide +kernel) (by kernel_rfl)
theorem slot_rvd_hint:Slot "reversed" "__length_hint__" "reversed.__length_hint__":=
  .of (owner:="reversed") (n:="__length_hint__") (by rw [typeLookup_type,builtinLookup_eq_fast];kernel_rfl) (by decide +kernel) (by decide +kernel) (by decide +kernel)
    (by first | exact .inl (by decide +kernel) | exact .inr (by decide +kernel)) (by rw [isSubtype_type];kernel_rfl)
theorem HW:entryFor table "reversed.__length_hint__"=some Builtin.«reversed.__length_hint__» := entryFor_of_tree (by kernel_rfl)
theorem GV (a:Value):argsOk "reversed.__length_hint__" ⟨[a],[]⟩:=by
  unfold argsOk;rw [signature?_of (id:="reversed.__length_hint__") (n:=['_', '_', 't', 'n', 'i', 'h', '_', 'h', 't', 'g', 'n', 'e', 'l', '_', '_']) (o:=['d', 'e', 's', 'r', 'e', 'v', 'e', 'r']) (by kernel_rfl) Gk];kernel_rfl
theorem slot_rvd_init:Slot "reversed" "__init__" "object.__init__":=
  .of (owner:="object") (n:="__init__") (by rw [typeLookup_type,builtinLookup_eq_fast];kernel_rfl) (by decide +kernel) (by decide +kernel) (by decide +kernel)
    (by first | exact .inl (by decide +kernel) | exact .inr (by decide +kernel)) (by rw [isSubtype_type];kernel_rfl)
theorem Mv:TypeCalled "reversed" "reversed.__new__" "object.__init__":=
  ⟨by decide +kernel,PySem.F.create_reversed,⟨_,_,PySem.F.mro_reversed⟩,PySem.F.made_reversed,PySem.F.plain_reversed_new,PySem.F.sub_reversed_self,slot_rvd_init⟩
theorem JW:typeLookup (.type "tuple") "__reversed__"=pure none:=by rw [typeLookup_type,builtinLookup_eq_fast];kernel_rfl
noncomputable def HH (l:Addr) (i:Int):Obj:={ cls:= .type "reversed",data:= .fields #[.ref l,rawInt i] }
def IsRvd (h:Heap) (a l:Addr) (i:Int):Prop:=∃ o,h.get? a=some o/\o.cls= .type "reversed"/\o.data= .fields #[.ref l,rawInt i]
section
variable {prog:Program} {w:World} {A:Around} {E:Value->Shared->Prop} {s:Shared}
theorem IsRvd.typeIs {a l:Addr} {i:Int} (x:IsRvd s.heap a l i):s.TypeIs (.ref a) "reversed":=let ⟨o,ho,hc,_⟩:=x;⟨o,ho,hc⟩
theorem IsRvd.at {h h':Heap} {a l:Addr} {i:Int} (x:IsRvd h a l i) (e:∀ o,h.get? a=some o->h'.get? a=some o):IsRvd h' a l i:=let ⟨o,ho,r⟩:=x;⟨o,e _ ho,r⟩
theorem Kc {l:Addr} {items:Array Value} {Q₁:Value->Shared->Prop} (hl:IsTup s.heap l items) (hz:(items.size:Int)<2 ^ 63)
    (h:∀ tk,Q₁ (.ref s.heap.objs.size) { s with heap:=s.heap.push (HH l ((items.size:Int) - 1)),toks:=tk }):
    codeAny (model prog w) A (.call (.builtin "reversed.__new__") ⟨[.type "reversed", .ref l],[]⟩) (wants Q₁ E) s:=by
  refine codeAny_of_tree ?_;show wpAny _ A.in1 (do checkBuiltinCall "reversed.__new__" ⟨[.type "reversed", .ref l],[]⟩;again (.builtin "reversed.__new__" ⟨[.type "reversed", .ref l],[]⟩)) _ _ s;refine wpAny_bind (wpAny_of_eq (PySem.F.newCall_reversed_1 _) (wpAny_pure ⟨plainId_quiet PySem.F.plain_reversed_new _,codeAny_builtin PySem.F.entry_reversed_new ?_⟩));rw [Around.under_plainId PySem.F.plain_reversed_new _];unfold Builtin.«reversed.__new__»;refine wpAny_bind (wpAny_of_eq (newClass_reversed _) ?_)
  try dsimp only
  refine wpAny_bind (wpAny_of_eq (a:=()) (by first | rfl | kernel_rfl) ?_);refine wpAny_bind (wpAny_of_eq (a:=()) (by first | rfl | kernel_rfl) ?_)
  try dsimp only
  refine wpAny_bind (wpAny_specialOf hl.typeIs JW ?_)
  try dsimp only
  refine wpAny_bind ?_
  wp_delta
  refine wpAny_bind (wpAny_isInstance (T:="tuple") (b:=false) hl.typeIs (by rw [isSubtype_type];kernel_rfl) ?_);refine wpAny_ite_split (λ hab=>absurd hab (by decide)) (λ _=> ?_);refine wpAny_bind (wpAny_specialOf hl.typeIs slot_tuple_getitem.lookup ?_)
  try dsimp only
  refine wpAny_ite_split (λ _=> ?_) (λ hab=>absurd (by decide +kernel) hab);refine wpAny_pure ?_;refine wpAny_ite_split (λ hab=>absurd hab (by decide)) (λ _=> ?_);refine wpAny_bind (len_tuple hl hz ?_);refine wpAny_bind (wpAny_of_eq (a:=some (items.size:Int)) rfl ?_)
  try dsimp only
  refine wpAny_bind ?_;unfold Builtin.SmallTypes.newRecord
  try dsimp only
  exact wpAny_newObj_type (wpAny_pure (h _))
theorem Po {l:Addr} {items:Array Value} {Q:Value->Shared->Prop} (hl:IsTup s.heap l items) (hz:(items.size:Int)<2 ^ 63)
    (h:∀ tk,Q (.ref s.heap.objs.size) { s with heap:=s.heap.push (HH l ((items.size:Int) - 1)),toks:=tk }):wpAny (model prog w) A (call (.type "reversed") [.ref l]) Q E s:=by
  refine callType_codes (Q₁:=λ obj s₁=>obj= .ref s.heap.objs.size/\∃ tk,s₁={ s with heap:=s.heap.push (HH l ((items.size:Int) - 1)),toks:=tk }) Mv (PySem.F.typeCall_reversed_1 _) PySem.F.entry_object_init (Kc hl hz λ tk=>⟨rfl,tk,rfl⟩) ?_;rintro obj s₁ ⟨rfl,tk,rfl⟩;have hT:Shared.TypeIs { s with heap:=s.heap.push (HH l ((items.size:Int) - 1)),toks:=tk } (.ref s.heap.objs.size) "reversed":=⟨_,Heap.get?_push_size _ rfl,rfl⟩;exact ⟨hT,PySem.F.args_object_init_2 _ _,object_init_meets slot_rvd_init.lookup PySem.F.made_reversed (by decide) prog w A.in1 _ _ ⟨hT,rfl,h tk⟩⟩
theorem La {it l:Addr} {i:Nat} {items:Array Value} {x:Value} {Q:Option Value->Shared->Prop} (hit:IsRvd s.heap it l (i:Int)) (hl:IsTup s.heap l items) (hz:(items.size:Int)<2 ^ 63) (hx:items[i]?=some x)
    (hQ:∀ h' tk,IsRvd h' it l ((i:Int) - 1)->Heap.SameBut it s.heap h'->Q (some x) { s with heap:=h',toks:=tk }):wpAny (model prog w) A (pyNext (.ref it)) Q E s:=by
  obtain ⟨o,ho,hc,hd⟩:=id hit;have hi:i<items.size:=by
    rcases Nat.lt_or_ge i items.size with z | z
    · exact z
    · rw [Array.getElem?_eq_none z] at hx;cases hx
  unfold pyNext;refine wpAny_bind (wpAny_attempt (wpAny_callSpecial?_slot (name:=Str.ofString "__next__") hit.typeIs slot_rvd_next
    (wpAny_call_entry slot_rvd_next hit.typeIs EE ?_ (Ec _))))
  unfold Builtin.«reversed.__next__»;refine wpAny_bind (wpAny_of_eq (a:=(Value.ref it,[])) rfl ?_)
  try dsimp only
  refine wpAny_bind (wpAny_field ho hd (x:= .ref l) rfl ?_);refine wpAny_bind (wpAny_field ho hd (x:=rawInt (i:Int)) rfl ?_);show wpAny _ _ (if (i:Int)<0 then _ else _) _ _ s;rw [if_neg (by omega)];refine wpAny_bind (wpAny_specialOf hl.typeIs slot_tuple_getitem.lookup ?_);refine wpAny_ite_split (λ hab=>absurd hab (by decide)) (λ _=> ?_);refine wpAny_bind (wpAny_mkInt ?_);refine wpAny_bind (wpAny_attempt (PyProof.Rows.getItem_tuple (s:={ s with toks:=s.toks+1 }) hl (by omega) (by omega) (seqIndex_of (by omega) (by omega)) (by simpa using hx) ?_))
  try dsimp only
  refine wpAny_bind (wpAny_field ho hd (x:=rawInt (i:Int)) rfl ?_);show wpAny _ _ (setField (.ref it) 1 (rawInt ((i:Int) - 1)) >>= _) _ _ _;refine wpAny_bind (wpAny_setField ho hd (by simp) ?_);refine wpAny_pure ⟨x,rfl,wpAny_pure (hQ _ _ ?_ (Heap.SameBut.update ..))⟩;exact ⟨_,Heap.get?_update_self _ ho (Obj.isFreed_of_fields (Obj.data_mapFields hd _)),(Obj.cls_mapFields ..).trans hc,by
    rw [Obj.data_mapFields hd];simp⟩
theorem MJ {it l:Addr} {Q:Option Value->Shared->Prop} (hh:A.handled=none) (hit:IsRvd s.heap it l (-1))
    (hQ:∀ h',(∀ b o,b≠it->s.heap.get? b=some o->h'.get? b=some o)->Q none { s with heap:=h' }):wpAny (model prog w) A (pyNext (.ref it)) Q E s:=by
  obtain ⟨o,ho,hc,hd⟩:=id hit;unfold pyNext;refine wpAny_bind (wpAny_attempt (wpAny_callSpecial?_slot (name:=Str.ofString "__next__") hit.typeIs slot_rvd_next
    (wpAny_call_entry slot_rvd_next hit.typeIs EE ?_ (Ec _))))
  unfold Builtin.«reversed.__next__»;refine wpAny_bind (wpAny_of_eq (a:=(Value.ref it,[])) rfl ?_)
  try dsimp only
  refine wpAny_bind (wpAny_field ho hd (x:= .ref l) rfl ?_);refine wpAny_bind (wpAny_field ho hd (x:=rawInt (-1)) rfl ?_);show wpAny _ _ (if (-1:Int)<0 then _ else _) _ _ s;rw [if_pos (by decide)];refine wpAny_bind (wpAny_rule ?_);refine wpAny_bind ?_
  wp_delta
  refine wpAny_bind (wpAny_setField ho hd (by simp) ?_);have ho':=Heap.get?_update_self (h:=s.heap) (a:=it) (Obj.mapFields λ fs=>fs.setIfInBounds 1 (rawInt (-1))) ho (Obj.isFreed_of_fields (Obj.data_mapFields hd _));refine wpAny_setField ho' (Obj.data_mapFields hd _) (by simp) ?_;show wpAny _ _ (Builtin.SmallTypes.stopIteration >>= _) _ _ _;unfold Builtin.SmallTypes.stopIteration;refine wpAny_bind ?_;refine wpAny_bind ?_;simp only [newExc,newTuple];refine wpAny_bind (wpAny_newObj_type ?_ (by size_fits));refine wpAny_bind (m:=firstArgMember _ _) (wpAny_of_eq (a:=Value.none) (by first | rfl | (simp only [firstArgMember];rfl)) ?_);refine wpAny_newObj_type ?_ (by size_fits);simp only [raiseNew];refine wpAny_bind (wpAny_handled ?_)
  first | rw [show A.in1.handled=none from hh] | rw [hh]
  refine wpAny_bind (wpAny_pure (wpAny_throw ?_));refine wpAny_bind (wpAny_isInstance (T:="StopIteration") (b:=true) ⟨_,Heap.get?_push_size _ rfl,rfl⟩ isSubtype_stop ?_);refine wpAny_pure (hQ _ λ b o' hb e=> ?_);exact Heap.get?_push_of_some _ (Heap.get?_push_of_some _ ((Heap.get?_update_other _ _ (Ne.symm hb)).trans ((Heap.get?_update_other _ _ (Ne.symm hb)).trans e)))
theorem ND {prog:Program} {w:World} {A:Around} (hh:A.handled=none) (I l:Addr) (hne:l≠I) (items:Array Value) (hz:(items.size:Int)<2 ^ 63):
    Walks prog w A I [I,l] [I] items.size (λ i v=>items[items.size - 1 - i]?=some v) (λ i h=>i<=items.size/\IsRvd h I l ((items.size:Int) - 1 - (i:Int))/\IsTup h l items) where
  sub:=λ b hb=>by simp at hb;simp [hb]
  frame:=λ _ _ _ x hk=>⟨x.1,x.2.1.at λ o e=>hk I (by simp) o e,let ⟨o,ho,r⟩:=x.2.2;⟨o,hk l (by simp) o ho,r⟩⟩
  item:=λ i s Q E hi x hQ=>by
    have e:(items.size:Int) - 1 - (i:Int)=((items.size - 1 - i:Nat):Int):=by omega
    have hit:=x.2.1;rw [e] at hit;have hx:items[items.size - 1 - i]?=some (items[items.size - 1 - i]'(by omega)):=Array.getElem?_eq_getElem (by omega);refine La hit x.2.2 hz hx λ h' tk hit' hs'=> ?_;have e2:((items.size - 1 - i:Nat):Int) - 1=(items.size:Int) - 1 - ((i+1:Nat):Int):=by omega
    rw [e2] at hit';exact hQ _ h' tk hx ⟨hi,hit',x.2.2.extBut hs'.extBut hne⟩ λ b o hb eo=>hs'.extBut b o (λ h=>hb (by simp [h])) eo
  done:=λ s Q E x hQ=>by
    have e:(items.size:Int) - 1 - (items.size:Int)= -1:=by omega
    have hit:=x.2.1;rw [e] at hit;exact MJ hh hit λ h' he'=>hQ h' s.toks λ b o hb eo=>he' b o (λ h=>hb (by simp [h])) eo
  self:=λ _ s _ _ x hQ=>by
    refine wpAny_pyIter_slot x.2.1.typeIs Cc (wpAny_call_entry Cc x.2.1.typeIs Ew ?_ (Ea _));show wpAny _ _ (ret (.ref I)) _ _ s;exact wpAny_pure ⟨_,rfl,"reversed",_,x.2.1.typeIs,slot_rvd_next.lookup,hQ⟩
theorem QK:typeLookup (.type "reversed") "__len__"=pure none:=by rw [typeLookup_type,builtinLookup_eq_fast];kernel_rfl
theorem P7 {r l:Addr} {items:Array Value} {Q:Bool->Shared->Prop} (hit:IsRvd s.heap r l ((items.size:Int) - 1)) (hl:IsTup s.heap l items) (hz:items.size<=sizeLine) (h:∀ b tk,Q b { s with toks:=tk }):wpAny (model prog w) A (Builtin.List.listLengthHint (.ref r)) Q E s:=by
  have hT:=hit.typeIs;obtain ⟨o,ho,hc,hd⟩:=id hit;have hz':(items.size:Int)<2 ^ 63:=by
    have:(items.size:Int)<=(sizeLine:Nat):=by exact_mod_cast hz
    exact Int.lt_of_le_of_lt this (by decide)
  unfold Builtin.List.listLengthHint;refine wpAny_bind (wpAny_specialOf hT QK ?_);show wpAny _ _ (specialOf (Value.ref r) (Str.ofString "__length_hint__") >>= _) _ _ _;refine wpAny_bind (wpAny_specialOf hT slot_rvd_hint.lookup ?_);generalize hid:("reversed.__length_hint__":String)=id0
  wp_delta
  rw [show splitId id0=some ("reversed","__length_hint__") from by subst hid;decide +kernel];subst hid;refine wpAny_bind (wpAny_isInstance (T:="reversed") (b:=true) hT (by rw [isSubtype_type];kernel_rfl) ?_);refine wpAny_ite_split (λ hab=>absurd hab (by decide)) (λ _=> ?_);refine wpAny_ite_split (λ hab=>absurd hab (by decide +kernel)) (λ _=> ?_);refine wpAny_bind (wpAny_rule ?_);refine wpAny_bind (wpAny_of_eq (slot_rvd_hint.bind _) ?_)
  try dsimp only
  refine wpAny_bind (wpAny_attempt (wpAny_call_entry slot_rvd_hint hT HW ?_ (GV _)));unfold Builtin.«reversed.__length_hint__»;refine wpAny_bind (wpAny_of_eq (a:=Value.ref r) rfl ?_);refine wpAny_bind (wpAny_field ho hd (x:= .ref l) rfl ?_);refine wpAny_ite_split (λ hab=>absurd hab (by simp)) (λ _=> ?_);refine wpAny_bind (len_tuple hl hz' ?_);refine wpAny_bind (wpAny_of_eq (a:=some (items.size:Int)) rfl ?_)
  try dsimp only
  refine wpAny_bind (wpAny_field ho hd (x:=rawInt ((items.size:Int) - 1)) rfl ?_);show wpAny _ _ (if (items.size:Int)<(items.size:Int) - 1+1 then _ else _) _ _ _;rw [if_neg (by omega)];refine wpAny_bind (wpAny_mkInt (wpAny_pure ⟨_,rfl,?_⟩));show wpAny _ _ (asInt? (Value.int ((items.size:Int) - 1+1) _) >>= _) _ _ _;refine wpAny_bind (wpAny_of_eq (a:=some ((items.size:Int) - 1+1)) rfl ?_)
  try dsimp only
  rw [show (items.size:Int) - 1+1=(items.size:Int) by omega];have hb:Builtin.List.listTooLong ((items.size:Int)).toNat=false:=decide_eq_false (by rw [Int.toNat_natCast];exact Nat.not_lt.mpr hz);rw [fitsIndex_of (k:=(items.size:Int)) (by omega) hz',hb];rw [if_neg (by decide),if_neg (by omega),if_neg Bool.false_ne_true];exact wpAny_pure (h _ _)
end
section
variable {X:Cx} {K:PySem.W.Frag} {e o:Expr} {ta:TA} {to:TE} {p p2 pos pos2 apos cpos:Pos}
theorem OE {pins:List (Addr × Obj)} {s:Shared} {σ:St} {H:Hp} {Kt:Addr->List V->Hp->Prop} (hg:Gl X "reversed") (hm:X.mg "reversed"=none) (ha:PA X [e] ta) (hs:starEach [e] X.env=[(false,eval e X.env)]) (I:Inv X pins σ H s)
    (h:ta σ H λ vs H1=>∃ a xs,vs=[.ref a]/\SqT X.K H1 a xs/\Kt a xs H1):
    wpAny (model X.prog X.w) X.A (eval (.Call (.Name "reversed" p2) [e] [] pos2) X.env) (λ v s1=>∃ r a xs H1,v= .ref r/\Inv X pins σ H1 s1/\SqT X.K H1 a xs/\IsRvd s1.heap r a ((xs.length:Int) - 1)/\Cj X pins H1 r/\Kt a xs H1) X.xe s:=by
  refine wpAny_Call_Name_kw (B3 I hg hm Op (PyProof.Rows.callWith_type1 (thn (ha pos2 pins s σ H _ I h) λ us s1 ⟨vs,H1,I1,r1,q1⟩=> ?_) hs rfl));obtain ⟨a,xs,rfl,hq,kt⟩:=q1;cases r1 with
  | cons r rr=>
    cases rr;cases r;obtain ⟨its,rv,pl,hz⟩:=I1.tuple hq;have hl:=rv.length;have hz':(its.toArray.size:Int)<2 ^ 63:=by
      have:((its.toArray.size:Nat):Int)<=(sizeLine:Nat):=by rw [List.size_toArray, <-hl];exact_mod_cast hz
      exact Int.lt_of_le_of_lt this (by decide)
    refine Po pl hz' λ tk=> ?_;have I2:Inv X pins σ H1 { s1 with heap:=s1.heap.push (HH a ((its.toArray.size:Int) - 1)),toks:=tk }:=I1.kept (t':=tk) λ b ob z=>Heap.get?_push_of_some _ z;refine ⟨_,a,xs,H1,rfl,I2,hq,?_,I1.fpOk (Nat.le_refl _) (I1.hok.fresh (Nat.le_refl _)),kt⟩;rw [show ((xs.length:Int) - 1)=((its.toArray.size:Int) - 1) by rw [hl];simp];exact ⟨_,Heap.get?_push_size _ rfl,rfl,rfl⟩
def RJ (K:PySem.W.Frag) (ta:TA):TE:=λ σ H Q=>ta σ H λ vs H1=>∃ a xs,vs=[.ref a]/\SqT K H1 a xs/\∀ l,H1 l=none->Q (.ref l) (upd H1 l (.lst xs.reverse))
theorem CP (hgl:Gl X "list") (hml:X.mg "list"=none) (hg:Gl X "reversed") (hm:X.mg "reversed"=none) (ha:PA X [e] ta) (hK:X.K=K:=by rfl) (hc:X.calm=true:=by rfl) (hs:starEach [e] X.env=[(false,eval e X.env)]:=by rfl)
    (hs1:starEach [Expr.Call (.Name "reversed" p2) [e] [] pos2] X.env=[(false,eval (.Call (.Name "reversed" p2) [e] [] pos2) X.env)]:=by rfl):
    PE X (.Call (.Name "list" p) [.Call (.Name "reversed" p2) [e] [] pos2] [] pos) (RJ K ta):=by
  subst hK;intro pins s σ H Q I h;refine wpAny_Call_Name_kw (B3 I hgl hml Aw (PyProof.Rows.callWith_type1 ?_ hs1 rfl));rw [hs1];refine Calls.spliced_cons (thn (OE (Kt:=λ a xs H1=>∀ l,H1 l=none->Q (.ref l) (upd H1 l (.lst xs.reverse))) hg hm ha hs I h) λ v s1 ⟨r,a,xs,H1,ev,I1,hq,hit,fp,kt⟩=>Calls.spliced_nil ?_);subst ev;obtain ⟨its,rv,pl,hz⟩:=I1.tuple hq;have hl:=rv.length;have hn:its.toArray.size<=sizeLine:=by rw [List.size_toArray, <-hl];exact hz
  have hz':(its.toArray.size:Int)<2 ^ 63:=by
    have:((its.toArray.size:Nat):Int)<=(sizeLine:Nat):=by exact_mod_cast hn
    exact Int.lt_of_le_of_lt this (by decide)
  obtain ⟨oi,ei,ci,di⟩:=id hit;obtain ⟨ol,el,cl,nl,dl⟩:=id pl;have nar:a≠r:=λ z=>by
    subst z;rw [ei] at el;cases el;rw [di] at dl;cases dl
  have W:=ND (prog:=X.prog) (w:=X.w) (A:=X.A.in1.in1) (I1.ok.hd hc) r a nar its.toArray hz';have e0:((xs.length:Int) - 1)=((its.toArray.size:Int) - 1 - ((0:Nat):Int)):=by rw [hl];simp
  rw [e0] at hit;refine N0 (I1.ok.hd hc) W (λ h st=>⟨_,(st.2.1).choose_spec.1,(st.2.1).choose_spec.2.1⟩) (by decide) (by decide) (λ h E Q st k=>P7 (s:={ s1 with heap:=h }) (by simpa using st.2.1) st.2.2 hn k) ⟨Nat.zero_le _,hit,pl⟩ (Heap.lt_size ei) (Heap.lt_size el) hn λ h' tk acc c kp g it=> ?_;have ea:acc.toList=its.reverse:=PN rv (by rw [Array.length_toList,it.1];simp) λ j v hj=>it.2 j v (by rw [<-Array.getElem?_toList];exact hj);have hacc:acc=its.reverse.toArray:=by rw [<-ea]
  subst hacc;have I0:=I1.laid (h':=s1.heap.push { cls:= .type "list",data:= .seq its.reverse.toArray c }) (a:=s1.heap.objs.size) (o:= .lst xs.reverse) (t':=s1.toks) (λ _ _ q=>Heap.get?_push_of_some _ q) (Nat.le_refl _)
    ⟨by simpa using hz,its.reverse,c,rv.reverse,Heap.get?_push_size _ rfl⟩
  have nr:r≠s1.heap.objs.size:=Nat.ne_of_lt (Heap.lt_size ei);have I2:=Inv.turnedL (t':=tk) (h':=h') [r] I0 (λ b hb=>by rw [List.mem_singleton.mp hb];exact Fl fp nr) (λ b ob hb z=>by
    rcases Heap.get?_push_cases (show (s1.heap.push { cls:= .type "list",data:= .seq its.reverse.toArray c }).get? b=some ob from z) with ⟨q1,q2⟩ | q
    · rw [q1,q2];exact g
    · exact kp b ob (λ q=>hb (by simp [q])) q)
  exact ⟨.ref s1.heap.objs.size,_,I2,rfl,kt _ (I1.hok.fresh (Nat.le_refl _))⟩
theorem QD {K:PySem.W.Frag} {ta:TA} {σ:St} {H:Hp} {Q:VK} (h:ta σ H λ vs H1=>∃ a xs,vs=[.ref a]/\SqT K H1 a xs/\∀ l,H1 l=none->Q (.ref l) (upd H1 l (.lst xs.reverse))):RJ K ta σ H Q:=h
end
section
variable {X:Cx} {k:Nat} {e o:Expr} {es:List Expr} {t:TA} {to:TE} {pos:Pos} {S:Addr->Sp->Prop}
end
theorem arg1 {α:Type} {P:List α->Prop} (h:∀ a0,P [a0]):∀ us:List α,us.length=1->P us:=λ us hl=>match us,hl with | [a0],_=>h a0
theorem arg2 {α:Type} {P:List α->Prop} (h:∀ a0 a1,P [a0,a1]):∀ us:List α,us.length=2->P us:=λ us hl=>match us,hl with | [a0,a1],_=>h a0 a1
theorem arg3 {α:Type} {P:List α->Prop} (h:∀ a0 a1 a2,P [a0,a1,a2]):∀ us:List α,us.length=3->P us:=λ us hl=>match us,hl with | [a0,a1,a2],_=>h a0 a1 a2
theorem arg4 {α:Type} {P:List α->Prop} (h:∀ a0 a1 a2 a3,P [a0,a1,a2,a3]):∀ us:List α,us.length=4->P us:=λ us hl=>match us,hl with | [a0,a1,a2,a3],_=>h a0 a1 a2 a3
theorem arg5 {α:Type} {P:List α->Prop} (h:∀ a0 a1 a2 a3 a4,P [a0,a1,a2,a3,a4]):∀ us:List α,us.length=5->P us:=λ us hl=>match us,hl with | [a0,a1,a2,a3,a4],_=>h a0 a1 a2 a3 a4
theorem arg6 {α:Type} {P:List α->Prop} (h:∀ a0 a1 a2 a3 a4 a5,P [a0,a1,a2,a3,a4,a5]):∀ us:List α,us.length=6->P us:=λ us hl=>match us,hl with | [a0,a1,a2,a3,a4,a5],_=>h a0 a1 a2 a3 a4 a5
theorem arg7 {α:Type} {P:List α->Prop} (h:∀ a0 a1 a2 a3 a4 a5 a6,P [a0,a1,a2,a3,a4,a5,a6]):∀ us:List α,us.length=7->P us:=λ us hl=>match us,hl with | [a0,a1,a2,a3,a4,a5,a6],_=>h a0 a1 a2 a3 a4 a5 a6
theorem arg8 {α:Type} {P:List α->Prop} (h:∀ a0 a1 a2 a3 a4 a5 a6 a7,P [a0,a1,a2,a3,a4,a5,a6,a7]):∀ us:List α,us.length=8->P us:=λ us hl=>match us,hl with | [a0,a1,a2,a3,a4,a5,a6,a7],_=>h a0 a1 a2 a3 a4 a5 a6 a7
theorem arg9 {α:Type} {P:List α->Prop} (h:∀ a0 a1 a2 a3 a4 a5 a6 a7 a8,P [a0,a1,a2,a3,a4,a5,a6,a7,a8]):∀ us:List α,us.length=9->P us:=λ us hl=>match us,hl with | [a0,a1,a2,a3,a4,a5,a6,a7,a8],_=>h a0 a1 a2 a3 a4 a5 a6 a7 a8
theorem K9 {M:Model} {A:Around} {E:Value->Shared->Prop} {s:Shared} {scope:Scope} {globals:Addr} {closure:List (Str × Addr)} {qual:Str} {outer:Env} {cx:Str} {Q:Env->Shared->Prop}
    (hc1:∀ n cl,cellsFrom n scope.names cl=(cx,n)::cl) (hc2:∀ h:Heap,pushCells h scope.names=h.push { cls:= .type "cell",data:= .cell none })
    (hQ:Q (newEnv scope s.heap.objs.size globals ((cx,s.heap.objs.size+1)::closure) qual none .none (some outer) builtinsNs) { s with heap:=(s.heap.push { cls:= .type "dict",data:= .dict #[] }).push { cls:= .type "cell",data:= .cell none } }):
    wpAny M A (newFunctionEnv scope globals closure [] qual none .none (some outer)) Q E s:=by
  simp only [newFunctionEnv,Option.isSome_some,if_true];refine wpAny_bind (wpAny_alloc ?_);refine wpAny_bind (wpAny_layCells _ (λ name kind cells=>by cases hkc:kind == NameKind.cell <;> simp [hkc]) _ _ _ _ ?_);rw [hc1,hc2];have e:(s.heap.push { cls:= .type "dict",data:= .dict #[] }).objs.size=s.heap.objs.size+1:=Heap.size_push ..;simp only [e];refine wpAny_bind ?_;rw [List.forIn_nil];exact wpAny_pure (wpAny_pure hQ)
structure BlkScopeC (X:Cx) (scope:Scope) (cx:Str) (own:List Str) (fr:List (Str × Nat)):Prop where
  kind:scope.kind= .function
  onec:∀ y∈scope.names,y.2= .cell->y.1=cx
  isc:scope.names.lookup cx=some .cell
  lay:∀ n cl,cellsFrom n scope.names cl=(cx,n)::cl
  push:∀ h:Heap,pushCells h scope.names=h.push { cls:= .type "cell",data:= .cell none }
  loc:∀ y∈scope.names,y.2= .local->scope.names.lookup y.1=some .local
  free:∀ y∈scope.names,y.2= .free->(X.env.scope.names.lookup y.1=some .cell\/X.env.scope.names.lookup y.1=some .free)
  fr:∀ p∈fr,X.N[p.2]?=some p.1/\(p.1,NameKind.free)∈scope.names
  only:∀ x,(x,NameKind.free)∈scope.names->scope.names.lookup x=some .free
noncomputable def Bs (X:Cx) (scope:Scope) (cx:Str) (own:List Str) (fr:List (Str × Nat)) (C:Addr) (ex:List Addr) (s:Shared) (H:Hp):Cx where
  prog:=X.prog
  w:=X.w
  K:=X.K
  mg:=X.mg
  base:=X.base
  A:=X.A
  N:=own++fr.map (·.1)
  s₀:=s
  H₀:=H
  env:=compEnvC scope ((cx,C+1)::AB X.env.cells scope.names []) C X.env
  outer:=X.stack
  stack:=X.stack
  ex:=ex
  fn:=λ y=>y == cx
  calm:=X.calm
  pn:=[]
  xe:=λ _ _=>False
section
variable {X:Cx} {pins:List (Addr × Obj)} {σ:St} {H:Hp} {s:Shared} {scope:Scope} {cx:Str} {own:List Str} {fr:List (Str × Nat)} {fp:List Addr}
theorem BlkScopeC.cells (S:BlkScopeC X scope cx own fr) (ok:X.Ok):∀ y∈scope.names,y.2= .free->∃ c,X.env.cells.lookup y.1=some c:=λ y hy e=>ok.has y.1 (S.free y hy e)
theorem GB {α:Type} {x y:Str} {a:α} {l:List (Str × α)} (h:y≠x):((x,a)::l).lookup y=l.lookup y:=by
  have:(y == x)=false:=by simpa using h
  rw [List.lookup_cons,this]
theorem JC {α:Type} {x:Str} {a:α} {l:List (Str × α)}:((x,a)::l).lookup x=some a:=by rw [List.lookup_cons,beq_self_eq_true]
theorem Inv.blockC {h':Heap} {t':Nat} {m:Str->Option Value} (I:Inv X pins σ H s) (S:BlkScopeC X scope cx own fr) (hf:∀ b∈fp,Cj X pins H b) (hlt:∀ b∈fp,b<s.heap.objs.size)
    (hns:h'.Ns s.heap.objs.size m) (hce:h'.IsCell (s.heap.objs.size+1) none) (k:∀ b o,s.heap.get? b=some o->h'.get? b=some o):
    Inv (Bs X scope cx own fr s.heap.objs.size fp s H) [] (Cr own fr σ) H { s with heap:=h',toks:=t' }:=by
  have cs:∀ x c,(AB X.env.cells scope.names []).lookup x=some c->X.env.cells.lookup x=some c:=Fx _ _ (λ _ _ e=>by simp at e);have ck:∀ c v,s.heap.IsCell c v->h'.IsCell c v:=λ c v ⟨o,ho,hd⟩=>⟨o,k _ _ ho,hd⟩;have kf:∀ x,(x,NameKind.free)∈scope.names->∃ c,X.env.cells.lookup x=some c/\(AB X.env.cells scope.names []).lookup x=some c:=λ x hx=>by
    obtain ⟨c0,e0⟩:=S.cells I.ok (x, .free) hx rfl;obtain ⟨c,e⟩:=Fj (cells:=X.env.cells) scope.names [] x (.inl ⟨hx,c0,e0⟩);exact ⟨c,cs _ _ e,e⟩
  have rel:∀ x,(compEnvC scope ((cx,s.heap.objs.size+1)::AB X.env.cells scope.names []) s.heap.objs.size X.env).kindOf x=(scope.names.lookup x).map λ k=>if (k == NameKind.free&&X.env.scope.kind == .function&&X.env.kindOf x == some .cell)=true then NameKind.cell else k:=λ x=>Dz X.env x scope.names
  have nx:∀ y,(y,NameKind.free)∈scope.names->y≠cx:=λ y hy z=>by
    subst z;have:=S.only y hy;rw [S.isc] at this;cases this
  have old:∀ y c,X.env.cells.lookup y=some c->c<s.heap.objs.size:=λ y c e=>by
    obtain ⟨v,o,ho,_⟩:=I.cell y c e;exact Heap.lt_size ho
  have ct:∀ y c,(((cx,s.heap.objs.size+1)::AB X.env.cells scope.names [])).lookup y=some c->(y=cx/\c=s.heap.objs.size+1)\/(y≠cx/\X.env.cells.lookup y=some c):=λ y c e=>by
    by_cases hy:y=cx
    · subst hy;rw [JC] at e;exact .inl ⟨rfl,(Option.some.inj e).symm⟩
    · rw [GB hy] at e;exact .inr ⟨hy,cs _ _ e⟩
  have nc:∀ y,scope.names.lookup y=some .cell->y=cx:=λ y e=>S.onec _ (PySem.mem_of_lookup e) rfl;refine ⟨⟨I.ok.mod,S.kind,I.ok.glob,I.ok.blt,Nat.le_refl _,λ x y c e1 e2=> ?inj,λ x hx=> ?_,λ x c e q=> ?cab,I.ok.hd,I.ok.frames, .inl rfl,
    λ b hb=>⟨Nat.ne_of_lt (hlt b hb),λ x c e=> ?exf⟩,I.bs,Nat.le_trans I.ok.bsz I.sz,λ b o e hb=> ?_,λ b hb z=>(List.mem_cons.mp (I.stkSub b z)).elim (hf b hb).2.1 (hf b hb).2.2.1,I.stack,I.stkFree⟩,
    rfl,I.bare,Un.kept k,⟨m,hns,λ i x v e1 e2 e3=> ?_⟩,λ x c e=> ?_,I.hok.fresh (Nat.le_refl _),λ x c e=> ?freeC,λ p hp=>absurd (show p∈([]:List (Addr × Obj)) from hp) (by simp),I.hok.kept k,?_⟩
  case inj=>
    rcases ct x c e1 with ⟨h1,h2⟩ | ⟨h1,h2⟩
    · rcases ct y c e2 with ⟨h3,h4⟩ | ⟨h3,h4⟩
      · rw [h1,h3]
      · have:=old y c h4;rw [h2] at this;exact absurd this (Nat.not_lt.mpr (Nat.le_succ _))
    · rcases ct y c e2 with ⟨h3,h4⟩ | ⟨h3,h4⟩
      · have:=old x c h2;rw [h4] at this;exact absurd this (Nat.not_lt.mpr (Nat.le_succ _))
      · exact I.ok.inj x y c h2 h4
  case cab=>
    have e:(x == cx)=true:=e;have ex:x=cx:=eq_of_beq e;rcases ct x c q with ⟨_,h2⟩ | ⟨h1,_⟩
    · rw [h2];exact Nat.le_succ _
    · exact absurd ex h1
  case exf=>
    rcases ct x c e with ⟨_,h2⟩ | ⟨_,h2⟩
    · have:=hlt b hb;intro z;rw [<-z,h2] at this;exact absurd this (Nat.not_lt.mpr (Nat.le_succ _))
    · exact (hf b hb).2.2.2.2.1 x c h2
  case freeC=>
    rcases ct x c e with ⟨_,h2⟩ | ⟨_,h2⟩
    · rw [h2];exact I.hok.fresh (Nat.le_succ _)
    · exact I.freeC x c h2
  · have hx:(compEnvC scope ((cx,s.heap.objs.size+1)::AB X.env.cells scope.names []) s.heap.objs.size X.env).kindOf x=some .cell\/(compEnvC scope ((cx,s.heap.objs.size+1)::AB X.env.cells scope.names []) s.heap.objs.size X.env).kindOf x=some .free:=hx;rw [rel x] at hx;by_cases hxc:x=cx
    · subst hxc;exact ⟨_,JC⟩
    have q:scope.names.lookup x=some .free:=by
      cases e:scope.names.lookup x with
      | none=>rw [e] at hx;simp at hx
      | some kk=>
        rw [e] at hx;simp only [Option.map_some,Option.some.injEq] at hx;by_cases hk:kk= .free
        · rw [hk]
        · have hb:(kk == NameKind.free)=false:=by simpa using hk
          simp only [hb,Bool.false_and,Bool.false_eq_true,if_false] at hx;rcases hx with hx | hx
          · rw [hx] at e;exact absurd (nc x e) hxc
          · exact absurd hx hk
    obtain ⟨c,_,e⟩:=kf x (PySem.mem_of_lookup q);exact ⟨c,(GB hxc).trans e⟩
  · rcases (hf b hb).2.2.2.1 with z | z
    · exact I.ok.noex b o e z
    · exact absurd (Nat.lt_of_lt_of_le (Heap.lt_size (I.ok.bs b o e).1) z) (Nat.lt_irrefl _)
  · have e1:(own++fr.map (·.1))[i]?=some x:=e1;have e2:(Cr own fr σ)[i]?=some (some v):=e2;unfold Cr at e2;by_cases hi:i<own.length
    · rw [List.getElem?_append_left (by simpa using hi),List.getElem?_map] at e2;rw [List.getElem?_eq_getElem hi] at e2;simp at e2
    · rw [List.getElem?_append_right (by simpa using hi),List.getElem?_map,List.length_map] at e2;rw [List.getElem?_append_right (by omega),List.getElem?_map] at e1;cases ep:fr[i - own.length]? with
      | none=>rw [ep] at e1;simp at e1
      | some p=>
        rw [ep] at e1 e2;simp only [Option.map_some,Option.some.injEq] at e1 e2;subst e1;obtain ⟨h1,h2⟩:=S.fr p (List.mem_of_getElem? ep);have e4:σ[p.2]?=some (some v):=by
          cases q:σ[p.2]? with
          | none=>rw [q] at e2;simp at e2
          | some z=>rw [q] at e2;simp at e2;rw [e2]
        have kx:=S.free _ h2 rfl;obtain ⟨m0,hn0,hl0⟩:=I.loc;obtain ⟨u,r,l⟩:=hl0 p.2 p.1 v h1 e4 (kx.elim (λ z=> .inr (.inl z)) λ z=> .inr (.inr z));refine ⟨u,r,?_⟩;rcases l with ⟨z,_⟩ | ⟨_,c,hc,hcell⟩
        · have z:X.env.scope.names.lookup p.1=some .local:=z;rcases kx with y | y <;> (rw [y] at z;cases z)
        · obtain ⟨c',q1,q2⟩:=kf p.1 h2;rw [hc] at q1;cases q1;refine .inr ⟨?_,c,(GB (nx _ h2)).trans q2,ck _ _ hcell⟩;show (compEnvC scope ((cx,s.heap.objs.size+1)::AB X.env.cells scope.names []) s.heap.objs.size X.env).kindOf p.1=some .cell\/(compEnvC scope ((cx,s.heap.objs.size+1)::AB X.env.cells scope.names []) s.heap.objs.size X.env).kindOf p.1=some .free;have e3:(compEnvC scope ((cx,s.heap.objs.size+1)::AB X.env.cells scope.names []) s.heap.objs.size X.env).kindOf p.1=some .local\/(compEnvC scope ((cx,s.heap.objs.size+1)::AB X.env.cells scope.names []) s.heap.objs.size X.env).kindOf p.1=some .cell\/(compEnvC scope ((cx,s.heap.objs.size+1)::AB X.env.cells scope.names []) s.heap.objs.size X.env).kindOf p.1=some .free:=e3;rcases e3 with e3 | e3
          · exfalso;rw [rel] at e3;cases e:scope.names.lookup p.1 with
            | none=>rw [e] at e3;cases e3
            | some kk=>
              rw [e] at e3;simp only [Option.map_some,Option.some.injEq] at e3;by_cases hk:kk= .free
              · subst hk;split at e3 <;> cases e3
              · have hb:(kk == NameKind.free)=false:=by simpa using hk
                simp only [hb,Bool.false_and,Bool.false_eq_true,if_false] at e3;subst e3;have:=S.only p.1 h2;rw [this] at e;cases e
          · exact e3
  · rcases ct x c e with ⟨_,h2⟩ | ⟨_,h2⟩
    · rw [h2];exact ⟨none,hce⟩
    · obtain ⟨v,z⟩:=I.cell x c h2;exact ⟨v,ck _ _ z⟩
  · unfold Cr;show _=(own++fr.map (·.1)).length;simp
end
section
variable {X:Cx}
theorem N6 {cx:Str} {elt tg iter:Expr} {ifs:List Expr} {scope:Scope} {pos:Pos} {own:List Str} {fr:List (Str × Nat)} {g:TG} {tc:TT} {te:TE} (hc:X.calm=true) (S:BlkScopeC X scope cx own fr)
    (hg:∀ C ex s H,PG (Bs X scope cx own fr C ex s H) tg g) (ht:∀ C ex s H,PTs (Bs X scope cx own fr C ex s H) ifs tc) (he:∀ C ex s H,PE (Bs X scope cx own fr C ex s H) elt te)
    {pins:List (Addr × Obj)} {σ:St} {H:Hp} {s:Shared} {it:Addr} {fp:List Addr} {tn:Nat->Heap->Prop} {J:It} {E:Value->Shared->Prop}
    (I:Inv X pins σ H s) (T:Turn X.prog X.w X.K tg J fp it tn) (st:tn 0 s.heap) (hf:∀ b∈fp,Cj X pins H b) {Q:VK}
    (h:∀ D,H D=none->E3 J (Cr own fr σ) g tc te Q H D)
    {RR:Value->Addr->Result->Shared->Prop}
    (hR:∀ D C H' s',Inv X pins σ H' s'->(∃ m,s'.heap.Ns C m)->Cj X pins H' C->Q (.ref D) H'->RR (.ref D) C (.ok .next) s'):
    wpAny (model X.prog X.w) X.A (newList []) (λ acc s₃=>wpAny (model X.prog X.w) X.A (newFunctionEnv scope X.env.globals (AB X.env.cells scope.names []) [] X.env.qual none .none (some X.env)) (λ cenv s₄=>
      codeAny (model X.prog X.w) X.A (.compStart (.ListComp elt [⟨tg,iter,ifs,0⟩] scope pos) 0 (.ref it) acc { cenv with scope:=relabel scope X.env }) (RR acc cenv.locals) s₄) E s₃) E s:=by
  have hDn:H s.heap.objs.size=none:=I.fresh;obtain ⟨W,⟨m0,w0⟩,turn⟩:=h s.heap.objs.size hDn;have I3:Inv X pins σ (upd H s.heap.objs.size (.lst [])) { s with heap:=s.heap.push { cls:= .type "list",data:= .seq ([]:List Value).toArray },toks:=s.toks }:=I.lnew .nil (Nat.zero_le _);refine wpAny_newObj_type ?_;generalize hs3:({ s with heap:=s.heap.push { cls:= .type "list",data:= .seq ([]:List Value).toArray } }:Shared)=s3 at I3 ⊢;have I3:Inv X pins σ (upd H s.heap.objs.size (.lst [])) s3:=I3;have old3:∀ b o,s.heap.get? b=some o->s3.heap.get? b=some o:=λ b o e=>by rw [<-hs3];exact Heap.get?_push_of_some _ e
  have hobj:∀ b∈fp,∃ o,s.heap.get? b=some o/\∀ v,o.data≠ .cell v:=T.obj 0 _ st;have hne:∀ b∈fp,b≠s.heap.objs.size:=λ b hb=>by obtain ⟨o,e,_⟩:=hobj b hb;exact Nat.ne_of_lt (Heap.lt_size e)
  have hf3:∀ b∈fp,Cj X pins (upd H s.heap.objs.size (.lst [])) b:=λ b hb=>⟨by rw [Al (hne b hb)];exact (hf b hb).1,(hf b hb).2⟩;have hlt3:∀ b∈fp,b<s3.heap.objs.size:=λ b hb=>by obtain ⟨o,e,_⟩:=hobj b hb;exact Heap.lt_size (old3 b o e)
  refine K9 S.lay S.push ?_;generalize hh1:((s3.heap.push { cls:= .type "dict",data:= .dict #[] }).push { cls:= .type "cell",data:= .cell none }:Heap)=h₁;have keep:∀ b o,s3.heap.get? b=some o->h₁.get? b=some o:=λ b o e=>by rw [<-hh1];exact Heap.get?_push_of_some _ (Heap.get?_push_of_some _ e)
  have hns:h₁.Ns s3.heap.objs.size (λ _=>none):=by rw [<-hh1];exact (Heap.Ns.new ..).push _
  have hce:h₁.IsCell (s3.heap.objs.size+1) none:=by
    rw [<-hh1];refine ⟨{ cls:= .type "cell",data:= .cell none },?_,rfl⟩;have:=Heap.get?_push_size (s3.heap.push { cls:= .type "dict",data:= .dict #[] }) (o:={ cls:= .type "cell",data:= .cell none }) rfl;rw [Heap.size_push] at this;exact this
  have J0:=I3.blockC (t':=s3.toks) S hf3 hlt3 hns hce keep;have st3:tn 0 h₁:=T.keep 0 _ _ st λ b hb o e=>keep b o (old3 b o e);have loop:codeAny (model X.prog X.w) X.A (.compLoop (.ListComp elt [⟨tg,iter,ifs,0⟩] scope pos) 0 (.ref it) (.ref s.heap.objs.size) (compEnvC scope ((cx,s3.heap.objs.size+1)::AB X.env.cells scope.names []) s3.heap.objs.size X.env))
      (RR (.ref s.heap.objs.size) s3.heap.objs.size) { s3 with heap:=h₁ }:=by
    have stat:∀ {H':Hp},(∀ b∈fp,H' b=none)->∀ b∈fp,Cj (Bs X scope cx own fr s3.heap.objs.size fp s3 (upd H s.heap.objs.size (.lst []))) [] H' b:=λ {H'} hn b hb=>
      ⟨hn b hb,Nat.ne_of_lt (hlt3 b hb),J0.ok.exfs b hb, .inl hb,(J0.ok.exf b hb).2,λ p hp=>absurd (show p∈([]:List (Addr × Obj)) from hp) (by simp)⟩
    refine GQ (λ n s'=>∃ i ys H',Inv (Bs X scope cx own fr s3.heap.objs.size fp s3 (upd H s.heap.objs.size (.lst []))) [] (Cr own fr σ) H' s'/\tn i s'.heap/\(∀ b∈fp,H' b=none)/\W i n ys H') ?_ m0
      ⟨0,[],_,J0,st3,λ b hb=>(hf3 b hb).1,w0⟩
    rintro n s4 ⟨i,ys,H4,I4,st4,fr4,w4⟩;rcases turn i n ys H4 w4 with ⟨stop,q⟩ | ⟨go,N,hN,step⟩
    · refine thn (T.done (Bs X scope cx own fr s3.heap.objs.size fp s3 (upd H s.heap.objs.size (.lst []))) rfl rfl rfl hc i [] s4 _ H4 (λ _ _=>False) I4 (stat fr4) st4 stop) λ r s5 ⟨hr,I5⟩=> ?_;subst hr;obtain ⟨m,hn,_⟩:=id I5.loc;exact hR _ _ H4 s5 (I3.call' I5.os I5.base I5.hok I5.bare λ b hb=>⟨(hf3 b hb).2.2.2.1,(hf3 b hb).2.1,(hf3 b hb).2.2.2.2.1,(hf3 b hb).2.2.2.2.2⟩) ⟨m,hn⟩ (I3.fpOk (Nat.le_refl _) I5.free) q
    · refine thn (T.item (Bs X scope cx own fr s3.heap.objs.size fp s3 (upd H s.heap.objs.size (.lst []))) rfl rfl rfl hc i [] s4 _ H4 (λ _ _=>False) I4 (stat fr4) st4 go) λ r s5 ⟨u,hr,h5⟩=> ?_;subst hr;refine thn h5 λ _ s6 ⟨x,H6,I6,r6,y6,st6,fr6⟩=> ?_;have I6':=I6.pinned (stat fr6) (T.obj _ _ st6);refine thn (hg _ _ _ _ _ s6 _ H6 x u _ I6' r6 (step x H6 y6)) λ _ s7 ⟨σ7,H7,I7,kp,q7⟩=> ?_;refine thn (ht _ _ _ _ _ s7 σ7 H7 _ I7 q7) λ b s8 ⟨H8,I8,q8⟩=> ?_;have again:∀ {s9:Shared} {H9:Hp} {ys':List V},Inv (Bs X scope cx own fr s3.heap.objs.size fp s3 (upd H s.heap.objs.size (.lst []))) ([]++Gs fp s6.heap) σ7 H9 s9->N ys' H9->
          ∃ m,m<n/\∃ i ys H',Inv (Bs X scope cx own fr s3.heap.objs.size fp s3 (upd H s.heap.objs.size (.lst []))) [] (Cr own fr σ) H' s9/\tn i s9.heap/\(∀ b∈fp,H' b=none)/\W i m ys H':=λ {s9 H9 ys'} I9 n9=>by
        obtain ⟨m',hm,w9⟩:=hN ys' H9 n9;refine ⟨m',hm,i+1,ys',H9,I9.unpinned.weak kp.1.symm kp.2,T.keep _ _ _ st6 λ b hb o e=>(I9.pin (b,o) (List.mem_append_right _ (List.mem_append_right _ (B6 hb e)))).1,λ b hb=> ?_,w9⟩;obtain ⟨o,e,d⟩:=T.obj _ _ st6 b hb;exact (I9.pin (b,o) (List.mem_append_right _ (List.mem_append_right _ (B6 hb e)))).2.1
      cases b with
      | false=>
        rw [if_neg Bool.false_ne_true] at q8 ⊢;exact again I8 q8
      | true=>
        rw [if_pos rfl] at q8 ⊢;refine thn (he _ _ _ _ _ s8 σ7 H8 _ I8 q8) λ xv s9 ⟨y,H9,I9,r9,hD,hl,n9⟩=> ?_;refine thn (Gu _ s9 σ7 H9 (.ref s.heap.objs.size) [y] (.ref s.heap.objs.size) [xv] (λ _ H'=>H'=upd H9 s.heap.objs.size (.lst (ys++[y]))) I9 rfl (.cons r9 .nil) ⟨_,ys,y,rfl,rfl,hD,hl,rfl⟩) λ _ s10 ⟨_,H10,I10,_,q10⟩=> ?_;subst q10;exact again I10 n9
  exact codeAny_compStart_list loop (T.self _ 0 _ _ _ st3 loop)
end
noncomputable def Hw (sc:Scope) (N:List Str) (scope:Scope) (cx:Str) (own:List Str) (fr:List (Str × Nat)):Bool:=
  decide (scope.kind= .function)&&
  (scope.names.all λ y=>(decide (y.2≠ .cell)||decide (y.1=cx))&&(decide (y.2≠ .local)||decide (scope.names.lookup y.1=some .local))&&
    (decide (y.2≠ .free)||((decide (sc.names.lookup y.1=some .cell)||decide (sc.names.lookup y.1=some .free))&&decide (scope.names.lookup y.1=some .free))))&&
  (fr.all λ p=>decide (N[p.2]?=some p.1)&&decide ((p.1,NameKind.free)∈scope.names))&&
  decide (scope.names.lookup cx=some .cell)&&decide ((own++fr.map (·.1)).Nodup)
section
variable {X:Cx} {scope:Scope} {cx:Str} {own:List Str} {fr:List (Str × Nat)}
theorem BlkScopeC.of (h:Hw X.env.scope X.N scope cx own fr=true) (lay:∀ n cl,cellsFrom n scope.names cl=(cx,n)::cl) (push:∀ h:Heap,pushCells h scope.names=h.push { cls:= .type "cell",data:= .cell none }):BlkScopeC X scope cx own fr:=by
  unfold Hw at h;simp only [Bool.and_eq_true,List.all_eq_true,decide_eq_true_iff,Bool.or_eq_true] at h;obtain ⟨⟨⟨⟨h1,h2⟩,h3⟩,h4⟩,h5⟩:=h;exact ⟨h1,λ y hy e=>(h2 y hy).1.1.resolve_left (λ z=>z e),h4,lay,push,λ y hy e=>(h2 y hy).1.2.resolve_left (λ z=>z e),λ y hy e=>((h2 y hy).2.resolve_left (λ z=>z e)).1,λ p hp=>h3 p hp,λ x hx=>((h2 _ hx).2.resolve_left (λ z=>z rfl)).2⟩
theorem QU {px:Pos} (h:Hw X.env.scope X.N scope cx [cx] fr=true) (C:Addr) (ex:List Addr) (s:Shared) (H:Hp):PG (Bs X scope cx [cx] fr C ex s H) (.Name cx px) (AE 0):=by
  unfold Hw at h;simp only [Bool.and_eq_true,List.all_eq_true,decide_eq_true_iff,Bool.or_eq_true] at h;have hl:(relabel scope X.env).names.lookup cx=some .cell:=by
    have:=Dz X.env cx scope.names;rw [h.1.2] at this;exact this
  exact Az h.2 rfl (.inr hl) (.inl (beq_self_eq_true cx))
end
section
variable {X:Cx} {K:PySem.W.Frag} {scope:Scope} {fr:List (Str × Nat)}
theorem Nx {elt iter:Expr} {x:Str} {px:Pos} {ifs:List Expr} {pos:Pos} {wi:TI} {tc:TT} {te:TE} (hi:PI X (.Name x px) iter wi)
    (ht:∀ C ex s H,PTs (A8 X scope [x] fr C ex s H) ifs tc) (he:∀ C ex s H,PE (A8 X scope [x] fr C ex s H) elt te)
    (hb:Ex X.env.scope X.N scope [x] fr=true:=by with_unfolding_all rfl) (hc:X.calm=true:=by rfl)
    (hs:∀ x,foldedSetIterable iter X.env x=pure x:=by intro _;rfl):PE X (.ListComp elt [⟨.Name x px,iter,ifs,0⟩] scope pos) (Fc wi [x] fr (AE 0) tc te):=
  JZ hc (.of hb) hi (λ C ex s H=>HQ hb rfl C ex s H) ht he hs
end
section
variable {X:Cx} {e o:Expr} {es:List Expr} {t:TA} {to:TE} {pos:Pos} {S:Addr->Sp->Prop}
end
section
variable {X:Cx} {K:PySem.W.Frag}
end
end L2
namespace HT
open PySem PySem.Spec PyProof.Rows
variable {prog:Program} {w:World} {A:Around} {E:Value->Shared->Prop} {s:Shared}
theorem getItem_tuple_whole {t sl:Addr} {items:Array Value} {vl vu:Value} {lo hi:Option Int} {Q:Value->Shared->Prop} (ht:IsTup s.heap t items) (hs:s.heap.IsSliceOf sl vl vu .none) (pl:IsPart vl lo) (pu:IsPart vu hi)
    (w1:sIx items.size 0 lo=0) (w2:sIx items.size items.size hi=items.size) (h:Q (.ref t) s):wpAny (model prog w) A (getItem (.ref t) (.ref sl)) Q E s:=by
  obtain ⟨os,hos,hcs,hds⟩:=id hs;have hTs:s.TypeIs (.ref sl) "slice":=⟨os,hos,hcs⟩;unfold getItem
  try with_reducible refine wpAny_holding ?_
  first | refine wpAny_bind (wpAny_pure ?_) | skip
  refine wpAny_bind (wpAny_sequenceKey ht.typeIs (by decide) ?_);refine wpAny_bind (wpAny_callSpecial?_slot (name:=Str.ofString "__getitem__") ht.typeIs PyProof.Rows.slot_tuple_getitem
    (wpAny_call_entry PyProof.Rows.slot_tuple_getitem ht.typeIs entry_tuple_getitem ?_ (args_tuple_getitem _ _)))
  show wpAny _ _ (Builtin.Tuple.tupleItemsOf (.ref t) >>= _) _ _ s;refine wpAny_bind (tupleItemsOf_ ht ?_);refine wpAny_bind (wpAny_typeOf hTs ?_);rw [if_pos (by decide)];refine wpAny_bind (De hs pl pu ?_);have hyes:(((sIx items.size 0 lo:Nat):Int) == 0&&(1:Int) == 1&&(sIx items.size items.size hi - sIx items.size 0 lo) == items.size)=true:=by
    rw [w1,w2];simp
  show wpAny _ _ (if (((sIx items.size 0 lo:Nat):Int) == 0&&(1:Int) == 1&&(sIx items.size items.size hi - sIx items.size 0 lo) == items.size)=true then _ else _) _ _ s;rw [if_pos hyes];unfold Builtin.Tuple.tupleIsExact;refine wpAny_bind (wpAny_bind (wpAny_typeOf ht.typeIs (wpAny_pure ?_)));rw [if_pos (by decide)];exact wpAny_bind (wpAny_rule (wpAny_pure ⟨_,rfl,wpAny_pure h⟩))
end HT
namespace L2
open PySem PySem.Spec PyProof.Rows
def VY (K:PySem.W.Frag):V->Option Int->Option Int->Hp->VK->Prop:=λ x lo hi H Q=>∃ a xs,x= .ref a/\SqT K H a xs/\∀ H' p,Same H H'->SqT K H' p (Fs xs lo hi)->Q (.ref p) H'
theorem Ng {X:Cx} {K:PySem.W.Frag} (hK:X.K=K:=by rfl):SlR X (VY K):=by
  subst hK;intro pins s σ H x v vl vu lo hi sl Q I rx hs pl pu h;obtain ⟨a,xs,rfl,hx,q⟩:=h;by_cases hw:HT.sIx xs.length 0 lo=0/\HT.sIx xs.length xs.length hi=xs.length
  · cases rx;obtain ⟨its,r,ht,hz⟩:=I.tuple hx;have hlen:its.toArray.size=xs.length:=by rw [List.size_toArray];exact r.length.symm
    refine ⟨"tuple",_,PyProof.Rows.slot_tuple_getitem.lookup,ht.typeIs,?_⟩;refine HT.getItem_tuple_whole ht hs pl pu (by rw [hlen];exact hw.1) (by rw [hlen];exact hw.2) ?_;have e:Fs xs lo hi=xs:=by
      unfold Fs;rw [hw.1,hw.2,List.drop_zero,Nat.sub_zero,List.take_of_length_le (Nat.le_refl _)]
    exact ⟨.ref a,H,I,rfl,q H a (Same.refl _) (by rw [e];exact hx)⟩
  · exact SC pins s σ H _ v vl vu lo hi sl Q I rx hs pl pu ⟨a,xs,rfl,hx,hw,λ p hp=>q _ p (Ai hp) (SqT.of Af)⟩
theorem Kz {K:PySem.W.Frag} {H:Hp} {Q:VK} {a:Addr} {xs:List V} {lo hi:Option Int} (c:SqT K H a xs) (h:∀ H' p,Same H H'->SqT K H' p (Fs xs lo hi)->Q (.ref p) H'):VY K (.ref a) lo hi H Q:=⟨a,xs,rfl,c,h⟩
theorem NB (as bs:List Str):Fz (as.map V.str) (bs.map V.str)=decide (as=bs):=by
  rw [Bool.eq_iff_iff,decide_eq_true_iff];unfold Fz;simp only [Bool.and_eq_true,beq_iff_eq,List.length_map,List.all_eq_true,List.mem_range];constructor
  · rintro ⟨h1,h2⟩;refine List.ext_getElem h1 λ i ha hb=> ?_;have h3:=h2 i ha;rw [Ge (by simpa using ha),Ge (by simpa using hb)] at h3;have h4:(as.getD i Str.empty == bs.getD i Str.empty)=true:=h3;rw [beq_iff_eq,G6 ha,G6 hb] at h4;exact h4
  · rintro rfl;refine ⟨rfl,λ i hi=> ?_⟩;rw [Ge (by simpa using hi)];show (as.getD i Str.empty == as.getD i Str.empty)=true;rw [beq_iff_eq]
def DK {α:Type}:Sem α->Prop
  | .rule _ k=>DK (k ())
  | .at _ k=>DK (k ())
  | .load _ _ k=>∀ o,DK (k o)
  | .update _ _ f k=>(∀ o,(f o).dict=o.dict)/\DK (k ())
  | .loadIfAlive _ k=>∀ o,DK (k o)
  | .point _ k=>DK (k ())
  | .alloc _ k=>∀ a,DK (k a)
  | .fresh k=>∀ t,DK (k t)
  | .ask k=>∀ t,DK (k t)
  | .choose _ _ k=>∀ t,DK (k t)
  | .os _ _ k=>∀ t,DK (k t)
  | .call .. => False
  | .handled _ k=>∀ t,DK (k t)
  | .genState _ k=>∀ t,DK (k t)
  | .newGen _ k=>∀ t,DK (k t)
  | .resume .. => False
  | .stack k=>∀ t,DK (k t)
  | .thread k=>∀ t,DK (k t)
  | _=>True
def KD (h h':Heap):Prop:=∀ (b:Nat) (o:Obj),h.objs[b]?=some o->∃ o',h'.objs[b]?=some o'/\o'.dict=o.dict
theorem KD.refl (h:Heap):KD h h:=λ b o e=>⟨o,e,rfl⟩
theorem KD.trans {h h1 h2:Heap} (a:KD h h1) (b:KD h1 h2):KD h h2:=λ c o e=>by
  obtain ⟨o1,e1,d1⟩:=a c o e;obtain ⟨o2,e2,d2⟩:=b c o1 e1;exact ⟨o2,e2,d2.trans d1⟩
theorem P6 {h:Heap} {b:Addr} {o:Obj} (e:h.get? b=some o):h.objs[b]?=some o:=by
  unfold Heap.get? at e;split at e
  · cases e
  · exact e
theorem KD.at' {h h':Heap} (k:KD h h') {b:Addr} {o o':Obj} (e:h.get? b=some o) (e':h'.get? b=some o'):o'.dict=o.dict:=by
  obtain ⟨o1,e1,d1⟩:=k b o (P6 e);rw [P6 e'] at e1;cases e1;exact d1
theorem KD.push (h:Heap) (o:Obj):KD h (h.push o):=λ b u e=>by
  refine ⟨u,?_,rfl⟩;show (h.objs.push o)[b]?=some u;have hb:b<h.objs.size:=(Array.getElem?_eq_some_iff.mp e).1;rw [Array.getElem?_push_lt hb];rw [Array.getElem?_eq_getElem hb] at e;exact e
theorem KD.upd (h:Heap) (a:Addr) {f:Obj->Obj} (hf:∀ o,(f o).dict=o.dict):KD h (h.update a f):=λ b u e=>by
  have hb:b<h.objs.size:=(Array.getElem?_eq_some_iff.mp e).1;show ∃ o',(h.objs.modify a f)[b]?=some o'/\_;rw [Array.getElem?_modify,e];by_cases q:a=b
  · rw [if_pos q];exact ⟨f u,rfl,hf u⟩
  · rw [if_neg q];exact ⟨u,rfl,rfl⟩
theorem ZP {α:Type} {M:Model} {Γ:PySem.Ctx}:∀ (t:Sem α) (Q:α->Pos->Shared->Prop) (E:Value->Pos->Shared->Prop) (p:Pos) (s s0:Shared),DK t->KD s0.heap s.heap->Sem.wp M Γ t Q E p s->
    Sem.wp M Γ t (λ a p s'=>Q a p s'/\KD s0.heap s'.heap) (λ a p s'=>E a p s'/\KD s0.heap s'.heap) p s:=by
  intro t
  induction t with
  | pure a=>intro Q E p s s0 _ k h;rw [Sem.wp] at h ⊢;exact ⟨h,k⟩
  | raise e=>intro Q E p s s0 _ k h;rw [Sem.wp] at h ⊢;exact ⟨h,k⟩
  | unsupported w=>intro Q E p s s0 _ k h;rw [Sem.wp] at h;exact h.elim
  | finish e=>intro Q E p s s0 _ k h;rw [Sem.wp] at h;exact h.elim
  | rule t k ih=>intro Q E p s s0 d k h;rw [Sem.wp] at h ⊢;exact ih () Q E p s s0 d k h
  | «at» t k ih=>intro Q E p s s0 d k h;rw [Sem.wp] at h ⊢;exact ih () Q E _ s s0 d k h
  | load a part k ih=>
    intro Q E p s s0 d k h;rw [Sem.wp] at h ⊢;obtain ⟨o,e,h⟩:=h;exact ⟨o,e,ih o Q E p s s0 (d o) k h⟩
  | update a part f k ih=>
    intro Q E p s s0 d k h;rw [Sem.wp] at h ⊢;exact ⟨h.1,ih () Q E p _ s0 d.2 (k.trans (KD.upd s.heap a d.1)) h.2⟩
  | alloc o k ih=>intro Q E p s s0 d k h;rw [Sem.wp] at h ⊢;exact ih _ Q E p _ s0 (d _) (k.trans (KD.push _ _)) h
  | loadIfAlive a k ih=>intro Q E p s s0 d k h;rw [Sem.wp] at h ⊢;exact ih _ Q E p _ s0 (d _) k h
  | point l k ih=>intro Q E p s s0 d k h;rw [Sem.wp] at h ⊢;exact ih _ Q E p _ s0 d k h
  | register a k ih=>intro Q E p s s0 d k h;rw [Sem.wp] at h;exact h.elim
  | fresh k ih=>intro Q E p s s0 d k h;rw [Sem.wp] at h ⊢;exact ih _ Q E p _ s0 (d _) k h
  | ask k ih=>intro Q E p s s0 d k h;rw [Sem.wp] at h ⊢;exact ih _ Q E p _ s0 (d _) k h
  | choose a n k ih=>intro Q E p s s0 d k h;rw [Sem.wp] at h ⊢;exact ⟨h.1,ih _ Q E p _ s0 (d _) k h.2⟩
  | os a n k ih=>intro Q E p s s0 d k h;rw [Sem.wp] at h ⊢;exact ih _ Q E p _ s0 (d _) k h
  | call c a b l k ih=>intro Q E p s s0 d k h;exact d.elim
  | handled a k ih=>intro Q E p s s0 d k h;rw [Sem.wp] at h ⊢;exact ih _ Q E p _ s0 (d _) k h
  | newGen c k ih=>intro Q E p s s0 d k h;rw [Sem.wp] at h ⊢;exact ih _ Q E p _ s0 (d _) k h
  | genState g k ih=>
    intro Q E p s s0 d k h;rw [Sem.wp] at h ⊢;obtain ⟨st,e,h⟩:=h;exact ⟨st,e,ih _ Q E p s s0 (d _) k h⟩
  | resume g r l k ih=>intro Q E p s s0 d k h;exact d.elim
  | yield v g l k ih=>intro Q E p s s0 d k h;rw [Sem.wp] at h;exact h.elim
  | stack k ih=>intro Q E p s s0 d k h;rw [Sem.wp] at h ⊢;exact ih _ Q E p _ s0 (d _) k h
  | fork c k ih=>intro Q E p s s0 d k h;rw [Sem.wp] at h;exact h.elim
  | thread k ih=>intro Q E p s s0 d k h;rw [Sem.wp] at h ⊢;exact ih _ Q E p _ s0 (d _) k h
  | await a t b l k ih=>intro Q E p s s0 d k h;rw [Sem.wp] at h;exact h.elim
theorem Dh {α:Type} {M:Model} {A:Around} {t:Sem α} {Q:α->Shared->Prop} {E:Value->Shared->Prop} {s:Shared} (d:DK t) (h:wpAny M A t Q E s):wpAny M A t (λ a s'=>Q a s'/\KD s.heap s'.heap) (λ e s'=>E e s'/\KD s.heap s'.heap) s:=
  λ Γ p hΓ=>ZP t _ _ p s s d (KD.refl _) (h Γ p hΓ)
theorem DK.bind {α β:Type} {f:α->Sem β}:∀ {t:Sem α},DK t->(∀ a,DK (f a))->DK (t >>= f):=by
  intro t;show _->_->DK (Sem.bind t f)
  induction t with
  | pure a=>intro _ h;exact h a
  | raise e=>intro _ _;trivial
  | unsupported w=>intro _ _;trivial
  | finish e=>intro _ _;trivial
  | rule t k ih=>intro d h;exact ih () d h
  | «at» t k ih=>intro d h;exact ih () d h
  | load a part k ih=>intro d h o;exact ih o (d o) h
  | update a part f k ih=>intro d h;exact ⟨d.1,ih () d.2 h⟩
  | alloc o k ih=>intro d h a;exact ih a (d a) h
  | loadIfAlive a k ih=>intro d h o;exact ih o (d o) h
  | point l k ih=>intro d h;exact ih () d h
  | register a k ih=>intro _ _;trivial
  | fresh k ih=>intro d h o;exact ih o (d o) h
  | ask k ih=>intro d h o;exact ih o (d o) h
  | choose a n k ih=>intro d h o;exact ih o (d o) h
  | os a n k ih=>intro d h o;exact ih o (d o) h
  | call c a b l k ih=>intro d h;exact d.elim
  | handled a k ih=>intro d h o;exact ih o (d o) h
  | newGen c k ih=>intro d h o;exact ih o (d o) h
  | genState g k ih=>intro d h o;exact ih o (d o) h
  | resume g r l k ih=>intro d h;exact d.elim
  | yield v g l k ih=>intro _ _;trivial
  | stack k ih=>intro d h o;exact ih o (d o) h
  | fork c k ih=>intro _ _;trivial
  | thread k ih=>intro d h o;exact ih o (d o) h
  | await a t b l k ih=>intro _ _;trivial
theorem AY {α:Type} (a:α):DK (pure a:Sem α):=trivial
theorem CT {α:Type} (w:String):DK (unsupported w:Sem α):=trivial
theorem J6 (a:Addr):DK (load a):=λ _=>trivial
theorem K8 (v:Value):DK (fieldsOf v):=by
  unfold fieldsOf;split
  · refine DK.bind (J6 _) λ o=> ?_;split
    · exact AY _
    · exact CT _
  · exact CT _
theorem FI (v:Value) (i:Nat):DK (field v i):=by
  unfold field;refine DK.bind (K8 v) λ vs=> ?_;split
  · exact AY _
  · exact CT _
theorem Hl (f:Array Value->Array Value) (o:Obj):(Obj.mapFields f o).dict=o.dict:=by
  unfold Obj.mapFields;split <;> rfl
theorem Jm (a:Addr) {f:Obj->Obj} (h:∀ o,(f o).dict=o.dict):DK (update a f):=⟨h,trivial⟩
theorem En (v:Value) (i:Nat) (x:Value):DK (setField v i x):=by
  unfold setField;split
  · unfold updateField;refine DK.bind (J6 _) λ o=> ?_;split
    · split
      · exact Jm _ (Hl _)
      · exact CT _
    · exact CT _
  · exact CT _
theorem Ip:DK (stack):=λ _=>trivial
theorem Em {α:Type} {c:Prop} [Decidable c] {x y:Sem α} (hx:DK x) (hy:DK y):DK (if c then x else y):=by
  split
  · exact hx
  · exact hy
theorem DS (e:Value) (f:Option Addr):DK (setFlight e f):=by
  unfold setFlight;refine DK.bind (FI _ _) λ tb=> ?_;exact Em (En _ _ _) (AY _)
theorem Od (env:Env) (outer:List Env):DK (behindIsImport env outer):=by
  unfold behindIsImport;refine Em (AY _) (Em (AY _) ?_);exact DK.bind (FI _ _) λ _=>AY _
theorem Q8 (env:Env) (i:Bool) (l:List Env):DK (keptBack env i l):=by
  unfold keptBack;split
  · refine Em (AY _) ?_;unfold underTheClaimsCaller;exact DK.bind (DK.bind Ip λ _=>AY _) λ _=>AY _
  · exact AY _
theorem LH:∀ l:List Env,DK (readyFrames l)
  | []=>trivial
  | env::outer=>by
    unfold readyFrames;split
    · refine DK.bind (J6 _) λ o=> ?_;refine Em (AY _) ?_;refine DK.bind (Od _ _) λ _=>DK.bind (Q8 _ _ _) λ _=>DK.bind (Jm _ λ _=>rfl) λ _=>LH outer
    · exact CT _
theorem Mu (env:Env):DK (PySem.frameOf env):=by
  unfold PySem.frameOf;refine DK.bind ?_ λ _=>DK.bind ?_ λ o=> ?_
  · unfold frameEnvs;exact DK.bind Ip λ _=>AY _
  · unfold frameObject;split
    · exact AY _
    · exact DK.bind (LH _) λ _=>AY _
  · split
    · exact AY _
    · exact CT _
theorem JV (ty:String) (vs:List Value):DK (newFields ty vs):=by
  unfold newFields newObj;have hj:DK (newObjAsIs (.type ty) (.fields vs.toArray)):=by
    unfold newObjAsIs;exact λ _=>trivial
  exact Em (DK.bind (CT _) λ _=>hj) hj
theorem P5 (f:Addr) (b:Bool):DK (entryPlaceOf f b):=by
  unfold entryPlaceOf;refine DK.bind Ip λ _=> ?_;split
  · exact AY _
  · exact AY _
theorem MV (e:Value) (env:Env):DK (noteFrame e env):=by
  unfold noteFrame;split
  · rename_i f _
    refine DK.bind (FI _ _) λ head=> ?_;have hj:DK (do
        let fr <-PySem.frameOf env;let pl <-entryPlaceOf f (head != Value.none);let b <-EntryCells.newEntry head fr Value.none (rawInt f) Value.none pl
        setField e 1 b):=DK.bind (Mu env) λ _=>DK.bind (P5 _ _) λ _=>DK.bind (JV _ _) λ _=>En _ _ _
    refine Em (DK.bind (FI _ _) λ _=>Em (AY _) (DK.bind (En _ _ _) λ _=>hj)) hj
  · exact CT _
theorem FA (env:Env) (e:Value):DK (leaving env e):=by
  unfold leaving;exact DK.bind (MV _ _) λ _=>DS _ _
section
variable {M:Model} {A:Around} {E:Value->Shared->Prop} {s:Shared}
theorem Ma {base:Heap} {env:Env} {outer:List Env} {L e:Addr} {cls a0:Value} {Q:Unit->Shared->Prop} (hfr:A.frames=some (env::outer)) (hf:env.frame=some L) (hfl:Heap.FlyingW base (env::outer) e cls a0 s.heap)
    (hQ:∀ h',Heap.FlyingW base outer e cls a0 h'->s.heap.UpToSlots h'->KD s.heap h'->Q () { s with heap:=h' }):wpAny M A (leaving env (.ref e)) Q E s:=
  wpAny_mono (Dh (FA env (.ref e)) (wpAny_leaves_onW (Q:=λ _ s'=>∃ h',s'={ s with heap:=h' }/\Heap.FlyingW base outer e cls a0 h'/\s.heap.UpToSlots h') hfr hf hfl λ h' a b=>⟨h',rfl,a,b⟩))
    (λ _ _ ⟨⟨h',e,a,b⟩,k⟩=>by subst e;exact hQ h' a b k) λ _ _ z=>z.1
theorem Ko {base h:Heap} {env:Env} {outer:List Env} {L e:Addr} {cls:Value} {args:List Value} {Q:Unit->Shared->Prop}
    (hfr:A.frames=some (env::outer)) (hf:env.frame=some L) (hkb:base.StaysIn h) (hl:h.FunFrames base (env::outer)) (hx:Heap.MadeExcOf h s.heap e cls args)
    (hQ:∀ h' t,Heap.FlyingW base outer e cls (.ref t) h'->s.heap.UpToSlots h'->KD s.heap h'->Q () { s with heap:=h' }):wpAny M A (leaving env (.ref e)) Q E s:=
  wpAny_mono (Dh (FA env (.ref e)) (wpAny_leaves_madeW (Q:=λ _ s'=>∃ h' t,s'={ s with heap:=h' }/\Heap.FlyingW base outer e cls (.ref t) h'/\s.heap.UpToSlots h') hfr hf hkb hl hx λ h' t a _ _ b=>⟨h',t,rfl,a,b⟩))
    (λ _ _ ⟨⟨h',t,e,a,b⟩,k⟩=>by subst e;exact hQ h' t a b k) λ _ _ z=>z.1
theorem Nw {base:Heap} {env:Env} {outer:List Env} {L e:Addr} {cls a0:Value} {Q:Unit->Shared->Prop} (hfr:A.frames=some (env::outer)) (hf:env.frame=some L) (hfl:Heap.FlyingW base (env::outer) e cls a0 s.heap)
    (hQ:∀ h',Heap.HeldW base (env::outer) e cls a0 L h'->s.heap.UpToSlots h'->KD s.heap h'->Q () { s with heap:=h' }):wpAny M A (noteFrame (.ref e) env) Q E s:=
  wpAny_mono (Dh (MV (.ref e) env) (wpAny_looks_onW (Q:=λ _ s'=>∃ h',s'={ s with heap:=h' }/\Heap.HeldW base (env::outer) e cls a0 L h'/\s.heap.UpToSlots h') hfr hf hfl λ h' a b=>⟨h',rfl,a,b⟩))
    (λ _ _ ⟨⟨h',e,a,b⟩,k⟩=>by subst e;exact hQ h' a b k) λ _ _ z=>z.1
theorem TW {base:Heap} {l:List Env} {e L:Addr} {cls a0:Value} {Q:Unit->Shared->Prop} (hh:Heap.HeldW base l e cls a0 L s.heap)
    (hQ:∀ h',Heap.FlyingW base l e cls a0 h'->s.heap.UpToSlots h'->KD s.heap h'->Q () { s with heap:=h' }):wpAny M A (setFlight (.ref e) none) Q E s:=
  wpAny_mono (Dh (DS (.ref e) none) (wpAny_landsW (Q:=λ _ s'=>∃ h',s'={ s with heap:=h' }/\Heap.FlyingW base l e cls a0 h'/\s.heap.UpToSlots h') hh λ h' a b=>⟨h',rfl,a,b⟩))
    (λ _ _ ⟨⟨h',e,a,b⟩,k⟩=>by subst e;exact hQ h' a b k) λ _ _ z=>z.1
theorem Q2 {base:Heap} {l:List Env} {e:Addr} {cls a0 fl:Value} {Q:Unit->Shared->Prop} (hkb:base.StaysIn s.heap) (hl:s.heap.FunFrames base l) (ht:s.heap.TracedAtW base e cls a0 fl)
    (h:∀ h',base.StaysIn h'->h'.FunFrames base l->h'.TracedW base e cls a0->(∀ b o,s.heap.get? b=some o->(∀ vs,o.data≠ .fields vs)->h'.get? b=some o)->KD s.heap h'->Q () { s with heap:=h' }):
    wpAny M A (setFlight (.ref e) none) Q E s:=
  wpAny_mono (Dh (DS (.ref e) none) (wpAny_setFlight_noneW (Q:=λ _ s'=>∃ h',s'={ s with heap:=h' }/\base.StaysIn h'/\h'.FunFrames base l/\h'.TracedW base e cls a0/\∀ b o,s.heap.get? b=some o->(∀ vs,o.data≠ .fields vs)->h'.get? b=some o) hkb hl ht λ h' a b c d=>⟨h',rfl,a,b,c,d⟩))
    (λ _ _ ⟨⟨h',e,a,b,c,d⟩,k⟩=>by subst e;exact h h' a b c d k) λ _ _ z=>z.1
def DictIs (h:Heap) (a:Addr) (od:Option Addr):Prop:=∃ o,h.get? a=some o/\o.dict=od
theorem DictIs.on {h h':Heap} {a:Addr} {od:Option Addr} (x:DictIs h a od) (k:KD h h') (t:∃ o,h'.get? a=some o):DictIs h' a od:=by
  obtain ⟨o,e,d⟩:=x;obtain ⟨o',e'⟩:=t;exact ⟨o',e',(k.at' e e').trans d⟩
end
theorem HOk.on {P:Program} {w:World} {H:Hp} {h h':Heap} (x:HOk P w H h) (k:∀ b u,H b≠none->h.get? b=some u->h'.get? b=some u):HOk P w H h':=λ a o e=>
  (x a o e).stay (λ b u hb q=>k b u (by
    rcases hb with rfl | hb
    · rw [e];exact λ z=>by cases z
    · rw [hb];exact λ z=>by cases z) q) (λ _ q=>q) λ _ _ q=>q
theorem HL {P:Program} {w:World} {H:Hp} {h:Heap} {a:Addr} {o:HO} (x:ObjOk P w H h a o):∃ u,h.get? a=some u:=by
  cases o with
  | lst xs=>obtain ⟨_,_,_,_,e⟩:=x;exact ⟨_,e⟩
  | tup xs=>obtain ⟨_,_,_,o,e,_⟩:=x;exact ⟨_,e⟩
  | dK kvs=>obtain ⟨_,_,_,_,o,_,_,e,_⟩:=x;exact ⟨_,e⟩
  | dT kvs=>obtain ⟨_,_,_,_,o,_,_,e,_⟩:=x;exact ⟨_,e⟩
  | set S n=>obtain ⟨o,_,_,_,e,_⟩:=x;exact ⟨_,e⟩
  | ins C dx fs=>obtain ⟨_,_,_,e,_⟩:=x;exact ⟨_,e⟩
  | own y=>exact x
  | xd fs=>obtain ⟨_,⟨_,_,_,e,_⟩,_⟩:=x;exact ⟨_,e⟩
  | rng lo hi=>obtain ⟨_,_,_,e⟩:=x;exact ⟨_,e⟩
  | frz ob u=>obtain ⟨e,_⟩:=x;exact ⟨_,e⟩
  | tbl ps=>exact ⟨_,(show h.get? a=some _ from x)⟩
  | met f y=>exact ⟨_,(show h.get? a=some _ from x)⟩
  | ext φ=>obtain ⟨_,e,_⟩:=x;exact e
def Vt (outer:List Env) (s:Shared) (H':Hp) (a C t:Addr) (s':Shared):Prop:=
  ∃ B:Heap,B.FlyingW outer a (.ref C) (.ref t) s'.heap/\∀ b,(H' b≠none\/∃ o,s.heap.get? b=some o)->b∉frs outer->∀ o,s'.heap.get? b=some o->B.get? b=some o
def CXE (P:Program) (w:World):CXT:=λ outer H s E e s'=>
  ∃ a C t od H',e= .ref a/\s'.os=s.os/\AllBare s'.gens/\Un (frs outer) [] H H' s.heap s'.heap/\HOk P w H' s'.heap/\Vt outer s H' a C t s'/\DictIs s'.heap a od/\E (.ref C) od H'
theorem El {env:Env} {L:Addr} {outer:List Env} (h:env.frame=some L):frs (env::outer)=L::frs outer:=by
  unfold frs;rw [List.filterMap_cons,h]
theorem Bj {h base:Heap}:∀ {l:List Env} {b:Addr},h.FunFrames base l->b∈frs l->base.get? b=none/\∃ o,h.get? b=some o/\∀ vs,o.data≠ .fields vs
  | [],b,_,hb=>by cases hb
  | env::l,b,⟨_,⟨L,o,e1,e2,e3,e4⟩,r⟩,hb=>by
    rw [El e1] at hb;rcases List.mem_cons.mp hb with rfl | hb
    · exact ⟨e2,o,e3,e4⟩
    · exact Bj r hb
theorem Nv {P:Program} {w:World} {K:PySem.W.Frag} {mg:Str->Option Value} {base:Heap} {N:List Str} {qual:Str} {scope:Scope} {f:Addr} {cd:Value} {A:Around} {outer:List Env} {s₀:Shared} {H₀:Hp} {E E':XK}
    (hE:∀ c o H,E c o H->E' c o H):BA (CXE P w) (B0 (CXE P w) P w K mg base N qual scope f cd A outer s₀ H₀ E') E:=by
  intro pins σ H s e s' I h;obtain ⟨a,C,t,od,H',rfl,os,bare,un,hok,⟨B,fl,cov⟩,di,q⟩:=h;have hfr:(envOfC qual scope s₀.heap.objs.size f cd).frame=some s₀.heap.objs.size:=rfl;have hfs:frs (envOfC qual scope s₀.heap.objs.size f cd::outer)=s₀.heap.objs.size::frs outer:=El hfr;refine Ma I.ok.frames hfr fl λ h' fl' ups kd=> ?_;have ib:Un (frs outer) [] H₀ H s₀.heap s.heap:=I.base;have nl:∀ b o,s₀.heap.get? b=some o->b≠s₀.heap.objs.size:=λ b o e=>Nat.ne_of_lt (Heap.lt_size e);have toB:∀ b,(H' b≠none\/∃ o,s.heap.get? b=some o)->b∉frs (envOfC qual scope s₀.heap.objs.size f cd::outer)->∀ o,s'.heap.get? b=some o->h'.get? b=some o:=λ b hb hn o e=>fl'.1 b o (cov b hb hn o e);have untr:∀ b,b∈frs (envOfC qual scope s₀.heap.objs.size f cd::outer)->H' b=none:=λ b hb=>by
    obtain ⟨_,o,e,_⟩:=Bj I.stack hb;exact un.free b o e (I.stkFree b hb) (by simp)
  have hok':HOk P w H' h':=hok.on λ b u hb e=>by
    refine toB b (.inl hb) (λ z=>hb (untr b z)) u e
  refine ⟨a,C,t,od,H',rfl,os.trans I.os,bare,?_,hok',⟨B,fl',λ b hb hn o e=> ?_⟩,di.on kd (let ⟨o,e,_⟩:=fl'.there;⟨o,e⟩),hE _ _ _ q⟩
  · have notin:∀ b o,s₀.heap.get? b=some o->b∉frs outer->b∉frs (envOfC qual scope s₀.heap.objs.size f cd::outer):=λ b o e hn z=>by
      rw [hfs] at z;rcases List.mem_cons.mp z with z | z
      · exact nl b o e z
      · exact hn z
    have isin:∀ b,b∈frs outer->b∈frs (envOfC qual scope s₀.heap.objs.size f cd::outer):=λ b hb=>by rw [hfs];exact List.mem_cons_of_mem _ hb
    refine ⟨λ b o e hH hn _=> ?_,λ b o e hH hb _=> ?_,λ b o e hH _=> ?_,λ b o e _=> ?_,λ b xs e=>un.tups b xs (ib.tups b xs e),λ b o u e=>un.frzs b o u (ib.frzs b o u e),λ b ps e=> ?_⟩
    · have e1:=ib.keep b o e hH hn (by simp);exact toB b (.inr ⟨o,e1⟩) (notin b o e hn) o (un.keep b o e1 (ib.free b o e hH (by simp)) (notin b o e hn) (by simp))
    · obtain ⟨sl,e1⟩:=ib.slot b o e hH hb (by simp);obtain ⟨sl2,e2⟩:=un.slot b _ e1 (ib.free b o e hH (by simp)) (isin b hb) (by simp);obtain ⟨_,o',e',nf⟩:=Bj fl.2.2.1 (isin b hb);rw [e2] at e';cases e';obtain ⟨sl3,e3⟩:=ups b _ e2 nf;exact ⟨sl3,e3⟩
    · obtain ⟨o1,e1⟩:=ib.there b o e (by simp);exact un.free b o1 e1 (ib.free b o e hH (by simp)) (by simp)
    · obtain ⟨o1,e1⟩:=ib.there b o e (by simp);obtain ⟨o2,e2⟩:=un.there b o1 e1 (by simp);by_cases hb:b∈frs outer
      · obtain ⟨_,o',e',nf⟩:=Bj fl.2.2.1 (isin b hb);obtain ⟨sl3,e3⟩:=ups b _ e' nf;exact ⟨_,e3⟩
      · exact ⟨o2,toB b (.inr ⟨o1,e1⟩) (notin b o e hb) o2 e2⟩
    · obtain ⟨m1,e1⟩:=ib.tbls b ps e;obtain ⟨m2,e2⟩:=un.tbls b _ e1;exact ⟨m1++m2,by rw [e2,Array.append_assoc]⟩
  · have hn2:b∉frs (envOfC qual scope s₀.heap.objs.size f cd::outer):=λ z=>by
      have z0:=z;rw [hfs] at z;rcases List.mem_cons.mp z with z | z
      · rcases hb with hb | ⟨o1,e1⟩
        · exact hb (untr b z0)
        · exact nl b o1 e1 z
      · exact hn z
    obtain ⟨o2,e2,hb2⟩:∃ o2,s'.heap.get? b=some o2/\(H' b≠none\/∃ o,s.heap.get? b=some o):=by
      rcases hb with hb | ⟨o1,e1⟩
      · cases hx:H' b with
        | none=>exact absurd hx hb
        | some u=>
          obtain ⟨o2,e2⟩:=HL (hok b u hx);exact ⟨o2,e2, .inl (λ z=>by cases z)⟩
      · obtain ⟨o3,e3⟩:=ib.there b o1 e1 (by simp);obtain ⟨o2,e2⟩:=un.there b o3 e3 (by simp);exact ⟨o2,e2, .inr ⟨o3,e3⟩⟩
    have e3:=cov b hb2 hn2 o2 e2;have e4:=fl'.1 b o2 e3;rw [show h'.get? b=some o from e] at e4;cases e4;exact e3
theorem Go {h base B:Heap}:∀ {l:List Env},h.FunFrames base l->(∀ b∈frs l,B.get? b=none)->h.FunFrames B l
  | [],_,_=>trivial
  | env::l,⟨k,⟨L,o,e1,e2,e3,e4⟩,r⟩,hb=>by
    rw [El e1] at hb;exact ⟨k,⟨L,o,e1,hb L (List.mem_cons_self ..),e3,e4⟩,Go r λ b h'=>hb b (List.mem_cons_of_mem _ h')⟩
section
variable {P:Program} {w:World} {K:PySem.W.Frag} {mg:Str->Option Value} {base:Heap} {N:List Str} {qual:Str} {scope:Scope} {f:Addr} {cd:Value} {A:Around} {outer:List Env} {s₀:Shared} {H₀:Hp} {E:XK}
theorem Pi {pins:List (Addr × Obj)} {σ:St} {H:Hp} {s:Shared} {e C:Addr} {vs:List Value} {h':Heap} (I:Inv (B0 (CXE P w) P w K mg base N qual scope f cd A outer s₀ H₀ E) pins σ H s) (mk:Heap.MadeExcOf s.heap h' e (.ref C) vs) (q:E (.ref C) none H):
    (B0 (CXE P w) P w K mg base N qual scope f cd A outer s₀ H₀ E).xe (.ref e) { s with heap:=h' }:=by
  have hfr:(envOfC qual scope s₀.heap.objs.size f cd).frame=some s₀.heap.objs.size:=rfl;have hfs:frs (envOfC qual scope s₀.heap.objs.size f cd::outer)=s₀.heap.objs.size::frs outer:=El hfr;refine Ko (base:=PySem.W.hideAll s.heap (frs (envOfC qual scope s₀.heap.objs.size f cd::outer))) (h:=s.heap) I.ok.frames hfr (λ b o e=>PySem.W.of_hideAll _ e) (Go I.stack λ b hb=>PySem.W.hideAll_none _ hb) mk λ h2 t fl ups kd=> ?_;have ib:Un (frs outer) [] H₀ H s₀.heap s.heap:=I.base;have nl:∀ b o,s₀.heap.get? b=some o->b≠s₀.heap.objs.size:=λ b o e=>Nat.ne_of_lt (Heap.lt_size e);have inB:∀ b o,s.heap.get? b=some o->b∉frs (envOfC qual scope s₀.heap.objs.size f cd::outer)->h2.get? b=some o:=λ b o e hn=>fl.1 b o (PySem.W.hideAll_get _ e hn);have notin:∀ b o,s₀.heap.get? b=some o->b∉frs outer->b∉frs (envOfC qual scope s₀.heap.objs.size f cd::outer):=λ b o e hn z=>by
    rw [hfs] at z;rcases List.mem_cons.mp z with z | z
    · exact nl b o e z
    · exact hn z
  have isin:∀ b,b∈frs outer->b∈frs (envOfC qual scope s₀.heap.objs.size f cd::outer):=λ b hb=>by rw [hfs];exact List.mem_cons_of_mem _ hb
  refine ⟨e,C,t,none,H,rfl,I.os,I.bare,?_,I.hok.on λ b u hb e=>inB b u e (λ z=>hb (I.stkFree b z)),⟨_,fl,λ b hb hn o e=> ?_⟩,DictIs.on (let ⟨_,e,_⟩:=mk.there;⟨_,e,rfl⟩) kd (let ⟨o,e,_⟩:=fl.there;⟨o,e⟩),q⟩
  · refine ⟨λ b o e hH hn _=> ?_,λ b o e hH hb _=> ?_,λ b o e hH _=>ib.free b o e hH (by simp),λ b o e _=> ?_,λ b xs e=>ib.tups b xs e,λ b o u e=>ib.frzs b o u e,λ b ps e=>ib.tbls b ps e⟩
    · exact inB b o (ib.keep b o e hH hn (by simp)) (notin b o e hn)
    · obtain ⟨sl,e1⟩:=ib.slot b o e hH hb (by simp);obtain ⟨_,o',e',nf⟩:=Bj I.stack (isin b hb);rw [e1] at e';cases e';obtain ⟨sl3,e3⟩:=ups b _ (mk.keeps b _ e1) nf;exact ⟨sl3,e3⟩
    · obtain ⟨o1,e1⟩:=ib.there b o e (by simp);by_cases hb:b∈frs outer
      · obtain ⟨_,o',e',nf⟩:=Bj I.stack (isin b hb);obtain ⟨sl3,e3⟩:=ups b _ (mk.keeps b _ e') nf;exact ⟨_,e3⟩
      · exact ⟨o1,inB b o1 e1 (notin b o e hb)⟩
  · have hn2:b∉frs (envOfC qual scope s₀.heap.objs.size f cd::outer):=λ z=>by
      rcases hb with hb | ⟨o1,e1⟩
      · exact hb (I.stkFree b z)
      · exact notin b o1 e1 hn z
    obtain ⟨o2,e2⟩:∃ o2,s.heap.get? b=some o2:=by
      rcases hb with hb | ⟨o1,e1⟩
      · cases hx:H b with
        | none=>exact absurd hx hb
        | some u=>exact HL (I.hok b u hx)
      · exact ib.there b o1 e1 (by simp)
    have e3:=inB b o2 e2 hn2;have e:h2.get? b=some o:=e;rw [e] at e3;cases e3;exact PySem.W.hideAll_get _ e2 hn2
def Ou (E:XK) (C:Addr) (ta:TA):TS:=λ _ σ H=>ta σ H λ vs H1=>vs.length<=1000/\E (.ref C) none H1
theorem OG {x:Str} {C:Addr} {B newId initId:String} {bm:List Value} {e₀:Expr} {rest:List Expr} {np cpos pos:Pos} {ta:TA} (O:OwnCls x C bm newId mg base) (FB:ExcBaseFacts B newId initId bm)
    (ha:PA (B0 (CXE P w) P w K mg base N qual scope f cd A outer s₀ H₀ E) (e₀::rest) ta)
    (he:starEach (e₀::rest) (envOfC qual scope s₀.heap.objs.size f cd)=(false,eval e₀ (envOfC qual scope s₀.heap.objs.size f cd))::starEach rest (envOfC qual scope s₀.heap.objs.size f cd):=by rfl)
    (hplain:(backTo cpos (starEach rest (envOfC qual scope s₀.heap.objs.size f cd))).any (·.1)=false:=by rfl)
    (hg:Gl (B0 (CXE P w) P w K mg base N qual scope f cd A outer s₀ H₀ E) x:=by rfl) (hd:(x == ("__debug__":Str))=false:=by decide):
    PS (B0 (CXE P w) P w K mg base N qual scope f cd A outer s₀ H₀ E) (.Raise (some (.Call (.Name x np) (e₀::rest) [] cpos)) none pos) (Ou E C ta):=by
  intro pins s σ H D I h;obtain ⟨tl,Nn,nm,q,bs,hdct,sn,sub,ab,col,dd,k0,k1,k2,k3,k5,mN,hC,hN,hni,T⟩:=O.obj;have hw:=ha cpos pins s σ H _ I h;refine wpAny_Raise_call_subT (C:=C) (nm:=nm) (q:=q) (N:=Nn) (bs:=bs) (bm:=tl) (hdct:=hdct) (sn:=sn) (sub:=sub) (ab:=ab) (col:=col) (dd:=dd) (k0:=k0) (k1:=k1) (k2:=k2) (k3:=k3) (k5:=k5)
    FB (mN:=mN) (T.hasType FB.hasBase) (I.ok.hd rfl) (by
      show (backTo cpos (starEach (e₀::rest) (envOfC qual scope s₀.heap.objs.size f cd))).any (·.1)=false;rw [he];show (false||(backTo cpos (starEach rest (envOfC qual scope s₀.heap.objs.size f cd))).any (·.1))=false;rw [hplain];rfl) hni (EL I hg O.bound ⟨rfl,?_⟩ hd)
  have he':starEach (e₀::rest) (B0 (CXE P w) P w K mg base N qual scope f cd A outer s₀ H₀ E).env=(false,eval e₀ (envOfC qual scope s₀.heap.objs.size f cd))::starEach rest (envOfC qual scope s₀.heap.objs.size f cd):=he;rw [he'] at hw ⊢;refine Calls.evalArgs_plain (thn hw λ us s2 ⟨vs,H1,I1,r,hl,hq⟩=> ?_);have bk:∀ b o,base.get? b=some o->s2.heap.get? b=some o:=I1.bk;refine ⟨rfl,?_,bk _ _ hC,hN.keeps bk,T.keeps bk,λ h' e mk=>Pi I1 mk hq⟩;rw [<-r.length];exact Nat.le_trans hl (by decide)
end
theorem Hs {h h1 h2:Heap} (a:h.UpToSlots h1) (b:h1.UpToSlots h2):h.UpToSlots h2:=λ c o e nf=>by
  obtain ⟨sl,e1⟩:=a c o e nf;obtain ⟨sl2,e2⟩:=b c _ e1 nf;exact ⟨sl2,e2⟩
theorem Oi {P:Program} {w:World} {l:List Env} {s s₁:Shared} {H H':Hp} {a C t:Addr} {B h3:Heap} (un:Un (frs l) [] H H' s.heap s₁.heap) (hok:HOk P w H' s₁.heap) (fl:B.FlyingW l a (.ref C) (.ref t) s₁.heap)
    (cov:∀ b,(H' b≠none\/∃ o,s.heap.get? b=some o)->b∉frs l->∀ o,s₁.heap.get? b=some o->B.get? b=some o) (untr:∀ b∈frs l,H' b=none) (fl3:B.FlyingW l a (.ref C) (.ref t) h3) (ups:s₁.heap.UpToSlots h3):
    Un (frs l) [] H H' s.heap h3/\HOk P w H' h3:=by
  have inB:∀ b,(H' b≠none\/∃ o,s.heap.get? b=some o)->b∉frs l->∀ o,s₁.heap.get? b=some o->h3.get? b=some o:=λ b hb hn o e=>fl3.1 b o (cov b hb hn o e);refine ⟨⟨λ b o e hH hn hx=>inB b (.inr ⟨o,e⟩) hn o (un.keep b o e hH hn hx),λ b o e hH hb hx=> ?_,un.free,λ b o e hx=> ?_,un.tups,un.frzs,un.tbls⟩,hok.on λ b u hb e=>inB b (.inl hb) (λ z=>hb (untr b z)) u e⟩
  · obtain ⟨sl,e1⟩:=un.slot b o e hH hb hx;obtain ⟨_,o',e',nf⟩:=Bj fl.2.2.1 hb;rw [e1] at e';cases e';obtain ⟨sl3,e3⟩:=ups b _ e1 nf;exact ⟨sl3,e3⟩
  · obtain ⟨o1,e1⟩:=un.there b o e hx;by_cases hb:b∈frs l
    · obtain ⟨_,o',e',nf⟩:=Bj fl.2.2.1 hb;obtain ⟨sl,e2⟩:=ups b _ e' nf;exact ⟨_,e2⟩
    · exact ⟨o1,inB b (.inr ⟨o,e⟩) hb o1 e1⟩
noncomputable def Fp (a C:Addr) (od:Option Addr):HO:= .ext λ h=>∃ o,h.get? a=some o/\o.cls= .ref C/\o.dict=od/\∃ vs,o.data= .fields vs
theorem T4 {P:Program} {w:World} {H:Hp} {h:Heap} {a C:Addr} {o:Obj} {vs:Array Value} (e:h.get? a=some o) (c:o.cls= .ref C) (d:o.data= .fields vs):ObjOk P w H h a (Fp a C o.dict):=
  ⟨⟨o,e,c,rfl,vs,d⟩,⟨o,e⟩,λ _ _ ⟨o,e,c⟩ k=>⟨o,k o e,c⟩⟩
theorem Pf {P:Program} {w:World} {H:Hp} {h:Heap} {a:Addr} {u:HO} (hok:HOk P w H h) (n:H a=none) (new:ObjOk P w (upd H a u) h a u):HOk P w (upd H a u) h:=λ b o e=>by
  by_cases z:b=a
  · subst z;rw [Af] at e;cases e;exact new
  · rw [Al z] at e;have ne:∀ c v,H c=some v->c≠a:=λ c v q z=>by rw [z,n] at q;cases q
    exact (hok b o e).stay (λ c v _ q=>q) (λ c q=>(Al (ne c _ q)).trans q) λ c xs q=>(Al (ne c _ q)).trans q
theorem PR {fs ex:List Addr} {H H':Hp} {h h':Heap} {a:Addr} {u:HO} (un:Un fs ex H H' h h') (n:H' a=none) (na:h.get? a=none):Un fs ex H (upd H' a u) h h':=by
  have ne:∀ c v,H' c=some v->c≠a:=λ c v q z=>by rw [z,n] at q;cases q
  refine ⟨un.keep,un.slot,λ b o e hH hx=> ?_,un.there,λ b xs e=> ?_,λ b o v e=> ?_,λ b ps e=> ?_⟩
  · have z:b≠a:=λ z=>by rw [z,na] at e;cases e
    rw [Al z];exact un.free b o e hH hx
  · have:=un.tups b xs e;exact (Al (ne _ _ this)).trans this
  · have:=un.frzs b o v e;exact (Al (ne _ _ this)).trans this
  · obtain ⟨m,this⟩:=un.tbls b ps e;exact ⟨m,(Al (ne _ _ this)).trans this⟩
section
variable {X:Cx} {pins:List (Addr × Obj)} {σ:St} {H:Hp} {s s₁:Shared} {E:XK} {e:Value}
theorem ag {E1 E2:Value->Shared->Prop} {R:Shared->Prop} (I:Inv X pins σ H s) (hst:X.stack=X.env::X.outer) (hf:X.env.frame=some X.env.locals) (h:CXE X.prog X.w X.stack H s E e s₁)
    (k:∀ (a C t:Addr) (od:Option Addr) (H':Hp) (B h3:Heap),e= .ref a->B.FlyingW X.stack a (.ref C) (.ref t) h3->s₁.heap.UpToSlots h3->DictIs h3 a od->(∀ h4:Heap,B.FlyingW X.stack a (.ref C) (.ref t) h4->s₁.heap.UpToSlots h4->DictIs h4 a od->Inv X pins σ H' { s₁ with heap:=h4 }/\Inv X pins σ (upd H' a (Fp a C od)) { s₁ with heap:=h4 })->H' a=none->E (.ref C) od H'->R { s₁ with heap:=h3 }):
    wpAny (model X.prog X.w) X.A (noteFrame e X.env) (λ _ s₂=>wpAny (model X.prog X.w) X.A (setFlight e none) (λ _ s₃=>R s₃) E2 s₂) E1 s₁:=by
  obtain ⟨a,C,t,od,H',rfl,os,bare,un,hok,⟨B,fl,cov⟩,di,q⟩:=h;have untr:∀ b∈frs X.stack,H' b=none:=λ b hb=>by
    obtain ⟨_,o,e,_⟩:=Bj I.stack hb;exact un.free b o e (I.stkFree b hb) (by simp)
  obtain ⟨oa,hoa,hca⟩:=fl.there;have af:a∉frs X.stack:=λ z=>by
    obtain ⟨_,_,_,oe,vs,T,oT,ts,he,hcls,hd,_⟩:=id fl;obtain ⟨_,o',e',nf⟩:=Bj fl.2.2.1 z;rw [he] at e';cases e';exact nf _ hd
  have an:H' a=none:=by
    cases hx:H' a with
    | none=>rfl
    | some u=>
      have:=cov a (.inl (by rw [hx];exact λ z=>by cases z)) af oa hoa;rw [fl.2.1] at this;cases this
  have as:s.heap.get? a=none:=by
    cases hx:s.heap.get? a with
    | none=>rfl
    | some o=>
      have:=cov a (.inr ⟨o,hx⟩) af oa hoa;rw [fl.2.1] at this;cases this
  have fl':=fl;rw [hst] at fl';refine Nw (by rw [I.ok.frames,hst]) hf fl' λ h2 hh u2 kd2=>TW (s:={ s₁ with heap:=h2 }) hh λ h3 fl3 u3 kd3=> ?_;rw [<-hst] at fl3;refine k a C t od H' B h3 rfl fl3 (Hs u2 u3) (di.on (kd2.trans kd3) (let ⟨o,e,_⟩:=fl3.there;⟨o,e⟩)) (λ h4 fl4 u4 di4=> ?_) an q;obtain ⟨un4,hok4⟩:=Oi un hok fl cov untr fl4 u4;obtain ⟨_,_,_,o4,vs4,_,_,_,e4,⟨c4,_⟩,dd4,_⟩:=id fl4;have d4:o4.dict=od:=by
    obtain ⟨o5,e5,d5⟩:=di4;rw [e4] at e5;cases e5;exact d5
  subst d4;exact ⟨I.call' (s':={ s₁ with heap:=h4 }) (ch:=[]) os un4 hok4 bare (λ _ z=>by cases z),I.call' (s':={ s₁ with heap:=h4 }) (ch:=[]) os (PR un4 an as) (Pf hok4 an (T4 e4 c4 dd4)) bare (λ _ z=>by cases z)⟩
end
noncomputable def Cx.tryC (X:Cx) (pn:List (Addr × Obj)) (xe:Value->Shared->Prop):Cx:={ X with pn:=pn,xe:=xe }
noncomputable def Cx.markC (X:Cx) (a:Addr) (xe:Value->Shared->Prop):Cx:={ X with A:=X.A.mark (some (.ref a)),calm:=false,xe:=xe }
section
variable {X:Cx} {pins pins0:List (Addr × Obj)} {σ:St} {H:Hp} {s:Shared} {xe:Value->Shared->Prop}
theorem Inv.tryC (I:Inv X pins σ H s):Inv (X.tryC (X.pn++pins) xe) [] σ H s:=
  ⟨⟨I.ok.mod,I.ok.kind,I.ok.glob,I.ok.blt,I.ok.above,I.ok.inj,I.ok.has,I.ok.cab,I.ok.hd,I.ok.frames,I.ok.stk,I.ok.exf,I.ok.bs,I.ok.bsz,I.ok.noex,I.ok.exfs,I.ok.funs,I.ok.frf⟩,
    I.os,I.bare,I.base,I.loc,I.cell,I.free,I.freeC,λ p hp=>I.pin p (by simpa [Cx.tryC] using hp),I.hok,I.len⟩
theorem Inv.untry (ok:X.Ok) (I:Inv (X.tryC (X.pn++pins0) xe) pins σ H s):Inv X pins0 σ H s:=
  ⟨ok,I.os,I.bare,I.base,I.loc,I.cell,I.free,I.freeC,λ p hp=>I.pin p (List.mem_append_left _ hp),I.hok,I.len⟩
theorem Inv.markC {a:Addr} (I:Inv X pins σ H s):Inv (X.markC a xe) pins σ H s:=
  ⟨⟨I.ok.mod,I.ok.kind,I.ok.glob,I.ok.blt,I.ok.above,I.ok.inj,I.ok.has,I.ok.cab,λ z=>(by cases z),I.ok.frames,I.ok.stk,I.ok.exf,I.ok.bs,I.ok.bsz,I.ok.noex,I.ok.exfs,I.ok.funs,I.ok.frf⟩,
    I.os,I.bare,I.base,I.loc,I.cell,I.free,I.freeC,I.pin,I.hok,I.len⟩
theorem Inv.unmark {a:Addr} (ok:X.Ok) (I:Inv (X.markC a xe) pins σ H s):Inv X pins σ H s:=
  ⟨ok,I.os,I.bare,I.base,I.loc,I.cell,I.free,I.freeC,I.pin,I.hok,I.len⟩
theorem N5 {M:Model} {A:Around} {E:Value->Shared->Prop} {i:Nat} {x:Str} {v:V} {Q:Unit->Shared->Prop} (I:Inv X pins σ H s) (hN:X.N.Nodup) (hi:X.N[i]?=some x) (hx:X.env.scope.names.lookup x=some .local) (hv:σ[i]?=some (some v))
    (h:∀ s',Inv X pins (σ.set i none) H s'->Q () s'):wpAny M A (unbindName X.env x) Q E s:=by
  obtain ⟨m,hn,hl⟩:=id I.loc;have hcls:(X.env.scope.kind == .class||(X.env.scope.kind == .module&&X.env.locals != X.env.globals))=false:=by rw [I.ok.kind];rfl
  obtain ⟨u0,_,q0⟩:=hl i x v hi hv (.inl hx);have hm:m x=some u0:=by
    rcases q0 with ⟨_,e⟩ | ⟨k,_⟩
    · exact e
    · rcases k with k | k
      · rw [show X.env.kindOf x=some .local from hx] at k;cases k
      · rw [show X.env.kindOf x=some .local from hx] at k;cases k
  have hiσ:i<σ.length:=by rw [I.len];exact (List.getElem?_eq_some_iff.mp hi).1
  have cne:=I.cne;refine wpAny_unbindName_local hx hn hm hcls λ h' u hn' hs=> ?_;obtain ⟨oL,_,_,hoL,_⟩:=id hn;have neL:∀ b o,X.s₀.heap.get? b=some o->b≠X.env.locals:=λ b o e=>Nat.ne_of_lt (Nat.lt_of_lt_of_le (Heap.lt_size e) I.ok.above);refine h _ ⟨I.ok,I.os,I.bare,⟨λ b o e n hb hx=> ?_,λ b o e n hb hx=> ?_,I.base.free,λ b o e hx=> ?_,I.base.tups,I.base.frzs,I.base.tbls⟩,⟨_,hn',λ j y v' e1 e2 e3=> ?_⟩,λ y c e=> ?_,I.free,I.freeC,λ p hp=> ?_,λ b ob e=> ?_,by simpa using I.len⟩
  · exact (hs.2 b (neL b o e)).trans (I.base.keep b o e n hb hx)
  · obtain ⟨sl,e1⟩:=I.base.slot b o e n hb hx;exact ⟨sl,(hs.2 b (neL b o e)).trans e1⟩
  · obtain ⟨o',e1⟩:=I.base.there b o e hx;exact ⟨o',(hs.2 b (neL b o e)).trans e1⟩
  · by_cases hj:j=i
    · subst hj;rw [List.getElem?_set_self hiσ] at e2;cases e2
    · rw [List.getElem?_set_ne (Ne.symm hj)] at e2;obtain ⟨u',r',q⟩:=hl j y v' e1 e2 e3;refine ⟨u',r',?_⟩;rcases q with ⟨k,e⟩ | ⟨k,c,e,z⟩
      · refine .inl ⟨k,?_⟩;have:y≠x:=λ e=>hj (Ic hN e1 (e▸hi));simp [this,e]
      · exact .inr ⟨k,c,e,z.sameBut hs (cne y c e)⟩
  · obtain ⟨w',z⟩:=I.cell y c e;exact ⟨w',z.sameBut hs (cne y c e)⟩
  · obtain ⟨e,n,ne,nf,d⟩:=I.pin p hp;exact ⟨(hs.2 p.1 ne).trans e,n,ne,nf,d⟩
  · refine (I.hok b ob e).stay (λ c w' hc q=>(hs.2 c ?_).trans q) (λ _ q=>q) λ _ _ q=>q;rintro rfl;rcases hc with rfl | hc
    · rw [I.free] at e;cases e
    · rw [I.free] at hc;cases hc
end
noncomputable def Sx (j:Nat) (D:Ends):Ends:={ nx:=λ σ H=>D.nx (σ.set j none) H,rt:=D.rt,bk:=λ σ H=>D.bk (σ.set j none) H,ct:=λ σ H=>D.ct (σ.set j none) H }
def QE (K:PySem.W.Frag) (CL:Addr) (len j:Nat) (ts:TS) (D:Ends):XK:=λ cls od H'=>∃ C,cls= .ref C/\PySem.W.exmOne K cls (.ref CL)=some true/\
  ∀ (a:Addr) (σ:St),H' a=none->σ.length=len->ts (Sx j D) (σ.set j (some (.ref a))) (upd H' a (Fp a C od))
def WC (K:PySem.W.Frag) (CL:Addr) (len j:Nat) (tb:XK->TS) (ts:TS):TS:=λ D σ H=>tb (QE K CL len j ts D) D σ H
end L2
namespace L2
open PySem PySem.Spec PyProof.Rows PySem.W
theorem TJ {X:Cx} {x n:Str} {CL:Addr} {j:Nat} {body:List Stmt} {b₀:Stmt} {suite:List Stmt} {tb:XK->TS} {ts:TS} {xp hp pos:Pos} (hst:X.stack=X.env::X.outer) (hf:X.env.frame=some X.env.locals) (hm:X.mg x=some (.ref CL))
    (hN:X.N.Nodup) (hj:X.N[j]?=some n) (hx:X.env.scope.names.lookup n=some .local)
    (hb:∀ (pn:List (Addr × Obj)) (xe:Value->Shared->Prop) (E:XK),BA (CXE X.prog X.w) (X.tryC pn xe) E->PSs (X.tryC pn xe) body (tb E)) (hs:∀ (a:Addr) (xe:Value->Shared->Prop),PSs (X.markC a xe) (b₀::suite) ts)
    (hg:Gl X x:=by rfl) (hd:(x == ("__debug__":Str))=false:=by decide):
    PS X (.Try body [.ExceptHandler (some (.Name x xp)) (some n) (b₀::suite) hp] [] [] pos) (WC X.K CL X.N.length j tb ts):=by
  intro pins s σ H D I h;refine wpAny_Try_except ?_;have pass:BA (CXE X.prog X.w) (X.tryC (X.pn++pins) (λ e s₁=>wpAny (model X.prog X.w) X.A (noteFrame e X.env) (λ _ s₂=>wpAny (model X.prog X.w) X.A (setFlight e none) (λ _ s₃=>wpAny (model X.prog X.w) X.A (handleBy e X.env [.ExceptHandler (some (.Name x xp)) (some n) (b₀::suite) hp]) (SP X pins D) X.xe s₃) X.xe s₂) X.xe s₁)) (QE X.K CL X.N.length j ts D):=by
    intro pins' σ' H1 s1 e s' I1 hc;have I1':Inv X pins σ' H1 s1:=I1.untry I.ok;refine ag I1' hst hf hc λ a C t od H' B h3 e0 fl3 u3 di3 inv an q=> ?_;subst e0;obtain ⟨C',eC,hx',hr⟩:=q;cases eC;have I3:=(inv h3 fl3 u3 di3).1;obtain ⟨oa,hoa,hca⟩:=fl3.there;refine wpAny_handleBy_cons (codeAny_handlers_test ?_) (by intro q;cases q);refine Calls.Name_function_global I.ok.kind hg (Calls.loadGlobal_global (by rw [I.ok.glob];exact I.mod.glob.keeps I3.bk) hm ?_) hd;have lt:Looks (model X.prog X.w) h3 (typeOf (.ref a)) (.ref C):=hca▸(Looks.ld hoa).andThen .now;refine Looks.here (s:={ s' with heap:=h3 }) (PySem.W.exm_one (K:=X.K) I3.kIn lt hx') ?_;show codeAny _ _ (.handlers (.ref a) [.ExceptHandler none (some n) (b₀::suite) hp] X.env) _ _;refine codeAny_handlers_suite_as ?_;refine Q2 (base:=B) (l:=X.stack) (s:={ s' with heap:=h3 }) fl3.1 fl3.2.2.1 fl3.2.2.2 λ h4 k1 k2 k3 k4 kd4=> ?_;have fl4:B.FlyingW X.stack a (.ref C) (.ref t) h4:=⟨k1,fl3.2.1,k2,k3⟩;have u4:s'.heap.UpToSlots h4:=Hs u3 λ b o e nf=>⟨o.slots,k4 b o e nf⟩;have I4:=(inv h4 fl4 u4 (di3.on kd4 (let ⟨o,e,_⟩:=fl4.there;⟨o,e⟩))).2;refine CG (v:= .ref a) I4 hN hj (.inl hx) rfl (λ s5 I5=> ?_) (.inr hx);refine wpAny_mono (hs a _ pins s5 _ _ (Sx j D) I5.markC (hr a σ' an I1'.len)) (λ f s6 hq=> ?_) λ _ _ y=>y;have fin:∀ σ6 H6,Inv X pins σ6 H6 s6->∀ Qf:Shared->Prop,(∀ s7,Inv X pins (σ6.set j none) H6 s7->Qf s7)->wpAny (model X.prog X.w) X.A (do bindName X.env n .none;unbindBehindTheSuite X.env n hp) (λ _ s₃=>Qf s₃) X.xe s6:=λ σ6 H6 I6 Qf hQ=>by
      refine wpAny_bind (bindName_ (CG (v:= .non) I6 hN hj (.inl hx) rfl (λ s7 I7=> ?_) (.inr hx)));unfold unbindBehindTheSuite;have hl6:j<σ6.length:=by rw [I6.len];exact (List.getElem?_eq_some_iff.mp hj).1
      refine wpAny_onRaise (N5 (v:= .non) I7 hN hj hx (by rw [List.getElem?_set_self hl6]) λ s8 I8=> ?_);rw [List.set_set] at I8;exact hQ s8 I8
    show wpAny (model X.prog X.w) X.A (do bindName X.env n .none;unbindBehindTheSuite X.env n hp) (λ _ s₃=>SP X pins D f s₃) X.xe s6;cases f with
    | next=>
      obtain ⟨σ6,H6,I6,q6⟩:=hq;exact fin σ6 H6 (I6.unmark I.ok) _ λ s7 I7=>⟨_,_,I7,q6⟩
    | brk=>
      obtain ⟨σ6,H6,I6,q6⟩:=hq;exact fin σ6 H6 (I6.unmark I.ok) _ λ s7 I7=>⟨_,_,I7,q6⟩
    | cont=>
      obtain ⟨σ6,H6,I6,q6⟩:=hq;exact fin σ6 H6 (I6.unmark I.ok) _ λ s7 I7=>⟨_,_,I7,q6⟩
    | ret u=>
      obtain ⟨v6,σ6,H6,I6,r6,q6⟩:=hq;exact fin σ6 H6 (I6.unmark I.ok) _ λ s7 I7=>⟨v6,_,_,I7,r6,q6⟩
  refine wpAny_mono (hb _ _ _ pass [] s σ H D I.tryC h) (λ f s₁ hq=> ?_) λ _ _ y=>y;cases f with
  | next=>
    obtain ⟨σ',H',I',q'⟩:=hq;exact wpAny_execs_nil ⟨σ',H',I'.untry I.ok,q'⟩
  | brk=>
    obtain ⟨σ',H',I',q'⟩:=hq;exact ⟨σ',H',I'.untry I.ok,q'⟩
  | cont=>
    obtain ⟨σ',H',I',q'⟩:=hq;exact ⟨σ',H',I'.untry I.ok,q'⟩
  | ret u=>
    obtain ⟨v',σ',H',I',r',q'⟩:=hq;exact ⟨v',σ',H',I'.untry I.ok,r',q'⟩
end L2
namespace HT
open PySem PySem.Spec PyProof.Rows PySem.W PySem.Calls PySem.Builtin PySem.Builtin.ObjectAttr PySem.Builtin.Getset_descriptor
def ExcAt (a C:Addr) (h:Heap):Prop:=∃ o,h.get? a=some o/\o.cls= .ref C
structure ExcKind (K:Frag) (C:Addr):Prop where
  cl:(clsIn K C).isSome=true
  ga:findIn K (.ref C) "__getattribute__"=some (some (.builtin "BaseException.__getattribute__"))
  ng:findIn K (.ref C) "__getattr__"=some none
  hb:mroIn K C (.type "BaseException")=some true
  ha:findIn K (.ref C) "__class__"=some (some (.builtin "object.__class__"))
  hn:specialIn K (.builtin "object.__class__") "__get__"=some (some (.builtin "getset_descriptor.__get__"))
  htk:takesIn K (.builtin "object.__class__")=some true
  hm:mroIn K C (.type "object")=some true
theorem ExcAt.type {M:Model} {h:Heap} {a C:Addr} (x:ExcAt a C h):Looks M h (typeOf (.ref a)) (.ref C):=by
  obtain ⟨o,e,c⟩:=x;exact c▸(Looks.ld e).andThen .now
theorem PM {K:Frag} {M:Model} {h:Heap} {a C:Addr} (k:ExcKind K C) (X:K.In h):Looks M h (find (.ref a) (.ref C) "__class__") (.bind (.builtin "getset_descriptor.__get__") (.builtin "object.__class__")):=by
  have L1:=looks_findIn (M:=M) X k.ha;have L2:Looks M h (getOf (some (.builtin "object.__class__"))) (some (.builtin "getset_descriptor.__get__")):=looks_specialIn X k.hn;have L3:=looks_takesIn (M:=M) X k.htk;exact L1.andThen (L2.andThen ((show Looks M h (dataDescriptor? (some (.builtin "object.__class__")) (some (.builtin "getset_descriptor.__get__"))) (some (.builtin "getset_descriptor.__get__", .builtin "object.__class__")) from L3.andThen .now).andThen (Looks.tag .now)))
section
variable {prog:Program} {w:World} {A:Around} {E:Value->Shared->Prop} {s:Shared} {K:Frag} {a C:Addr}
theorem QP {R:Result->Shared->Prop} {tp:Value} (X:K.In s.heap) (x:ExcAt a C s.heap) (hm:mroIn K C (.type "object")=some true) (h:R (.ok (.ret (.ref C))) s):
    codeAny (model prog w) A (.call (.builtin "getset_descriptor.__get__") ⟨[.builtin "object.__class__", .ref a,tp],[]⟩) R s:=by
  obtain ⟨hh,g,dr,t,os⟩:=s;have L0:=x.type (M:=model prog w);have L1:=looks_mroIn (M:=model prog w) X hm;refine codeAny_call_builtin KF.slot_gs.plain KF.entry_gs (KF.slot_gs.check _ _ _ _ _ _ _ _ KF.type_class (KF.args_gs _ _ _) ?_);unfold Builtin.«getset_descriptor.__get__» descrGet;rw [dga_obj];refine wpAny_bind (wpAny_pure ?_);unfold descrGetter descrCheckInstance descrNameAndClass isInstance;simp only [KF.owner_class]
  repeat lk
  refine ⟨Code.quiet_builtin _ (by decide +kernel),codeAny_builtin KF.entry_class ?_⟩;unfold Builtin.«object.__class__» shownTypeOf
  repeat lk
  exact h
theorem Jl {Q:Unit->Shared->Prop} {nameV:Value} (k:ExcKind K C) (X:K.In s.heap) (x:ExcAt a C s.heap) (h:Q () s):wpAny (model prog w) A (checkBuiltinCall "BaseException.__getattribute__" ⟨[.ref a,nameV],[]⟩) Q E s:=by
  have hk:builtinKind "BaseException.__getattribute__"=some .slot:=by decide +kernel
  have hsplit:splitId "BaseException.__getattribute__"=some ("BaseException","__getattribute__"):=by decide +kernel
  have ha:=PySem.F.args_bexc_ga (.ref a) nameV;have L0:=x.type (M:=model prog w);have L1:=looks_mroIn (M:=model prog w) X k.hb;simp only [checkBuiltinCall,hk,hsplit];refine wpAny_bind ?_;unfold isInstance
  repeat lk
  exact h
theorem Nz {Q:Option Value->Shared->Prop} (k:ExcKind K C) (X:K.In s.heap) (x:ExcAt a C s.heap) (h:Q (some (.ref C)) { s with toks:=s.toks+1 }):wpAny (model prog w) A (getAttr? (.ref a) "__class__") Q E s:=by
  obtain ⟨hh,g,d,t,os⟩:=s;have L0:=x.type (M:=model prog w);have L1:=looks_findIn (M:=model prog w) X k.ga;have L2:=looks_findIn (M:=model prog w) X k.ng;have L3:=PM (M:=model prog w) (a:=a) k X;unfold getAttr? getAttrBy? getAttrBy;refine wpAny_bind (wpAny_mkText (wpAny_bind (wpAny_attempt (wpAny_holding (wpAny_bind (L0.at (wpAny_bind (L1.at ?_))))))));show wpAny _ _ (getAttrByItsOwn (.ref a) _ (.ref C) (.builtin "BaseException.__getattribute__") false false) _ _ _;unfold getAttrByItsOwn;refine wpAny_bind (L2.at ?_);refine wpAny_bind (wpAny_attempt (wpAny_holding ?_));show wpAny _ _ (boundAndCalled (.builtin "BaseException.__getattribute__") (.ref a) _) _ _ _;unfold boundAndCalled;rw [PySem.F.excAttr_ValueError.ga.bind (.ref a)];refine wpAny_bind (wpAny_pure ?_);refine wpAny_call (codeAny_call_builtin PySem.F.excAttr_ValueError.ga.plain PySem.F.entry_bexc_ga (Jl (s:=⟨hh,g,d,t+1,os⟩) k X x ?_));unfold Builtin.«object.__getattribute__»
  iterate 22 lk
  refine wpAny_call (QP (s:=⟨hh,g,d,t+1,os⟩) X x k.hm ?_)
  repeat lk
  exact h
theorem kitx_exc (k:ExcKind K C):KitX K (.ref a) (.ref C) (ExcAt a C) where
  ty:=λ _ _ _ x=>x.type
  it:=λ _ _ X _=>by
    obtain ⟨cd,hc⟩:=Option.isSome_iff_exists.mp k.cl;unfold clsIn at hc;split at hc
    · rename_i c' d' cd' sl' ho
      intro A' Q' E' s' kk q;unfold isType loadHead;exact wpAny_bind (wpAny_loadPart (kk _ _ (X _ _ ho)) (wpAny_pure q))
    · cases hc
  ne:=λ h tp dd its n sl X htp=>by
    obtain ⟨cd,hc⟩:=Option.isSome_iff_exists.mp k.cl;refine Bool.eq_false_iff.mpr λ q=> ?_;have e:C=tp:=Value.ref.inj (beq_iff_eq.mp q);subst e;unfold clsIn at hc;split at hc
    · rename_i c' d' cd' sl' ho
      have z:=(X _ _ ho).symm.trans htp;cases z
    · cases hc
  ca:=λ X x h=>Nz k X x h
end
end HT
namespace L2
open PySem PySem.Spec PyProof.Rows
theorem Pd {X:Cx} {pins:List (Addr × Obj)} {σ:St} {H:Hp} {s:Shared} {A:Around} {E:Value->Shared->Prop} {Q:Value->Shared->Prop} {a C:Addr} {od:Option Addr} {c:Value} {b:Bool} (I:Inv X pins σ H s) (e:H a=some (Fp a C od)) (k:HT.ExcKind X.K C)
    (h:PySem.W.kitOne X.K (.ref C) c=some b) (hq:∀ tk,Q (.bool b) { s with toks:=tk }):wpAny (model X.prog X.w) A (call (.builtin "isinstance") [.ref a,c]) Q E s:=
  PySem.W.kia_one (HT.kitx_exc k) I.kIn (show HT.ExcAt a C s.heap from let ⟨o,h1,h2,_⟩:=(show ObjOk X.prog X.w H s.heap a (Fp a C od) from I.hok a _ e).1;⟨o,h1,h2⟩) h (λ z=>nomatch z) hq
def LW (K:PySem.W.Frag):List V->Hp->VK->Prop:=λ xs H Q=>∃ (y c:V) (cv t:Value) (b:Bool),xs=[y,c]/\((∃ D,c= .ref D/\cv= .ref D)\/∃ T,c= .ty T/\cv= .type T)/\PySem.W.kitOne K t cv=some b/\
  (TyOf K H y t\/∃ a C od,y= .ref a/\H a=some (Fp a C od)/\t= .ref C/\HT.ExcKind K C)/\Q (.bl b) H
theorem Cv {X:Cx} {K:PySem.W.Frag} (hK:X.K=K:=by rfl):BR X (.builtin "isinstance") (LW K):=by
  subst hK;intro pins s σ H xs us Q I r h;obtain ⟨y,c,cv,t,b,rfl,hc,e,hy,q⟩:=h;obtain ⟨u,c',rfl,rx,rc⟩:=LD r;have ec:c'=cv:=by
    rcases hc with ⟨D,rfl,rfl⟩ | ⟨T,rfl,rfl⟩
    · exact rc
    · exact rc
  subst ec;rcases hy with ty | ⟨a,C,od,rfl,ha,rfl,k⟩
  · exact Gx I rx ty e λ tk=>⟨.bl b,H,I.tok tk,rfl,q⟩
  · cases rx;exact Pd I ha k e λ tk=>⟨.bl b,H,I.tok tk,rfl,q⟩
theorem Ce {K:PySem.W.Frag} {H:Hp} {Q:VK} {a C D:Addr} {od:Option Addr} {b:Bool} (ha:H a=some (Fp a C od)) (k:HT.ExcKind K C) (e:PySem.W.kitOne K (.ref C) (.ref D)=some b) (h:Q (.bl b) H):LW K [.ref a, .ref D] H Q:=
  ⟨_,_,_,_,b,rfl, .inl ⟨D,rfl,rfl⟩,e, .inr ⟨a,C,od,rfl,ha,rfl,k⟩,h⟩
theorem Oc {K:PySem.W.Frag} {H:Hp} {Q:VK} {a C:Addr} {od:Option Addr} {T:String} {b:Bool} (ha:H a=some (Fp a C od)) (k:HT.ExcKind K C) (e:PySem.W.kitOne K (.ref C) (.type T)=some b) (h:Q (.bl b) H):LW K [.ref a, .ty T] H Q:=
  ⟨_,_,_,_,b,rfl, .inr ⟨T,rfl,rfl⟩,e, .inr ⟨a,C,od,rfl,ha,rfl,k⟩,h⟩
end L2
namespace HT
open PySem PySem.Spec PyProof.Rows PySem.W
theorem own_mk {K:Frag} {base:Heap} {mg:Str->Option Value} {x:Str} {C:Addr} {bmB:List Value} {newId:String} (X:K.In base) (hm:mg x=some (.ref C)) (q:excIn K C bmB newId=true):OwnCls x C bmB newId mg base:=by
  refine ⟨hm,?_⟩;unfold excIn at q;split at q
  · rename_i dd cd sl ho
    split at q
    · rename_i C' bm k0 k1 k2 k3 n k5 hm' hs
      simp only [Bool.and_eq_true,beq_iff_eq,Bool.not_eq_true'] at q;obtain ⟨⟨⟨⟨⟨rfl,rfl⟩,hdel⟩,ht⟩,hok⟩,hni⟩:=q;obtain ⟨nm,bs,mro,ns,qn,hd,sn,sub,ab,col,del⟩:=cd;dsimp only at hm' hdel hok hni;subst hm' hdel;obtain ⟨l⟩:=sl;have hsl:l=[k0,k1,k2,k3,some (.builtin n),k5]:=hs;subst hsl;exact ⟨bm,ns,nm,qn,bs,hd,sn,sub,ab,col,dd,k0,k1,k2,k3,k5,_,X _ _ ho, .of_isNs (isNs_of_in X hok),nsMap_none_of_in X hok hni,tail_of_in X ht⟩
    · cases q
  · cases q
end HT
namespace L2
open PySem PySem.Spec PyProof.Rows
theorem FnOk.toE {P:Program} {w:World} {K:PySem.W.Frag} {mg:Str->Option Value} {base:Heap} {k:Nat} {f:Addr} {fd:FuncData} {ps:List Str} {sp:Sp} (F:FnOk P w K mg base CX0 k f fd ps sp):FnOk P w K mg base (CXE P w) k f fd ps sp:=
  ⟨F.len,λ A outer s H args us vs Q E hr he hb hv hs=>codeAny_mono (F.run A outer s H args us vs Q E hr he hb hv hs) λ r s' h=>by
    cases r with
    | error e=>exact False.elim h
    | ok fl=>
      cases fl with
      | ret u=>exact h
      | next=>exact h
      | brk=>exact h
      | cont=>exact h⟩
def CallE (P:Program) (w:World) (K:PySem.W.Frag) (mg:Str->Option Value) (base:Heap) (x:Str) (k:Nat) (ps:List Str) (sp:Sp):Prop:=
  ∃ f fd,mg x=some (.ref f)/\PySem.W.keepIn K (.ref f)=true/\FnOk P w K mg base (CXE P w) k f fd ps sp/\Binds K fd ps []
def Hu (P:Program) (w:World) (K:PySem.W.Frag) (mg:Str->Option Value) (base:Heap) (x:Str) (C:Addr) (k:Nat) (ps:List Str) (sp:Sp):Prop:=
  ∃ f fd,mg x=some (.ref C)/\Mk K C f/\FnOk P w K mg base (CXE P w) k f fd ps sp/\Binds K fd ps []
theorem CallF.toE {P:Program} {w:World} {K:PySem.W.Frag} {mg:Str->Option Value} {base:Heap} {x:Str} {k:Nat} {ps:List Str} {sp:Sp} (h:CallF P w K mg base x k ps sp):CallE P w K mg base x k ps sp:=
  let ⟨f,fd,a,b,F,d⟩:=h;⟨f,fd,a,b,F.toE,d⟩
theorem DefAt.callE {P:Program} {w:World} {K:PySem.W.Frag} {mg:Str->Option Value} {base:Heap} {x:Str} {st:Stmt} {ps:List Str} {f:Addr} {fd:FuncData} {k:Nat} {sp:Sp} (d:DefAt K mg x st ps f fd)
    (F:FnOk P w K mg base (CXE P w) k f fd ps sp):CallE P w K mg base x k ps sp:=⟨f,fd,d.at',d.fn.kp,F,d.bi⟩
section
variable {X:Cx} {x:Str} {C:Addr} {k:Nat} {ps:List Str} {sp:Sp} {E:XK} {e:Expr} {es:List Expr} {t:TA} {p pos:Pos}
theorem F2 (h:CallE X.prog X.w X.K X.mg X.base x k ps sp) (hr:Room k X.A) (hx:BA (CXE X.prog X.w) X E) (ha:PA X (e::es) t) (hg:Gl X x:=by rfl) (hdb:(x == ("__debug__":Str))=false:=by decide)
    (he:starEach (e::es) X.env=(false,eval e X.env)::starEach es X.env:=by rfl) (hpl:(backTo pos (starEach es X.env)).any (·.1)=false:=by rfl):
    PE X (.Call (.Name x p) (e::es) [] pos) (Ly sp [] E t):=by
  obtain ⟨f,fd,hm,hk,F,hb⟩:=h;exact MG F hr hg hm hk hb .nil hx ha hdb he hpl
theorem EH (h:Hu X.prog X.w X.K X.mg X.base x C k ps sp) (hr:Room (k+1) X.A) (hx:BA (CXE X.prog X.w) X E) (ha:PA X (e::es) t) (hg:Gl X x:=by rfl) (hdb:(x == ("__debug__":Str))=false:=by decide)
    (he:starEach (e::es) X.env=(false,eval e X.env)::starEach es X.env:=by rfl) (hpl:(backTo pos (starEach es X.env)).any (·.1)=false:=by rfl):
    PE X (.Call (.Name x p) (e::es) [] pos) (KU C sp [] E t):=by
  obtain ⟨f,fd,hm,M,F,hb⟩:=h;exact M4 M F hr hg hm hb .nil hx ha hdb he hpl
end
theorem O2 {P:Program} {w:World} {K:PySem.W.Frag} {mg:Str->Option Value} {base:Heap} {N:List Str} {qual:Str} {scope:Scope} {f:Addr} {cd:Value} {A:Around} {outer:List Env} {s₀:Shared} {H₀:Hp} {E:XK}:
    BA (CXE P w) (B0 (CXE P w) P w K mg base N qual scope f cd A outer s₀ H₀ E) E:=Nv λ _ _ _ h=>h
section
variable {P:Program} {w:World} {K:PySem.W.Frag} {mg:Str->Option Value} {base:Heap}
theorem Fun.okE {x qual:Str} {st:Stmt} {f:Addr} {fd:FuncData} {N ps:List Str} {k:Nat} {sp:Sp} (F:Fun K x qual st f fd) (S:FnScope N ps (Ah st)) (len:∀ vs H Q E,sp vs H Q E->vs.length=ps.length)
    (hbody:∀ (cdv:Value) (A:Around) (outer:List Env) (s:Shared) (H:Hp) (vs:List V) (Q:VK) (E:XK),Room k (A.deeper (envOfC qual (Ah st) s.heap.objs.size f cdv))->sp vs H Q E->
      ∃ t,PSs (B0 (CXE P w) P w K mg base N qual (Ah st) f cdv A outer s H E) (DC st) t/\t { nx:=λ _ H'=>Q .non H',rt:=Q } (start N vs) H):FnOk P w K mg base (CXE P w) (k+1) f fd ps sp:=by
  obtain ⟨oc,od,kV,doc,pm,an,cdv,ct,osl,rfl,lk,hcd⟩:=F.ex;refine RW lk hcd S len λ A outer s H vs Q E hr hsp=> ?_;exact hbody cdv A outer s H vs Q E hr hsp
theorem Gh {N:List Str} {qual:Str} {scope:Scope} {f:Addr} {cd:Value} {A:Around} {outer:List Env} {s₀:Shared} {H₀:Hp} {E:XK} {x:Str} {C:Addr} {e₀:Expr} {rest:List Expr} {np cpos pos:Pos} {ta:TA} (hm:mg x=some (.ref C))
    (q:PySem.W.excIn K C [.type "ValueError", .type "Exception", .type "BaseException", .type "object"] "ValueError.__new__"=true) (ha:PA (B0 (CXE P w) P w K mg base N qual scope f cd A outer s₀ H₀ E) (e₀::rest) ta)
    (he:starEach (e₀::rest) (envOfC qual scope s₀.heap.objs.size f cd)=(false,eval e₀ (envOfC qual scope s₀.heap.objs.size f cd))::starEach rest (envOfC qual scope s₀.heap.objs.size f cd):=by rfl)
    (hplain:(backTo cpos (starEach rest (envOfC qual scope s₀.heap.objs.size f cd))).any (·.1)=false:=by rfl)
    (hg:Gl (B0 (CXE P w) P w K mg base N qual scope f cd A outer s₀ H₀ E) x:=by rfl) (hd:(x == ("__debug__":Str))=false:=by decide):
    PS (B0 (CXE P w) P w K mg base N qual scope f cd A outer s₀ H₀ E) (.Raise (some (.Call (.Name x np) (e₀::rest) [] cpos)) none pos) (Ou E C ta):=λ pins s σ H D I h=>
  OG (HT.own_mk I.mod.kin hm q) PySem.F.excBase_ValueError ha he hplain hg hd pins s σ H D I h
end
theorem G2:bootBuiltins "ValueError"=some (.type "ValueError"):=by decide +kernel
theorem GN {X:Cx}:BA (CXE X.prog X.w) X E0:=by
  intro pins σ H s e s' I h;obtain ⟨_,_,_,_,_,_,_,_,_,_,_,_,q⟩:=h;exact False.elim q
theorem TyOf.same {K:PySem.W.Frag} {H H':Hp} {x:V} {t:Value} (h:TyOf K H x t) (s:Same H H'):TyOf K H' x t:=by
  cases h with
  | non=>exact .non
  | bl x=>exact .bl x
  | int i=>exact .int i
  | str x=>exact .str x
  | flt x=>exact .flt x
  | lst e=>exact .lst (s _ _ e)
  | frz e=>exact .frz (s _ _ e)
  | tup e=>exact .tup (s _ _ e)
  | dK e=>exact .dK (s _ _ e)
  | dT e=>exact .dT (s _ _ e)
  | ins e cl ha hn htk hm=>exact .ins (s _ _ e) cl ha hn htk hm
theorem Ty.same {K:PySem.W.Frag} {H H':Hp} {x:V} (h:Ty K H x) (s:Same H H'):Ty K H' x:=let ⟨n,t⟩:=h;⟨n,t.same s⟩
theorem Tq {j:Nat} {D:Ends} {σ:St} {H:Hp} (h:D.nx (σ.set j none) H):(Sx j D).nx σ H:=h
theorem Sv {K:PySem.W.Frag} {CL:Addr} {len j:Nat} {tb:XK->TS} {ts:TS} {D:Ends} {σ:St} {H:Hp} (h:tb (QE K CL len j ts D) D σ H):WC K CL len j tb ts D σ H:=h
end L2
namespace HT
open PySem PySem.Spec PyProof.Rows PySem.SeqAt
open PySem.AutoSeq1 (wpAny_loadPart')
open PySem.MeetsSeq PySem.MeetsSeq2 PySem.MeetsSeq3
section
variable {A:Around} {s:Shared}
end
end HT
namespace L2
open PySem PySem.Spec PyProof.Rows
inductive DX where
  | d (d:Dt) | dic | tdic (rest:List Dt)
inductive Rx (H:Hp) (n:Nat):V->DX->Prop
  | d {v:V} {d:Dt} (r:Rp H FT n v d):Rx H n v (.d d)
  | dic {a:Addr} (h:H a=some (.dK [])):Rx H n (.ref a) .dic
  | tdic {t a:Addr} {ws:List V} {ds:List Dt} (ht:H t=some (.tup (.ref a::ws))) (h:H a=some (.dK [])) (l:ws.length=ds.length) (e:∀ (i:Nat) (v:V) (d:Dt),ws[i]?=some v->ds[i]?=some d->Rp H FT n v d):Rx H n (.ref t) (.tdic ds)
section
variable {X:Cx} {pins:List (Addr × Obj)} {σ:St} {H:Hp} {s:Shared}
end
theorem Kx {X:Cx} {K:PySem.W.Frag} (hK:X.K=K:=by rfl):OpR X (binaryOp .Add) (OZ K):=by subst hK;exact Qp
theorem G8 {K:PySem.W.Frag} {H:Hp} {Q:VK} {a b:Addr} {xs ys:List V} (c:SqT K H a xs) (d:SqT K H b ys) (n:xs≠[]) (n2:ys≠[]) (l:xs.length+ys.length<=100000) (h:∀ p,H p=none->Q (.ref p) (upd H p (.tup (xs++ys)))):OZ K (.ref a) (.ref b) H Q:=
  ⟨a,b,xs,ys,rfl,rfl,c,d,n,Nat.le_trans l (by decide),λ e=>absurd e n2,λ _=>h⟩
end L2
namespace L2
open PySem PySem.Spec PyProof.Rows PySem.W
noncomputable def exO (a:Addr) (o:Obj):HO:= .ext λ h=>h.get? a=some o
section
variable {P:Program} {w:World} {K:PySem.W.Frag} {mg:Str->Option Value} {base:Heap} {N:List Str} {qual:Str} {scope:Scope} {f:Addr} {cd:Value} {cl:List (Str × Addr)} {A:Around} {outer:List Env} {s:Shared} {H:Hp} {E:XK}
structure ClOkL (N:List Str) (scope:Scope) (cl:List (Str × Addr)) (h:Heap) (H:Hp) (vs:List V):Prop where
  len:vs.length=N.length
  inj:∀ x y c,cl.lookup x=some c->cl.lookup y=some c->x=y
  has:∀ x,(scope.names.lookup x=some .cell\/scope.names.lookup x=some .free)->∃ c,cl.lookup x=some c
  val:∀ (i:Nat) (x:Str) (v:V),N[i]?=some x->vs[i]?=some v->∃ c u,scope.names.lookup x=some .free/\cl.lookup x=some c/\RelV v u/\h.IsCell c (some u)
  cell:∀ x c,cl.lookup x=some c->(∃ v,h.IsCell c v)/\H c=none
end
def X5 (qual:Str) (oc:Obj):Prop:=∃ vs t,oc.data= .fields vs/\vs[1]?=some (.str qual t)
structure LamX (X:Cx) (c P:Addr):Prop where
  code:X.env.code= .ref c
  hd:CodeHd X.base c P
  blt:X.base.BuiltinsAt X.mg P
section
variable {X:Cx} {pins:List (Addr × Obj)} {σ:St} {H:Hp} {s:Shared}
end
structure LamOk (params:Arguments) (scope:Scope):Prop where
  kind:scope.kind= .function
  co:scope.isCoroutine=false
  gen:scope.isGenerator=false
  cell:∀ x∈scope.names,x.2≠ .cell
  bind:∀ (qual:Str) (body:Expr) (cl:List (Str × Addr)) (pm cdv ctv:Value),bindArgs (kla_fn "<lambda>" qual params body scope cl pm cdv ctv) ⟨[],[]⟩=pure []
section
variable {P:Program} {w:World} {K:PySem.W.Frag} {mg:Str->Option Value} {base:Heap}
structure ThAt (s:Shared) (H:Hp) (outer:List Env) (f c':Addr) (oc:Obj) (N:List Str) (qual:Str) (scope:Scope) (cl:List (Str × Addr)) (params:Arguments) (body:Expr) (pm ctv:Value) (vs:List V):Prop where
  hf:s.heap.get? f=some (kla_obj "<lambda>" qual params body scope cl pm c' ctv)
  hf0:H f=none
  nf:f∉frs outer
  hc:H c'=some (exO c' oc)
  hoc:X5 qual oc
  C:ClOkL N scope cl s.heap H vs
  nc:∀ x c,cl.lookup x=some c->c∉frs outer
  lo:LamOk params scope
end
theorem NZ {K:PySem.W.Frag} {H:Hp} {a:Addr} {xs:List V} {σ0:St} {ps:List (V × V)} (h:SqL K H a xs) (hp:∀ i,i<xs.length->∃ b,xs.getD i .non= .ref b/\H b=some (.tup [(ps.getD i (.non, .non)).1,(ps.getD i (.non, .non)).2])) (h0:σ0[0]?=some none) (h1:σ0[1]?=some none):
    SrcOk (Itl K a) (Ht K 2 (BX (AE 0) (BX (AE 1) IK))) σ0 H xs.length (λ i=>(σ0.set 0 (some (ps.getD i (.non, .non)).1)).set 1 (some (ps.getD i (.non, .non)).2)) where
  go:=λ i H' hi s=>⟨xs,xs[i],s.seq h,by simp [hi]⟩
  stop:=λ H' s=>⟨xs,s.seq h,Nat.le_refl _⟩
  yld:=λ i H' x H'' R hi s y k=>by
    obtain ⟨e,hv⟩:=y;subst e;have e:x=xs.getD i .non:=by
      have:=hv xs (s.seq h);rw [List.getD_eq_getElem?_getD,this];rfl
    subst e;obtain ⟨b,eb,hb⟩:=hp i hi;rw [eb];exact ⟨b,_,rfl,SqT.of (s _ _ hb),rfl,_,_,rfl,_,_,rfl,rfl,k _ (Same.refl _)⟩
  kp:=λ i hi=>((Kp.refl _).set h0).set h1
noncomputable def bar (T:Addr) (H:Hp):Hp:=λ b=>if b=T then none else H b
theorem P8 {T:Addr} {H:Hp}:Same (bar T H) H:=λ b o e=>by
  by_cases hb:b=T
  · have e':=(if_pos hb).symm.trans e;cases e'
  · exact (if_neg hb).symm.trans e
end L2
namespace L2
open PySem PySem.Spec PyProof.Rows
section
variable {X:Cx} {K:PySem.W.Frag} {e lo st:Expr} {te tl ts:TE} {pos p2:Pos}
end
section
variable {J:It} {g:TG} {σ0:St} {H:Hp} {n:Nat} {st:Nat->St} {te:TE} {Q:VK} {D:Addr}
end
end L2
namespace L2
open PySem PySem.Spec PyProof.Rows PySem.W
structure LamV (P:Program) (w:World) (K:PySem.W.Frag) (mg:Str->Option Value) (base:Heap) (k:Nat) (f:Addr) (sp:Sp):Prop where
  obj:FnAt f base
  run:∀ (A:Around) (outer:List Env) (s:Shared) (H:Hp) (u:Value) (v:V) (Q:VK),Room k A->Env0 P w K mg base A outer s H->RelV v u->sp [v] H Q E0->codeAny (model P w) A (.call (.ref f) ⟨[u],[]⟩) (CR CX0 outer P w H s Q E0) s
section
variable {P:Program} {w:World} {K:PySem.W.Frag} {mg:Str->Option Value} {base:Heap} {N:List Str} {qual x:Str} {scope:Scope} {f:Addr} {cd:Value} {cl:List (Str × Addr)} {A:Around} {outer:List Env} {s:Shared} {H:Hp} {E:XK}
end
end L2
namespace HT
open PySem PySem.Spec PyProof.Rows PySem.W PySem.Calls PySem.Builtin PySem.Builtin.ObjectAttr PySem.Builtin.Getset_descriptor
section
variable {prog:Program} {w:World} {A:Around} {E:Value->Shared->Prop} {s:Shared} {K:Frag} {a C dx:Addr} {o:Obj} {f:Str} {mA:Str->Option Value} {u:Value} {vs:Array Value}
theorem QW {M:Model} (X:K.In s.heap) (hd:(clsIn K C).any (·.hasDict)=true) (he:s.heap.get? a=some o) (hc:o.cls= .ref C) (hf:o.data= .fields vs) (ho:o.dict=some dx) (hn:s.heap.Ns1 dx mA) (hu:mA f=some u):
    Looks M s.heap (inOwnDict f (.ref a)) (some u):=by
  obtain ⟨cd,hcd,hhd⟩:=any_some hd;obtain ⟨oc,od,dat,sl⟩:=o;dsimp only at hc hf ho;subst hc hf ho;have L1:Looks M s.heap (ObjectAttr.ownDict a) (some dx):=by
    unfold ObjectAttr.ownDict loadHead;refine (Looks.ld he).andThen ?_;unfold instanceDict;refine (Looks.ld he).andThen ?_;refine ((looks_clsIn X hcd).andThen ?_);rw [hhd];exact .now
  unfold inOwnDict inDict;refine L1.andThen ?_;exact λ A' Q' E' s' k q=>wpAny_nsGet ((hn.ns).keeps k) (by rw [hu];exact q)
theorem exc_attr {expr:Bool} {Q:Value->Shared->Prop} (k:ExcKind K C) (nf:findIn K (.ref C) f=some none) (X:K.In s.heap) (hd:(clsIn K C).any (·.hasDict)=true) (he:s.heap.get? a=some o) (hc:o.cls= .ref C) (hf:o.data= .fields vs) (ho:o.dict=some dx) (hn:s.heap.Ns1 dx mA) (hu:mA f=some u) (hho:handedIn u=true)
    (h:Q u { s with toks:=s.toks+1 }):wpAny (model prog w) A (getAttr (.ref a) f expr) Q E s:=by
  obtain ⟨hh,g,d,t,os⟩:=s;have x:ExcAt a C hh:=⟨o,he,hc⟩;have L0:=x.type (M:=model prog w);have L1:=looks_findIn (M:=model prog w) X k.ga;have L2:=looks_findIn (M:=model prog w) X k.ng;have L3:Looks (model prog w) hh (find (.ref a) (.ref C) f) (.value u):=by
    unfold find;refine (looks_findIn X nf).andThen ?_;refine Looks.andThen (a:=none) .now (Looks.andThen (a:=none) .now ?_);unfold ownThenClass;exact (QW (s:=⟨hh,g,d,t,os⟩) X hd he hc hf ho hn hu).andThen (Looks.tag .now)
  unfold getAttr getAttrBy;refine wpAny_bind (wpAny_mkText (wpAny_holding (wpAny_bind (L0.at (wpAny_bind (L1.at ?_))))));show wpAny _ _ (getAttrByItsOwn (.ref a) _ (.ref C) (.builtin "BaseException.__getattribute__") true expr) _ _ _;unfold getAttrByItsOwn;refine wpAny_bind (L2.at ?_);refine wpAny_bind (wpAny_attempt (wpAny_holding ?_));have hx0:(expr&&onTheHeap (Value.builtin "BaseException.__getattribute__"))=false:=by cases expr <;> rfl
  unfold callGetattribute;rw [hx0];show wpAny _ _ (boundAndCalled (.builtin "BaseException.__getattribute__") (.ref a) _) _ _ _;unfold boundAndCalled;rw [PySem.F.excAttr_ValueError.ga.bind (.ref a)];refine wpAny_bind (wpAny_pure ?_);refine wpAny_call (codeAny_call_builtin PySem.F.excAttr_ValueError.ga.plain PySem.F.entry_bexc_ga (Jl (s:=⟨hh,g,d,t+1,os⟩) k X x ?_));unfold Builtin.«object.__getattribute__»
  repeat lk
  show wpAny _ _ (handedOut u) _ _ _;exact handed_on (s:=⟨hh,g,d,t+1,os⟩) hho h
end
end HT
namespace L2
open PySem PySem.Spec PyProof.Rows PySem.W
structure XKind (K:PySem.W.Frag) (C:Addr):Prop extends HT.ExcKind K C where
  hd:(clsIn K C).any (·.hasDict)=true
noncomputable def xdO (d:Addr) (fs:List (Str × V)):HO:= .ext λ h=>∃ mA,h.Ns1 d mA/\(∀ f,RelO (fs.lookup f) (mA f))/\PySem.Within mA (fs.map (·.1))
theorem RL {P:Program} {w:World} {H:Hp} {h:Heap} {d:Addr} {fs:List (Str × V)} {mA:Str->Option Value} (hn:h.Ns1 d mA) (hm:∀ f,RelO (fs.lookup f) (mA f)) (hw:PySem.Within mA (fs.map (·.1))):ObjOk P w H h d (xdO d fs):=
  ⟨⟨mA,hn,hm,hw⟩,let ⟨o,_,_,e,_⟩:=hn;⟨o,e⟩,λ _ _ ⟨mA,hn,hm,hw⟩ k=>⟨mA,hn.at k,hm,hw⟩⟩
def RU (K:PySem.W.Frag) (f:Str) (to:TE):TE:=λ σ H Q=>to σ H λ v H1=>∃ a C dx fs y,v= .ref a/\H1 a=some (Fp a C (some dx))/\H1 dx=some (xdO dx fs)/\fs.lookup f=some y/\XKind K C/\findIn K (.ref C) f=some none/\Q y H1
theorem MP {X:Cx} {K:PySem.W.Frag} {o:Expr} {f:Str} {to:TE} {pos:Pos} (ho:PE X o to) (hb:attributeBase o f X.env (eval o X.env)=eval o X.env) (hK:X.K=K:=by rfl):PE X (.Attribute o f pos) (RU K f to):=by
  subst hK;intro pins s σ H Q I h;refine M6 hb (thn (ho pins s σ H _ I h) λ u s1 ⟨v,H1,I1,rv,a,C,dx,fs,y,ev,ha,hdx,hl,k,nf,q⟩=> ?_);subst ev;obtain rfl:u=Value.ref a:=rv;obtain ⟨⟨ob,he,hc,hod,vs,hdat⟩,_⟩:=(show ObjOk X.prog X.w H1 s1.heap a (Fp a C (some dx)) from I1.hok a _ ha);obtain ⟨⟨mA,hn,hm,_⟩,_⟩:=(show ObjOk X.prog X.w H1 s1.heap dx (xdO dx fs) from I1.hok dx _ hdx);obtain ⟨w',hw,rw'⟩:=RelO.some_of (v:=y) (o:=mA f) (by rw [<-hl];exact hm f);exact HT.exc_attr k.toExcKind nf I1.kIn k.hd he hc hdat hod hn hw (Jo rw') ⟨y,H1,I1.tok _,rw',q⟩
end L2
namespace HT
open PySem PySem.Spec PyProof.Rows PySem.W PySem.Calls PySem.Builtin PySem.Builtin.ObjectAttr PySem.Builtin.Getset_descriptor
noncomputable def F3:List Value:=[.type "ValueError", .type "Exception", .type "BaseException", .type "object"]
noncomputable def EO:List Value->Bool
  | .ref _::r=>EO r
  | l=>l == F3
theorem LS (self:Value):refuseLoop self "__setattr__" F3=pure ():=by kernel_rfl
theorem GR:∀ {l:List Value},EO l=true->l=F3\/∃ c r,l= .ref c::r/\EO r=true
  | [],e=> .inl (beq_iff_eq.mp e)
  | v::r,e=>by
    cases v with
    | ref c=>exact .inr ⟨c,r,rfl,e⟩
    | _=>exact .inl (beq_iff_eq.mp e)
theorem Gd (self:Value):∀ (n:Nat) (l:List Value),l.length<=n->EO l=true->refuseLoop self "__setattr__" l=pure ()
  | 0,l,h,e=>by
    have z:=List.length_eq_zero_iff.mp (Nat.le_zero.mp h);subst z;cases e
  | n+1,l,h,e=>by
    rcases GR e with rfl | ⟨c,r,rfl,e'⟩
    · exact LS self
    · rw [refuseLoop_ref];exact Gd self n r (by simp at h;omega) e'
theorem NX {l:List Value} (n:Nat) (h:l.length<=n) (e:EO l=true):l.contains (.type "object")=true:=by
  induction n generalizing l with
  | zero=>
    have z:=List.length_eq_zero_iff.mp (Nat.le_zero.mp h);subst z;cases e
  | succ n ih=>
    rcases GR e with rfl | ⟨c,r,rfl,e'⟩
    · decide
    · rw [List.contains_cons,ih (by simp at h;omega) e',Bool.or_true]
noncomputable def exOver (K:Frag) (C:Addr):Bool:=(clsIn K C).any λ cd=>EO cd.mro
section
variable {prog:Program} {w:World} {A:Around} {E:Value->Shared->Prop} {s:Shared} {K:Frag} {a C dx:Addr} {o:Obj} {f:Str} {mA:Str->Option Value} {v:Value} {vs:Array Value}
theorem MF {Q:Unit->Shared->Prop} (X:K.In s.heap) (hs:findIn K (.ref C) "__setattr__"=some (some (.builtin "object.__setattr__"))) (hp:exOver K C=true) (ht:takerIn K C f=some none) (x:ExcAt a C s.heap)
    (h:∀ b,wpAny (model prog w) A.in1 (storeInOwnDict (.ref a) (.ref C) (.str f s.toks) f v b) (λ fin s'=>match fin with | .done (.ret _)=>Q () s' | _=>False) E { s with toks:=s.toks+1 }):
    wpAny (model prog w) A (setAttr (.ref a) f v) Q E s:=by
  have SF:=PySem.F.store_object;obtain ⟨cd,hc,ho⟩:=any_some hp;have ne:cd.mro.isEmpty=false:=by cases q:cd.mro with | nil=>rw [q] at ho;cases ho | cons _ _=>rfl
  have L0:=x.type (M:=model prog w);have sub:Looks (model prog w) s.heap (isInstance (.ref a) (.type "object")) true:=L0.andThen (looks_mroIn X (by unfold mroIn;rw [hc,Option.bind_some,if_neg (by rw [ne];decide),NX _ (Nat.le_refl _) ho]));obtain ⟨attr,ha,hr⟩:=Option.bind_eq_some_iff.mp ht;have hm:Looks (model prog w) s.heap (mroOf (.ref C)) cd.mro:=(looks_clsIn X hc).andThen .now;have L3:Looks (model prog w) s.heap (storeTaker? attr) none:=by
    cases attr with
    | none=>cases hr;exact .now
    | some a=>
      obtain ⟨b,hb,hbb⟩:=Option.map_eq_some_iff.mp hr;refine (looks_takesIn X hb).andThen ?_;cases b with
      | true=>cases hbb
      | false=>exact .now
  refine wpAny_bind (wpAny_mkText (wpAny_bind (wpAny_bind (wpAny_bind (L0 _ _ _ _ (λ _ _ e=>e) (looks_findIn X hs _ _ _ _ (λ _ _ e=>e) (wpAny_holding ?_)))))));rw [SF.slot.bind];refine wpAny_bind (wpAny_pure (wpAny_bind (wpAny_call (codeAny_call_builtin SF.slot.plain SF.entry (@check_slot (model prog w) _ _ { s with toks:=s.toks+1 } "object.__setattr__" "object" "__setattr__" (.ref a) [.str f s.toks,v] [] _ SF.kind SF.split sub (SF.args (.ref a) (.str f s.toks) v) ?_)))));show wpAny _ _ (Builtin.«object.__setattr__» ⟨[.ref a, .str f s.toks,v],[]⟩) _ _ _;rw [osa_eq,refuse_eq];refine wpAny_bind (wpAny_bind (Looks.here (s:={ s with toks:=s.toks+1 }) L0 (wpAny_bind (Looks.here (s:={ s with toks:=s.toks+1 }) hm ?_))));rw [Gd _ _ _ (Nat.le_refl _) ho];refine wpAny_pure (wpAny_bind (Looks.here (s:={ s with toks:=s.toks+1 }) L0 (wpAny_bind (Looks.here (s:={ s with toks:=s.toks+1 }) (looks_findIn X ha) (wpAny_bind (Looks.here (s:={ s with toks:=s.toks+1 }) L3 ?_))))));refine wpAny_mono (h _) (λ fin s' z=> ?_) λ e s' z=>z;cases fin with
  | again c'=>exact False.elim z
  | done f=>
    cases f with
    | ret u=>exact wpAny_pure (wpAny_pure z)
    | next=>exact False.elim z
    | brk=>exact False.elim z
    | cont=>exact False.elim z
theorem exc_set {ns:List Str} {Q:Unit->Shared->Prop} (X:K.In s.heap) (hs:findIn K (.ref C) "__setattr__"=some (some (.builtin "object.__setattr__"))) (hp:exOver K C=true) (ht:takerIn K C f=some none) (hd:(clsIn K C).any (·.hasDict)=true)
    (he:s.heap.get? a=some o) (hc:o.cls= .ref C) (ho:o.dict=some dx) (hn:s.heap.Ns1 dx mA) (hw:PySem.Within mA ns) (hsz:ns.length<=1000)
    (h:∀ h',h'.Ns1 dx (λ y=>if y=f then some v else mA y)->Heap.SameBut dx s.heap h'->Q () { s with heap:=h',toks:=s.toks+2 }):wpAny (model prog w) A (setAttr (.ref a) f v) Q E s:=by
  refine MF X hs hp ht ⟨o,he,hc⟩ λ b=> ?_;obtain ⟨cd,hcd,hhd⟩:=any_some hd;obtain ⟨oc,od,dat,sl⟩:=o;dsimp only at hc ho;subst hc ho;refine wpAny_bind (wpAny_pure (wpAny_bind (wpAny_bind (wpAny_loadPart he (wpAny_bind (Looks.here (s:={ s with toks:=s.toks+1 }) (looks_clsIn X hcd) ?_))))));rw [hhd];refine wpAny_pure (a:=some dx) (wpAny_bind (wpAny_pure (wpAny_bind ?_)));refine wpAny_nsSet1 (s:={ s with toks:=s.toks+1 }) hn λ h' hn2 hs2=> ?_;obtain ⟨oD,esD,epD,hoD,hdD,hcD⟩:=hn2.count (PySem.Within.cons f v hw);refine wpAny_bind (wpAny_lookBehind hoD (by rw [hdD];exact pastItsLine_dict (Nat.le_trans hcD (by rw [List.length_cons,sizeLine_eq];omega))) ?_);exact wpAny_pure (h _ hn2 hs2)
theorem Ny {M:Model} {sl:Array (Option Value)} {cd:ClassData} {Q:Option Addr->Shared->Prop} (X:K.In s.heap) (hcd:clsIn K C=some cd) (hhd:cd.hasDict=true) (he:s.heap.get? a=some ⟨.ref C,none, .fields vs,sl⟩)
    (h:Q (some s.heap.objs.size) { s with heap:=(s.heap.push { cls:= .type "dict",data:= .dict #[] }).update a (λ o=>{ o with dict:=some s.heap.objs.size }) }):wpAny M A (instanceDict a true) Q E s:=by
  unfold instanceDict;refine wpAny_bind (wpAny_loadPart he ?_);refine wpAny_bind (Looks.here (looks_clsIn X hcd) ?_);rw [hhd];dsimp only [Bool.not_true];rw [if_neg (show ¬ ((!true)=true) from Bool.false_ne_true)];have ht:(!true|| !typeHasDict (.ref C))=false:=rfl;rw [ht,if_neg Bool.false_ne_true];have he1:=Heap.get?_push_of_some { cls:= .type "dict",data:= .dict #[] } he;refine wpAny_bind (wpAny_alloc ?_);refine wpAny_bind (wpAny_update (s:={ s with heap:=s.heap.push { cls:= .type "dict",data:= .dict #[] } }) he1 ?_);unfold dictMade;exact wpAny_pure h
theorem Lt:StrKeys (#[]:Array DictEntry):=λ e he=>absurd he (by simp)
theorem Kb:UniqKeys (#[]:Array DictEntry):=List.Pairwise.nil
theorem exc_set0 {Q:Unit->Shared->Prop} (X:K.In s.heap) (hs:findIn K (.ref C) "__setattr__"=some (some (.builtin "object.__setattr__"))) (hp:exOver K C=true) (ht:takerIn K C f=some none) (hd:(clsIn K C).any (·.hasDict)=true)
    (he:s.heap.get? a=some o) (hc:o.cls= .ref C) (hf:o.data= .fields vs) (ho:o.dict=none)
    (h:∀ h',h'.get? a=some { o with dict:=some s.heap.objs.size }->h'.Ns1 s.heap.objs.size (λ y=>if y=f then some v else none)->(∀ b ob,b≠a->s.heap.get? b=some ob->h'.get? b=some ob)->Q () { s with heap:=h',toks:=s.toks+2 }):
    wpAny (model prog w) A (setAttr (.ref a) f v) Q E s:=by
  refine MF X hs hp ht ⟨o,he,hc⟩ λ b=> ?_;obtain ⟨cd,hcd,hhd⟩:=any_some hd;obtain ⟨oc,od,dat,sl⟩:=o;dsimp only at hc ho hf;subst hc ho hf;have na:a≠s.heap.objs.size:=Nat.ne_of_lt (Heap.lt_size he);have he1:=Heap.get?_push_of_some { cls:= .type "dict",data:= .dict #[] } he;refine wpAny_bind (wpAny_pure (wpAny_bind (Ny (s:={ s with toks:=s.toks+1 }) X hcd hhd he ?_)));have hn1:((s.heap.push { cls:= .type "dict",data:= .dict #[] }).update a (λ o=>{ o with dict:=some s.heap.objs.size })).Ns1 s.heap.objs.size (λ _=>none):=by
    refine ⟨{ cls:= .type "dict",data:= .dict #[] }, #[],0,?_,rfl,Lt,Kb,λ name=>rfl⟩;rw [Heap.get?_update_other _ _ na];exact Heap.get?_push_size _ rfl
  have ha1:((s.heap.push { cls:= .type "dict",data:= .dict #[] }).update a (λ o=>{ o with dict:=some s.heap.objs.size })).get? a=some ⟨.ref C,some s.heap.objs.size, .fields vs,sl⟩:=Heap.get?_update_self _ he1 rfl;have hk:∀ b ob,b≠a->s.heap.get? b=some ob->((s.heap.push { cls:= .type "dict",data:= .dict #[] }).update a (λ o=>{ o with dict:=some s.heap.objs.size })).get? b=some ob:=λ b ob hb e=>by
    rw [Heap.get?_update_other _ _ (Ne.symm hb)];exact Heap.get?_push_of_some _ e
  generalize (s.heap.push { cls:= .type "dict",data:= .dict #[] }).update a (λ o=>{ o with dict:=some s.heap.objs.size })=h1 at hn1 ha1 hk ⊢;show wpAny _ _ (storeInDict s.heap.objs.size (.str f s.toks) f v) _ _ _;unfold storeInDict;refine wpAny_bind (wpAny_pure (wpAny_bind ?_));refine wpAny_nsSet1 (s:={ s with heap:=h1,toks:=s.toks+1 }) hn1 λ h' hn2 hs2=> ?_;obtain ⟨oD,esD,epD,hoD,hdD,hcD⟩:=hn2.count (PySem.Within.cons f v PySem.Within.nil);refine wpAny_bind (wpAny_lookBehind hoD (by rw [hdD];exact pastItsLine_dict (Nat.le_trans hcD (by rw [List.length_cons,sizeLine_eq];simp))) ?_);exact wpAny_pure (h _ ((hs2.2 _ na).trans ha1) hn2 λ b ob hb e=>(hs2.2 b (Nat.ne_of_lt (Heap.lt_size e))).trans (hk b ob hb e))
end
end HT
namespace L2
open PySem PySem.Spec PyProof.Rows PySem.W
structure XSet (K:PySem.W.Frag) (C:Addr):Prop where
  sa:findIn K (.ref C) "__setattr__"=some (some (.builtin "object.__setattr__"))
  ov:HT.exOver K C=true
  hd:(clsIn K C).any (·.hasDict)=true
noncomputable def xnO (a C:Addr) (od:Option Addr):HO:= .ext λ h=>∃ t,h.get? a=some ⟨.ref C,od, .fields #[.ref t, .none, .none, .none, .bool false, .none], #[]⟩
theorem OV {P:Program} {w:World} {H:Hp} {h:Heap} {a C t:Addr} {od:Option Addr} (e:h.get? a=some ⟨.ref C,od, .fields #[.ref t, .none, .none, .none, .bool false, .none], #[]⟩):ObjOk P w H h a (xnO a C od):=
  ⟨⟨t,e⟩,⟨_,e⟩,λ _ _ ⟨t,e⟩ k=>⟨t,k _ e⟩⟩
def Sh (K:PySem.W.Frag) (f:Str) (to tv:TE):TS:=λ D σ H=>tv σ H λ y H1=>to σ H1 λ x H2=>∃ a C od,x= .ref a/\H2 a=some (xnO a C od)/\XSet K C/\takerIn K C f=some none/\
  ((od=none/\∀ dx,H2 dx=none->D.nx σ (upd (upd H2 dx (xdO dx [(f,y)])) a (xnO a C (some dx))))\/∃ dx fs,od=some dx/\H2 dx=some (xdO dx fs)/\fs.length<1000/\D.nx σ (upd H2 dx (xdO dx (AX f y fs))))
theorem M7 {X:Cx} {K:PySem.W.Frag} {o value:Expr} {f:Str} {to tv:TE} {pos pos':Pos} (ha:PE X o to) (hv:PE X value tv) (hs:swapsWith value (some (.Attribute o f pos')) pos.line X.env=pure false) (hK:X.K=K:=by rfl):
    PS X (.Assign [.Attribute o f pos'] value pos) (Sh K f to tv):=by
  subst hK;intro pins s σ H D I h;refine plainObj_wpAny_Assign_Attribute (thn (hv pins s σ H _ I h) λ u s1 ⟨y,H1,I1,ry,q⟩=>thn (ha pins s1 σ H1 _ I1 q) λ ov s2 ⟨x,H2,I2,rx,a,C,od,ex,ea,k,ht,q2⟩=> ?_) hs;subst ex;obtain rfl:ov=Value.ref a:=rx;obtain ⟨⟨t,he⟩,_⟩:=(show ObjOk X.prog X.w H2 s2.heap a (xnO a C od) from I2.hok a _ ea);rcases q2 with ⟨rfl,q2⟩ | ⟨dx,fs,rfl,hdx,hl,q2⟩
  · refine HT.exc_set0 I2.kIn k.sa k.ov ht k.hd he rfl rfl rfl λ h' ha' hn' keep=>⟨σ,_,?_,q2 s2.heap.objs.size I2.fresh⟩;have fr:=I2.fresh;generalize hdx:s2.heap.objs.size=dx at ha' hn' fr ⊢;have na:a≠dx:=λ z=>by rw [z,fr] at ea;cases ea
    have neA:∀ b u,H2 b=some u->(∀ φ,u≠ .ext φ)->b≠a:=λ b u e n z=>by rw [z,ea] at e;cases e;exact n _ rfl
    have neD:∀ b u,H2 b=some u->b≠dx:=λ b u e z=>by rw [z,fr] at e;cases e
    have oD:∀ b ob,s2.heap.get? b=some ob->b≠dx:=λ b ob e z=>by rw [<-hdx] at z;exact absurd (Heap.lt_size e) (by rw [z];exact Nat.lt_irrefl _)
    have eH:∀ b,b≠a->b≠dx->upd (upd H2 dx (xdO dx [(f,y)])) a (xnO a C (some dx)) b=H2 b:=λ b h1 h2=>by rw [Al h1,Al h2]
    refine I2.un (t':=s2.toks+2) ⟨λ b ob e hH hn hx=> ?_,λ b ob e hH hb hx=> ?_,λ b ob e hH hx=> ?_,λ b ob e hx=> ?_,λ b xs e=> ?_,λ b ob u e=> ?_,λ b ps e=> ?_⟩ λ b u e=> ?_
    · exact keep b ob (λ z=>by rw [z,ea] at hH;cases hH) e
    · exact ⟨ob.slots,keep b ob (λ z=>by rw [z,ea] at hH;cases hH) e⟩
    · rw [eH b (λ z=>by rw [z,ea] at hH;cases hH) (oD b ob e)];exact hH
    · by_cases z:b=a
      · rw [z];exact ⟨_,ha'⟩
      · exact ⟨ob,keep b ob z e⟩
    · rw [eH b (neA b _ e λ φ z=>by cases z) (neD b _ e)];exact e
    · rw [eH b (neA b _ e λ φ z=>by cases z) (neD b _ e)];exact e
    · exact ⟨#[],by rw [eH b (neA b _ e λ φ z=>by cases z) (neD b _ e)];simpa using e⟩
    · by_cases z:b=a
      · subst z;rw [Af] at e;cases e;exact OV (t:=t) ha'
      · rw [Al z] at e;by_cases z2:b=dx
        · subst z2;rw [Af] at e;cases e;refine RL hn' (λ g=> ?_) (PySem.Within.cons f _ PySem.Within.nil);show RelO (List.lookup g [(f,y)]) (if g=f then some _ else none);rw [List.lookup_cons];by_cases q:g=f
          · rw [if_pos q,q,beq_self_eq_true];exact ry
          · rw [if_neg q,show (g == f)=false from beq_eq_false_iff_ne.mpr q];exact True.intro
        · rw [Al z2] at e;refine (I2.hok b u e).stay (λ c v hc q=>keep c v ?_ q) (λ c q=> ?_) λ c xs q=> ?_
          · rcases hc with rfl | hc
            · exact z
            · exact neA c _ hc λ φ z=>by cases z
          · rw [eH c (neA c _ q λ φ z=>by cases z) (neD c _ q)];exact q
          · rw [eH c (neA c _ q λ φ z=>by cases z) (neD c _ q)];exact q
  · obtain ⟨⟨mA,hn,hm,hw⟩,_⟩:=(show ObjOk X.prog X.w H2 s2.heap dx (xdO dx fs) from I2.hok dx _ hdx);refine HT.exc_set I2.kIn k.sa k.ov ht k.hd he rfl rfl hn hw (by rw [List.length_map];omega) λ h' hn' sb=>⟨σ,_,?_,q2⟩;refine I2.write (x:=dx) (e:=dx) (t':=s2.toks+2) (by rw [hdx];exact True.intro) (.inl rfl) (λ b q hb z=>(sb.2 b hb).trans z) (let ⟨o,_,_,e,_⟩:=hn';⟨o,e⟩) (RL hn' (λ g=> ?_) λ g hg=> ?_)
    · show RelO ((AX f y fs).lookup g) (if g=f then some u else mA g);rw [Ep];by_cases q:g=f
      · rw [if_pos q,if_pos q];exact ry
      · rw [if_neg q,if_neg q];exact hm g
    · by_cases q:g=f
      · rw [q];exact (Di f y fs).1
      · refine (Di f y fs).2 g (hw g λ z=>hg ?_);show (if g=f then some u else mA g)=none;rw [if_neg q];exact z
end L2
namespace HT
open PySem PySem.Spec PyProof.Rows PySem.W PySem.Calls PySem.Builtin
noncomputable def iniIn (K:Frag) (C fi:Addr):Bool:=match K.lookup C with
  | some ⟨.type "type",_, .cls cd,sl⟩=>(match cd.mro,sl.toList with
    | .ref C'::bm,[_,_,_,_,some (.builtin n),_]=>C' == C&&n == "ValueError.__new__"&& !cd.hasDel&&tailIn K F3 bm&&nsOkIn K cd.ns&&nsIn K cd.ns "__init__" == some (some (.ref fi))
    | _,_=>false)
  | _=>false
def IniAt (h:Heap) (C fi:Addr):Prop:=∃ bm N nm q bs hdct sn sub ab col dd k0 k1 k2 k3 k5 mN,h.get? C=some (excClassObj nm q C N bs bm hdct sn sub ab col dd k0 k1 k2 k3 k5 "ValueError.__new__")/\h.Ns N mN/\mN "__init__"=some (.ref fi)/\OwnTail h F3 bm
theorem L4 {K:Frag} {h:Heap} {N:Addr} {mg:Str->Option Value} {n:Str} {v:Value} (X:K.In h) (G:h.Ns N mg) (e:nsIn K N n=some (some v)):mg n=some v:=by
  obtain ⟨o,es,ep,ho,hd,_,hf⟩:=G;unfold nsIn at e;split at e
  · rename_i c d es' n' sl q
    have:=X _ _ q;rw [ho] at this;cases this;cases hd;split at e
    · rename_i en he
      cases e;rw [<-hf];unfold nsFind findBy;rw [<-Array.find?_toList,he];rfl
    · split at e
      · cases e
      · cases e
  · cases e
theorem ini_of {K:Frag} {h:Heap} {C fi:Addr} (X:K.In h) (q:iniIn K C fi=true):IniAt h C fi:=by
  unfold iniIn at q;split at q
  · rename_i dd cd sl ho
    split at q
    · rename_i C' bm k0 k1 k2 k3 n k5 hm' hs
      simp only [Bool.and_eq_true,beq_iff_eq,Bool.not_eq_true'] at q;obtain ⟨⟨⟨⟨⟨rfl,rfl⟩,hdel⟩,ht⟩,hok⟩,hni⟩:=q;obtain ⟨nm,bs,mro,ns,qn,hd,sn,sub,ab,col,del⟩:=cd;dsimp only at hm' hdel hok hni;subst hm' hdel;obtain ⟨l⟩:=sl;have hsl:l=[k0,k1,k2,k3,some (.builtin "ValueError.__new__"),k5]:=hs;subst hsl;exact ⟨bm,ns,nm,qn,bs,hd,sn,sub,ab,col,dd,k0,k1,k2,k3,k5,_,X _ _ ho, .of_isNs (isNs_of_in X hok),L4 X (.of_isNs (isNs_of_in X hok)) hni,tail_of_in X ht⟩
    · cases q
  · cases q
section
variable {prog:Program} {w:World} {A:Around} {E:Value->Shared->Prop} {s:Shared} {K:Frag} {a C fi t0:Addr} {od:Option Addr} {u:Value}
theorem exc_initB {Q:Value->Shared->Prop} (i:IniAt s.heap C fi) (he:s.heap.get? a=some ⟨.ref C,od, .fields #[.ref t0, .none, .none, .none, .bool false, .none], #[]⟩)
    (h:∀ h',h'.get? a=some ⟨.ref C,od, .fields #[.ref s.heap.objs.size, .none, .none, .none, .bool false, .none], #[]⟩->(∀ b ob,b≠a->s.heap.get? b=some ob->h'.get? b=some ob)->Q .none { s with heap:=h' }):
    wpAny (model prog w) A (call (.builtin "ValueError.__init__") [.ref a,u]) Q E s:=by
  obtain ⟨bm,N,nm,q,bs,hdct,sn,sub,ab,col,dd,k0,k1,k2,k3,k5,mN,hC,hN,hi,T⟩:=i;obtain ⟨hh,g,d,t,os⟩:=s;have F:=PySem.F.excBase_ValueError;refine wpAny_call (codeAny_call_builtin F.init.plain F.initEntry (wpAny_check_init_subT F T hC he rfl ?_))
  wp_walk
  have he1:=Heap.get?_push_of_some { cls:= .type "tuple",data:= .seq #[u] } he;refine h _ (Heap.get?_update_self _ he1 rfl) λ b ob hb e=> ?_;rw [Heap.get?_update_other _ _ (Ne.symm hb)];exact Heap.get?_push_of_some _ e
theorem exc_make {R:Result->Shared->Prop} {rest:List Value} (X:K.In s.heap) (i:IniAt s.heap C fi) (hf:typeIn K (.ref fi)=some (.type "function")) (hrest:rest.length<=1000)
    (h:codeAny (model prog w) (A.under (.builtin "type.__call__" ⟨.ref C::rest,[]⟩)) (.call (.ref fi) ⟨.ref (s.heap.objs.size+1)::rest,[]⟩) (InitBack (s.heap.objs.size+1) R)
      { s with heap:=(s.heap.push { cls:= .type "tuple",data:= .seq rest.toArray }).push { cls:= .ref C,data:= .fields #[.ref s.heap.objs.size, .none, .none, .none, .bool false, .none] } }):
    codeAny (model prog w) A (.call (.ref C) ⟨rest,[]⟩) R s:=by
  obtain ⟨bm,N,nm,q,bs,hdct,sn,sub,ab,col,dd,k0,k1,k2,k3,k5,mN,hC,hN,hi,T⟩:=i;obtain ⟨hh,g,d,t,os⟩:=s;have F:=PySem.F.excBase_ValueError;have f1:=tc_lookup;have f2:=tc_bind (.ref C);have hT:(⟨hh,g,d,t,os⟩:Shared).TypeIs (.ref C) "type":=⟨_,hC,rfl⟩;refine codeAny_of_tree ?_;show wpAny _ _ (callAny (.ref C) _) _ _ _
  repeat (any_goals (first | assumption | with_reducible refine wpAny_loadPart_at hC ?_ | wp_step))
  refine ⟨rfl,?_⟩;refine codeAny_call_builtin_at (Code.quiet_builtin _ (by decide +kernel)) entry_typeCall (wpAny_check_type_call_sub hC ?_);show wpAny _ _ (Builtin.«type.__call__» ⟨.ref C::rest,[]⟩) _ _ _
  repeat (first | with_reducible refine wpAny_loadPart_at hC ?_ | with_reducible refine wpAny_madeBy_exc hC ?_ | wp_step)
  refine codeAny_call_builtin_code (Code.quiet_builtin _ F.quiet) (wpAny_check_new_subT F T hC ?_);refine codeAny_exc_new_subT F T hC ?_ (Nat.le_trans hrest (by decide));show wpAny _ _ _ _ _ _;have kp:∀ b o,hh.get? b=some o->((hh.push { cls:= .type "tuple",data:= .seq rest.toArray }).push { cls:= .ref C,data:= .fields #[.ref hh.objs.size, .none, .none, .none, .bool false, .none] }).get? b=some o:=λ b o e=>Heap.get?_push_of_some _ (Heap.get?_push_of_some _ e);have hC₁:=kp _ _ hC;have hn₁:=hN.keeps kp;have hget:((hh.push { cls:= .type "tuple",data:= .seq rest.toArray }).push { cls:= .ref C,data:= .fields #[.ref hh.objs.size, .none, .none, .none, .bool false, .none] }).get? (hh.objs.size+1)=some { cls:= .ref C,data:= .fields #[.ref hh.objs.size, .none, .none, .none, .bool false, .none] }:=by heap_get
  have hcC:(Value.ref C::bm).contains (.ref C)=true:=by simp
  have T₁:=T.keeps kp;unfold isInstance
  repeat (first | with_reducible refine wpAny_loadPart_at hget ?_ | (with_reducible refine wpAny_isSubtype_exc hC₁ ?_;rw [hcC]) | wp_step)
  show wpAny _ _ (typeLookup (.ref C) _) _ _ _;refine wpAny_typeLookup_tail hC₁ hn₁ T₁ F.mroIs F.init.lookup ?_;rw [hi];have b1:=bind_fn (M:=model prog w) (Frag.In.keeps X kp) (.ref (hh.objs.size+1)) hf
  repeat (first | with_reducible refine wpAny_call ?_ | lk)
  refine codeAny_mono h λ r s' z=> ?_;rcases r with e | (v | _ | _ | _) <;> first | exact z | exact z.elim | skip;obtain ⟨rfl,z⟩:=z;exact wpAny_pure (wpAny_pure z)
end
end HT
namespace L2
open PySem PySem.Spec PyProof.Rows PySem.W
def YI (te:TE):TE:=λ σ H Q=>te σ H λ v H1=>(∃ i:Int,v= .int i/\i.natAbs.log2<1920/\Q (.str (Str.ofString (toString i))) H1)\/∃ x:Str,v= .str x/\x.length<=100000/\Q (.str x) H1
theorem OS {X:Cx} {e:Expr} {te:TE} {pos:Pos} (he:PE X e te):PE X (.FormattedValue e (-1) none pos) (YI te):=by
  intro pins s σ H Q I h;refine FormattedValue_plain (thn (he pins s σ H _ I h) λ u s1 ⟨v,H1,I1,rv,q⟩=> ?_);rcases q with ⟨i,rfl,hi,q⟩ | ⟨x,rfl,hx,q⟩
  · obtain ⟨t,rfl⟩:=rv;exact formatField_int_small hi ⟨.str _,H1,I1.tok _,⟨_,rfl⟩,q⟩
  · obtain ⟨t,rfl⟩:=rv;exact formatField_str (λ t' tk=>⟨.str _,H1,I1.tok _,⟨_,rfl⟩,q⟩) (Nat.le_trans hx (by decide))
def PEs (X:Cx):List Expr->List TE->Prop
  | [],[]=>True
  | e::es,t::ts=>PE X e t/\PEs X es ts
  | _,_=>False
theorem Rq {X:Cx}:PEs X [] []:=trivial
theorem FS {X:Cx} {e:Expr} {es:List Expr} {t:TE} {ts:List TE} (h:PE X e t) (hs:PEs X es ts):PEs X (e::es) (t::ts):=⟨h,hs⟩
def JG:List TE->Str->St->Hp->VK->Prop
  | [],out,_,H,Q=>Q (.str out) H
  | t::ts,out,σ,H,Q=>t σ H λ v H1=>∃ y,v= .str y/\(out++y).length<=100000/\JG ts (out++y) σ H1 Q
theorem Lx {X:Cx}:∀ (es:List Expr) (ts:List TE) (out:Str) (pins:List (Addr × Obj)) (s:Shared) (σ:St) (H:Hp) (Q:VK),PEs X es ts->out.length<=100000->Inv X pins σ H s->JG ts out σ H Q->
    wpAny (model X.prog X.w) X.A (joinParts out (evalEach es X.env)) (EP X pins σ Q) X.xe s
  | [],[],out,pins,s,σ,H,Q,_,hl,I,h=>joinParts_nil ⟨.str _,H,I.tok _,⟨_,rfl⟩,h⟩ (Nat.le_trans hl (by decide))
  | e::es,t::ts,out,pins,s,σ,H,Q,⟨he,hes⟩,hl,I,h=>by
    refine joinParts_cons (thn (he pins s σ H _ I h) λ u s1 ⟨v,H1,I1,rv,y,ev,hz,q⟩=> ?_);subst ev;obtain ⟨tk,rfl⟩:=rv;exact ⟨Nat.le_trans hz (by decide),Lx es ts (out++y) pins s1 σ H1 Q hes hz I1 q⟩
theorem NQ {X:Cx} {v₁ v₂:Expr} {rest:List Expr} {ts:List TE} {pos:Pos} (h:PEs X (v₁::v₂::rest) ts):PE X (.JoinedStr (v₁::v₂::rest) pos) (JG ts Str.empty):=by
  intro pins s σ H Q I hq;exact JoinedStr_many (Lx _ ts Str.empty pins s σ H Q h (by decide) I hq)
theorem Ow {H:Hp} {a:Addr} {o:HO} (h:H a=some o):upd H a o=H:=by
  funext b;by_cases z:b=a
  · rw [z,Af,h]
  · rw [Al z]
structure XBase (K:PySem.W.Frag) (CL:Addr):Prop where
  sp:specialIn K (.ref CL) "__getattribute__"=some (some (.builtin "type.__getattribute__"))
  rd:readsIn K CL (.type "type")=true
  fc:findCls K (.ref CL) (.type "type") "__init__"=some (.val (.builtin "ValueError.__init__"))
def OB (K:PySem.W.Frag) (t:TA):TE:=λ σ H Q=>t σ H λ vs H1=>∃ a C od fi z,vs=[.ref a, .str z]/\H1 a=some (xnO a C od)/\HT.iniIn K C fi=true/\Q .non H1
theorem O5 {pl:Sem Bool} {X:Cx} {K:PySem.W.Frag} {x:Str} {CL:Addr} {p apos pos:Pos} {e₁ e₂:Expr} {t:TA} (hm:X.mg x=some (.ref CL)) (b:XBase K CL) (ha:PA X [e₁,e₂] t) (hK:X.K=K:=by rfl) (hg:Gl X x:=by rfl) (hd:(x == ("__debug__":Str))=false:=by decide)
    (he:starEach [e₁,e₂] X.env=(false,eval e₁ X.env)::starEach [e₂] X.env:=by rfl) (hpl:(backTo pos (starEach [e₂] X.env)).any (·.1)=false:=by rfl)
    (ht:eval (.Call (.Attribute (.Name x p) "__init__" apos) [e₁,e₂] [] pos) X.env=(do
      let ov <-eval (.Name x p) X.env
      standAt apos.atName
      let (f,first) <-holding [ov] (getMethod ov "__init__" pl)
      callWith pos f first (backTo pos (starEach [e₁,e₂] X.env)) (backToKw pos (keywordEach [] X.env))):=by rfl):
    PE X (.Call (.Attribute (.Name x p) "__init__" apos) [e₁,e₂] [] pos) (OB K t):=by
  subst hK;intro pins s σ H Q I h;refine PySem.W.methodCall_KW (pl:=pl) (EL I hg hm ?_ hd) ht;refine method_cls I.kIn b.sp (cls_value I.kIn b.rd b.fc (by decide +kernel) ?_);have I0:Inv X pins σ H { s with toks:=s.toks+1 }:=I.tok _;refine PyProof.Rows.callWith_builtin1 (thn (ha pos pins _ σ H _ I0 h) λ us s1 ⟨vs,H1,I1,r1,a,C,od,fi,z,ev,ea,hi,q⟩=> ?_) he hpl;subst ev;obtain ⟨u1,u2,rfl,r1',r2'⟩:=LD r1;obtain rfl:u1=Value.ref a:=r1';obtain ⟨⟨t0,hea⟩,_⟩:=(show ObjOk X.prog X.w H1 s1.heap a (xnO a C od) from I1.hok a _ ea);refine HT.exc_initB (HT.ini_of I1.kIn hi) hea λ h' ha' keep=>⟨.non,H1,?_,rfl,q⟩;have J:=I1.write (x:=a) (e:=a) (o:=xnO a C od) (t':=s1.toks) (by rw [ea];exact True.intro) (.inl rfl) (λ b ob hb e=>keep b ob hb e) ⟨_,ha'⟩ (OV ha');rw [Ow ea] at J;exact J
section
variable {P:Program} {w:World} {K:PySem.W.Frag} {mg:Str->Option Value} {base:Heap} {N:List Str} {qual:Str} {scope:Scope} {f:Addr} {cd:Value} {A:Around} {outer:List Env} {s₀:Shared} {H₀:Hp} {E:XK}
theorem TL {H:Hp} {h:Heap} {e C:Addr} {od:Option Addr} (hok:HOk P w H h) (ea:H e=some (xnO e C od)):HOk P w (bar e H) h:=λ b u eb=>by
  have hb:b≠e:=λ z=>by
    have:=(if_pos z).symm.trans eb;cases this
  have eb:H b=some u:=(if_neg hb).symm.trans eb;have ne:∀ c v,H c=some v->(∀ φ,v≠ .ext φ)->c≠e:=λ c v q n z=>by rw [z,ea] at q;cases q;exact n _ rfl
  exact (hok b u eb).stay (λ c v _ q=>q) (λ c q=>(if_neg (ne c _ q λ φ z=>by cases z)).trans q) λ c xs q=>(if_neg (ne c _ q λ φ z=>by cases z)).trans q
theorem NN {pins:List (Addr × Obj)} {σ:St} {H:Hp} {s:Shared} {e C t:Addr} {od:Option Addr} (I:Inv (B0 (CXE P w) P w K mg base N qual scope f cd A outer s₀ H₀ E) pins σ H s)
    (he:s.heap.get? e=some ⟨.ref C,od, .fields #[.ref t, .none, .none, .none, .bool false, .none], #[]⟩) (ea:H e=some (xnO e C od)) (new:s₀.heap.get? e=none) (q:E (.ref C) od (bar e H)):
    (B0 (CXE P w) P w K mg base N qual scope f cd A outer s₀ H₀ E).xe (.ref e) s:=by
  have hfr:(envOfC qual scope s₀.heap.objs.size f cd).frame=some s₀.heap.objs.size:=rfl;have hfs:frs (envOfC qual scope s₀.heap.objs.size f cd::outer)=s₀.heap.objs.size::frs outer:=El hfr;have hen:(PySem.W.hideAll s.heap (e::frs (envOfC qual scope s₀.heap.objs.size f cd::outer))).get? e=none:=PySem.W.hideAll_none _ List.mem_cons_self;have key:=wpAny_leaving_firstW (M:=model P w) (A:=A.deeper (envOfC qual scope s₀.heap.objs.size f cd)) (E:=λ _ _=>False) (s:=s) (base:=PySem.W.hideAll s.heap (e::frs (envOfC qual scope s₀.heap.objs.size f cd::outer))) (a0:= .ref t)
    (Q:=λ _ s'=>∃ h2,s'={ s with heap:=h2 }/\Heap.LeftW (PySem.W.hideAll s.heap (e::frs (envOfC qual scope s₀.heap.objs.size f cd::outer))) (envOfC qual scope s₀.heap.objs.size f cd::outer) e (.ref C) (.ref t) s.heap h2)
    I.ok.frames (Go I.stack λ b hb=>PySem.W.hideAll_none _ (List.mem_cons_of_mem _ hb)) hfr he (λ b o e=>PySem.W.of_hideAll _ e) hen rfl rfl rfl λ h2 hl=>⟨h2,rfl,hl⟩
  refine wpAny_mono (Dh (FA _ _) key) (λ _ s' ⟨⟨h2,es,hl⟩,kd⟩=> ?_) λ _ _ z=>z.1.elim;subst es;obtain ⟨k1,⟨_,_,k2⟩,k3,ups⟩:=hl;have ib:Un (frs outer) [] H₀ H s₀.heap s.heap:=I.base;have nl:∀ b o,s₀.heap.get? b=some o->b≠s₀.heap.objs.size:=λ b o e=>Nat.ne_of_lt (Heap.lt_size e);have nE:∀ b o,s₀.heap.get? b=some o->b≠e:=λ b o q z=>by rw [z,new] at q;cases q
  have inB:∀ b o,s.heap.get? b=some o->b≠e->b∉frs (envOfC qual scope s₀.heap.objs.size f cd::outer)->h2.get? b=some o:=λ b o q h1 h3=>k1 b o (PySem.W.hideAll_get _ q λ z=>by
    rcases List.mem_cons.mp z with z | z
    · exact h1 z
    · exact h3 z)
  have notin:∀ b o,s₀.heap.get? b=some o->b∉frs outer->b∉frs (envOfC qual scope s₀.heap.objs.size f cd::outer):=λ b o e hn z=>by
    rw [hfs] at z;rcases List.mem_cons.mp z with z | z
    · exact nl b o e z
    · exact hn z
  have isin:∀ b,b∈frs outer->b∈frs (envOfC qual scope s₀.heap.objs.size f cd::outer):=λ b hb=>by rw [hfs];exact List.mem_cons_of_mem _ hb
  have neX:∀ b v,H b=some v->(∀ φ,v≠ .ext φ)->b≠e:=λ b v q n z=>by rw [z,ea] at q;cases q;exact n _ rfl
  have barN:∀ b,bar e H b≠none->b≠e/\H b≠none:=λ b hb=>by
    by_cases z:b=e
    · exact absurd (if_pos z) hb
    · exact ⟨z,λ q=>hb ((if_neg z).trans q)⟩
  have fl:Heap.FlyingW (PySem.W.hideAll s.heap (e::frs (envOfC qual scope s₀.heap.objs.size f cd::outer))) outer e (.ref C) (.ref t) h2:=⟨k1,hen,k2,k3⟩;refine ⟨e,C,t,od,bar e H,rfl,I.os,I.bare,?_,(TL I.hok ea).on λ b u hb q=>inB b u q (barN b hb).1 (λ z=>(barN b hb).2 (I.stkFree b z)),⟨_,fl,λ b hb hn o q=> ?_⟩,DictIs.on ⟨_,he,rfl⟩ kd (let ⟨o,e,_⟩:=fl.there;⟨o,e⟩),q⟩
  · refine ⟨λ b o q hH hn _=> ?_,λ b o q hH hb _=> ?_,λ b o q hH _=> ?_,λ b o q _=> ?_,λ b xs q=> ?_,λ b o u q=> ?_,λ b ps q=> ?_⟩
    · exact inB b o (ib.keep b o q hH hn (by simp)) (nE b o q) (notin b o q hn)
    · obtain ⟨sl,e1⟩:=ib.slot b o q hH hb (by simp);obtain ⟨_,o',e',nf⟩:=Bj I.stack (isin b hb);rw [e1] at e';cases e';obtain ⟨sl3,e3⟩:=ups b _ e1 nf;exact ⟨sl3,e3⟩
    · exact (if_neg (nE b o q)).trans (ib.free b o q hH (by simp))
    · obtain ⟨o1,e1⟩:=ib.there b o q (by simp);by_cases hb:b∈frs outer
      · obtain ⟨_,o',e',nf⟩:=Bj I.stack (isin b hb);obtain ⟨sl3,e3⟩:=ups b _ e' nf;exact ⟨_,e3⟩
      · exact ⟨o1,inB b o1 e1 (nE b o q) (notin b o q hb)⟩
    · have:=ib.tups b xs q;exact (if_neg (neX b _ this λ φ z=>by cases z)).trans this
    · have:=ib.frzs b o u q;exact (if_neg (neX b _ this λ φ z=>by cases z)).trans this
    · obtain ⟨m,this⟩:=ib.tbls b ps q;exact ⟨m,(if_neg (neX b _ this λ φ z=>by cases z)).trans this⟩
  · have hbe:b≠e:=by
      rcases hb with hb | ⟨o1,e1⟩
      · exact (barN b hb).1
      · exact nE b o1 e1
    have hn2:b∉frs (envOfC qual scope s₀.heap.objs.size f cd::outer):=λ z=>by
      rcases hb with hb | ⟨o1,e1⟩
      · exact (barN b hb).2 (I.stkFree b z)
      · exact notin b o1 e1 hn z
    obtain ⟨o2,e2⟩:∃ o2,s.heap.get? b=some o2:=by
      rcases hb with hb | ⟨o1,e1⟩
      · cases hx:H b with
        | none=>exact absurd hx (barN b hb).2
        | some u=>exact HL (I.hok b u hx)
      · exact ib.there b o1 e1 (by simp)
    have e3:=inB b o2 e2 hbe hn2;have q:h2.get? b=some o:=q;rw [q] at e3;cases e3;exact PySem.W.hideAll_get _ e2 λ z=>by
      rcases List.mem_cons.mp z with z | z
      · exact hbe z
      · exact hn2 z
end
end L2
namespace HT
open PySem PySem.Spec PyProof.Rows PySem.W PySem.Calls PySem.Builtin
theorem raise_made {M:Model} {A:Around} {E:Value->Shared->Prop} {s:Shared} {env:Env} {C fi:Addr} {x:Sem Value} {Q:Flow->Shared->Prop} (hh:A.handled=none)
    (h:wpAny M A x (λ v s₁=>∃ e t od,v= .ref e/\IniAt s₁.heap C fi/\s₁.heap.get? e=some ⟨.ref C,od, .fields #[.ref t, .none, .none, .none, .bool false, .none], #[]⟩/\E (.ref e) s₁) E s):
    wpAny M A (raiseStmt env (some x) none) Q E s:=by
  unfold raiseStmt;refine wpAny_bind (wpAny_mono h (λ v s₁ h₁=> ?_) λ _ _ x=>x);obtain ⟨e,t,od,rfl,⟨bm,N,nm,q,bs,hdct,sn,sub,ab,col,dd,k0,k1,k2,k3,k5,mN,hC,hN,hi,T⟩,he,hE⟩:=h₁;have hcB:(Value.ref C::bm).contains (.type "BaseException")=true:=by rw [List.contains_cons,T.hasType PySem.F.excBase_ValueError.hasBase,Bool.or_true]
  obtain ⟨hp,g,d,tk,os⟩:=s₁
  repeat (first | with_reducible refine wpAny_loadPart_at he ?_ | with_reducible refine wpAny_loadPart_at hC ?_ | (with_reducible refine wpAny_isSubtype_exc hC ?_;rw [hcB]) | wp_step)
  exact wpAny_raiseNew_none hh hE
end HT
namespace L2
open PySem PySem.Spec PyProof.Rows PySem.W
structure MkI (K:PySem.W.Frag) (C fi:Addr):Prop where
  ini:HT.iniIn K C fi=true
  fn:isFn K (.ref fi)=true
  kp:keepIn K (.ref C)=true
def Ku (E:XK) (C:Addr) (sp:Sp) (t:TA):TS:=λ _ σ H=>t σ H λ vs H1=>vs.length<=900/\∀ a,H1 a=none->sp (.ref a::vs) (upd H1 a (xnO a C none)) (λ v H2=>v= .non/\∃ od,H2 a=some (xnO a C od)/\E (.ref C) od (bar a H2)) E0
theorem NH {P:Program} {w:World} {K:PySem.W.Frag} {mg:Str->Option Value} {base:Heap} {N:List Str} {qual:Str} {scope:Scope} {f:Addr} {cd:Value} {A:Around} {outer:List Env} {s₀:Shared} {H₀:Hp} {E:XK} {k:Nat} {x:Str} {C fi:Addr} {fd:FuncData} {ps:List Str} {sp:Sp} {e₀:Expr} {rest:List Expr} {np cpos pos:Pos} {t:TA}
    (hm:mg x=some (.ref C)) (M:MkI K C fi) (F:FnOk P w K mg base CX0 k fi fd ps sp) (hb:Binds K fd ps []) (hr:Room (k+1) (A.deeper (envOfC qual scope s₀.heap.objs.size f cd)))
    (ha:PA (B0 (CXE P w) P w K mg base N qual scope f cd A outer s₀ H₀ E) (e₀::rest) t)
    (he:starEach (e₀::rest) (envOfC qual scope s₀.heap.objs.size f cd)=(false,eval e₀ (envOfC qual scope s₀.heap.objs.size f cd))::starEach rest (envOfC qual scope s₀.heap.objs.size f cd):=by rfl)
    (hpl:(backTo cpos (starEach rest (envOfC qual scope s₀.heap.objs.size f cd))).any (·.1)=false:=by rfl)
    (hg:Gl (B0 (CXE P w) P w K mg base N qual scope f cd A outer s₀ H₀ E) x:=by rfl) (hd:(x == ("__debug__":Str))=false:=by decide):
    PS (B0 (CXE P w) P w K mg base N qual scope f cd A outer s₀ H₀ E) (.Raise (some (.Call (.Name x np) (e₀::rest) [] cpos)) none pos) (Ku E C sp t):=by
  intro pins s σ H D I h;rw [arm_exec_Raise];refine wpAny_bind (wpAny_standAt ?_);show wpAny _ _ (raiseStmt _ (some (do let v <-eval (.Call (.Name x np) (e₀::rest) [] cpos) (envOfC qual scope s₀.heap.objs.size f cd);standAt pos;pure v)) none) _ _ _;refine HT.raise_made (C:=C) (fi:=fi) (I.ok.hd rfl) (wpAny_bind (wpAny_mono (Q:=λ v s₁=>∃ e t od,v= .ref e/\HT.IniAt s₁.heap C fi/\s₁.heap.get? e=some ⟨.ref C,od, .fields #[.ref t, .none, .none, .none, .bool false, .none], #[]⟩/\(B0 (CXE P w) P w K mg base N qual scope f cd A outer s₀ H₀ E).xe (.ref e) s₁) ?_ (λ v s₃ h₃=>wpAny_bind (wpAny_standAt (wpAny_pure h₃))) λ _ _ x=>x));refine wpAny_Call_Name_kw (EL I hg hm ?_ hd);refine PySem.W.callWith_K (h₀:=base) I.ok.mod.kin M.kp (thn (ha cpos pins s σ H _ I h) λ us s1 ⟨vs,H1,I1,r,hl,q⟩=>⟨I1.kIn,?_⟩) he hpl;have hq:=q (s1.heap.objs.size+1) (I1.hok.fresh (Nat.le_succ _));have hl':us.length<=1000:=by rw [<-r.length];omega
  have kp:∀ b o,s1.heap.get? b=some o->((s1.heap.push { cls:= .type "tuple",data:= .seq us.toArray }).push { cls:= .ref C,data:= .fields #[.ref s1.heap.objs.size, .none, .none, .none, .bool false, .none] }).get? b=some o:=λ b o e=>Heap.get?_push_of_some _ (Heap.get?_push_of_some _ e);have hget:((s1.heap.push { cls:= .type "tuple",data:= .seq us.toArray }).push { cls:= .ref C,data:= .fields #[.ref s1.heap.objs.size, .none, .none, .none, .bool false, .none] }).get? (s1.heap.objs.size+1)=some { cls:= .ref C,data:= .fields #[.ref s1.heap.objs.size, .none, .none, .none, .bool false, .none] }:=by heap_get
  have I2:=I1.laid (a:=s1.heap.objs.size+1) (o:=xnO (s1.heap.objs.size+1) C none) (t':=s1.toks) kp (Nat.le_succ _) (OV hget);have r2:Vals (V.ref (s1.heap.objs.size+1)::vs) (Value.ref (s1.heap.objs.size+1)::us):= .cons rfl r;have hlen:(Value.ref (s1.heap.objs.size+1)::us).length=ps.length:=by
    have e:=r2.length;rw [F.len _ _ _ _ hq] at e;exact e.symm
  refine wpAny_call (HT.exc_make I1.kIn (HT.ini_of I1.kIn M.ini) (beq_iff_eq.mp M.fn) hl' (codeAny_mono (F.run _ _ _ _ ⟨Value.ref (s1.heap.objs.size+1)::us,[]⟩ (Value.ref (s1.heap.objs.size+1)::us) _ _ E0 (hr.make C us [])
    (I2.env0.make C us []) (by have:=hb _ (Value.ref (s1.heap.objs.size+1)::us) I2.kIn (by simpa using hlen);simpa using this) r2 hq) λ r s' hq'=> ?_))
  cases r with
  | error e=>exact False.elim hq'
  | ok fl=>
    cases fl with
    | ret u=>
      obtain ⟨v,H',I3,rv,ev,od,e3,q3⟩:=I2.after hq';subst ev;obtain ⟨⟨t0,he3⟩,_⟩:=(show ObjOk P w H' s'.heap (s1.heap.objs.size+1) (xnO (s1.heap.objs.size+1) C od) from I3.hok _ _ e3);refine ⟨rv,⟨s1.heap.objs.size+1,t0,od,rfl,HT.ini_of I3.kIn M.ini,he3,NN I3 he3 e3 ?_ q3⟩⟩;exact Heap.get?_none_of_le (Nat.le_trans I1.sz (Nat.le_succ _))
    | next=>exact False.elim hq'
    | brk=>exact False.elim hq'
    | cont=>exact False.elim hq'
def Mx (P:Program) (w:World) (K:PySem.W.Frag) (mg:Str->Option Value) (base:Heap) (x:Str) (C:Addr) (k:Nat) (ps:List Str) (sp:Sp):Prop:=
  ∃ fi fd,mg x=some (.ref C)/\MkI K C fi/\FnOk P w K mg base CX0 k fi fd ps sp/\Binds K fd ps []
theorem Jx {P:Program} {w:World} {K:PySem.W.Frag} {mg:Str->Option Value} {base:Heap} {N:List Str} {qual:Str} {scope:Scope} {f:Addr} {cd:Value} {A:Around} {outer:List Env} {s₀:Shared} {H₀:Hp} {E:XK} {k:Nat} {x:Str} {C:Addr} {ps:List Str} {sp:Sp} {e₀:Expr} {rest:List Expr} {np cpos pos:Pos} {t:TA}
    (h:Mx P w K mg base x C k ps sp) (hr:Room (k+1) (A.deeper (envOfC qual scope s₀.heap.objs.size f cd))) (ha:PA (B0 (CXE P w) P w K mg base N qual scope f cd A outer s₀ H₀ E) (e₀::rest) t)
    (he:starEach (e₀::rest) (envOfC qual scope s₀.heap.objs.size f cd)=(false,eval e₀ (envOfC qual scope s₀.heap.objs.size f cd))::starEach rest (envOfC qual scope s₀.heap.objs.size f cd):=by rfl)
    (hpl:(backTo cpos (starEach rest (envOfC qual scope s₀.heap.objs.size f cd))).any (·.1)=false:=by rfl)
    (hg:Gl (B0 (CXE P w) P w K mg base N qual scope f cd A outer s₀ H₀ E) x:=by rfl) (hd:(x == ("__debug__":Str))=false:=by decide):
    PS (B0 (CXE P w) P w K mg base N qual scope f cd A outer s₀ H₀ E) (.Raise (some (.Call (.Name x np) (e₀::rest) [] cpos)) none pos) (Ku E C sp t):=by
  obtain ⟨fi,fd,hm,M,F,hb⟩:=h;exact NH hm M F hb hr ha he hpl hg hd
section
variable {K:PySem.W.Frag} {σ:St} {H:Hp} {Q:VK} {D:Ends} {f:Str} {to tv te:TE} {t:TA} {E:XK} {C:Addr} {sp:Sp} {ts:List TE} {out:Str}
theorem Ia (h:findIn K (.ref C) f=some none):takerIn K C f=some none:=by unfold takerIn;rw [h];rfl
theorem Pk (h:t σ H λ vs H1=>∃ a C od fi z,vs=[.ref a, .str z]/\H1 a=some (xnO a C od)/\HT.iniIn K C fi=true/\Q .non H1):OB K t σ H Q:=h
theorem MC (h:tv σ H λ y H1=>to σ H1 λ x H2=>∃ a C od,x= .ref a/\H2 a=some (xnO a C od)/\XSet K C/\takerIn K C f=some none/\
  ((od=none/\∀ dx,H2 dx=none->D.nx σ (upd (upd H2 dx (xdO dx [(f,y)])) a (xnO a C (some dx))))\/∃ dx fs,od=some dx/\H2 dx=some (xdO dx fs)/\fs.length<1000/\D.nx σ (upd H2 dx (xdO dx (AX f y fs))))):Sh K f to tv D σ H:=h
theorem Nr (h:to σ H λ v H1=>∃ a C dx fs y,v= .ref a/\H1 a=some (Fp a C (some dx))/\H1 dx=some (xdO dx fs)/\fs.lookup f=some y/\XKind K C/\findIn K (.ref C) f=some none/\Q y H1):RU K f to σ H Q:=h
theorem P3 (h:te σ H λ v H1=>(∃ i:Int,v= .int i/\i.natAbs.log2<1920/\Q (.str (Str.ofString (toString i))) H1)\/∃ x:Str,v= .str x/\x.length<=100000/\Q (.str x) H1):YI te σ H Q:=h
theorem G9 (h:te σ H λ v H1=>∃ y,v= .str y/\(out++y).length<=100000/\JG ts (out++y) σ H1 Q):JG (te::ts) out σ H Q:=h
theorem Oe (h:Q (.str out) H):JG [] out σ H Q:=h
theorem Ji (h:t σ H λ vs H1=>vs.length<=900/\∀ a,H1 a=none->sp (.ref a::vs) (upd H1 a (xnO a C none)) (λ v H2=>v= .non/\∃ od,H2 a=some (xnO a C od)/\E (.ref C) od (bar a H2)) E0):Ku E C sp t D σ H:=h
end
end L2
namespace L2
open PySem PySem.Spec PyProof.Rows
section
variable {X:Cx} {elts:List Expr} {k:Nat} {tpos:Pos}
end
section
variable {K:PySem.W.Frag} {H:Hp} {i1 i2 off:Nat} {z:Str}
end
section
variable {X:Cx} {K:PySem.W.Frag}
end
theorem Ky {to ti:TE} {t:Rm} {v:V} {σ:St} {H:Hp} {Q:St->Hp->Prop} (h:to σ H λ o H1=>ti σ H1 λ i H2=>t o i v H2 λ H3=>Q σ H3):UU to ti t v σ H Q:=h
theorem Mg {n i:Nat} (h:i<n):ixN n ((i:Nat):Int)=some i:=by
  unfold ixN;rw [if_pos (by omega),if_pos (by omega)];simp
end L2
namespace L2
open PySem PySem.Spec PyProof.Rows PySem.W
section
variable {prog:Program} {w:World} {A:Around} {E:Value->Shared->Prop} {s:Shared}
theorem PY {a:Addr} {Q:Option Obj->Shared->Prop} {M:Model} (h:Q (s.heap.get? a) s):wpAny M A (loadIfAlive a) Q E s:=λ Γ p hΓ=>by
  unfold loadIfAlive;rw [Sem.wp_loadIfAlive];exact h
noncomputable def Md (t:Addr) (b:Bool) (TI:Addr) (v:Value):Obj:={ cls:= .type "zip",data:= .fields #[rawInt t, .bool b, .bool false, .ref TI,v] }
structure ZipAg (t1 t2:Bool) (h:Heap) (z TI i1 i2 l1 l2 t:Addr) (k:Nat):Prop where
  hz:∃ b v,h.get? z=some (Md t b TI v)
  ht:∃ o,h.get? t=some o
  hTI:IsPair h TI (.ref i1) (.ref i2)
  h1:BF t1 h i1 l1 k
  h2:BF t2 h i2 l2 k
theorem JF {z TI t:Addr} {b:Bool} {v:Value} {o:Obj} {Q:Bool->Shared->Prop} (hz:s.heap.get? z=some (Md t b TI v)) (ht:s.heap.get? t=some o)
    (k:∀ h',h'.get? z=some (Md t true TI v)->Heap.SameBut z s.heap h'->Q false { s with heap:=h' }):wpAny (model prog w) A (Builtin.SmallTypes.ownedTupleIsFree (.ref z)) Q E s:=by
  unfold Builtin.SmallTypes.ownedTupleIsFree;refine wpAny_bind (wpAny_field hz rfl (x:=rawInt t) rfl ?_);show wpAny _ _ (loadIfAlive ((t:Int).toNat) >>= _) _ _ _;refine wpAny_bind (PY ?_);rw [Int.toNat_natCast,ht];show wpAny _ _ (field (.ref z) 1 >>= _) _ _ _;refine wpAny_bind (wpAny_field hz rfl (x:= .bool b) rfl ?_);cases b with
  | true=>exact wpAny_pure (k s.heap hz (Heap.SameBut.refl _ _))
  | false=>
    show wpAny _ _ (setField (.ref z) 1 (.bool true) >>= _) _ _ _;exact wpAny_bind (wpAny_setField_rec hz (by simp) λ a1 za b1=>wpAny_pure (k a1 za b1))
theorem NM {t1 t2:Bool} {z TI TO i1 i2 l1 l2 t:Addr} {k:Nat} {xs ys:Array Value} {x y:Value} {Q:Value->Shared->Prop} (D:ZipApart z TI TO i1 i2 l1 l2) (Z:ZipAg t1 t2 s.heap z TI i1 i2 l1 l2 t k) (n1:t≠i1) (n2:t≠i2) (nz:t≠z)
    (q1:Bi t1 s.heap l1 xs) (q2:Bi t2 s.heap l2 ys) (hx:xs[k]?=some x) (hy:ys[k]?=some y)
    (fin:∀ h',ZipAg t1 t2 h' z TI i1 i2 l1 l2 t (k+1)->IsPair h' s.heap.objs.size x y->(∀ c o,c≠z->c≠i1->c≠i2->s.heap.get? c=some o->h'.get? c=some o)->Q (.ref s.heap.objs.size) { s with heap:=h' }):
    wpAny (model prog w) A (Builtin.«zip.__next__» ⟨[.ref z],[]⟩) (λ fin s'=>∃ v,fin= .done (.ret v)/\Q v s') E s:=by
  obtain ⟨⟨b,v,hz⟩,⟨o,ht⟩,hTI,g1,g2⟩:=Z;show wpAny _ _ (field (.ref z) 2 >>= _) _ _ _;refine wpAny_bind (wpAny_field hz rfl (x:= .bool false) rfl ?_);show wpAny _ _ (field (.ref z) 3 >>= _) _ _ _;refine wpAny_bind (wpAny_field hz rfl (x:= .ref TI) rfl (wpAny_bind (wpAny_seqItems hTI rfl ?_)));show wpAny _ _ (Builtin.SmallTypes.ownedTupleIsFree (.ref z) >>= _) _ _ _;refine wpAny_bind (JF hz ht λ a1 za b1=> ?_);dsimp only;rw [if_neg Bool.false_ne_true];simp only [List.forIn_toArray,List.forIn_cons,List.forIn_nil];refine wpAny_bind (wpAny_bind (wpAny_bind (wpAny_holding ?_)));show wpAny _ _ (Builtin.SmallTypes.nextOf (.ref i1) >>= _) _ _ _;refine wpAny_bind (Dm (s:={ s with heap:=a1 }) (Ar g1 λ o e=>b1.extBut _ o D.i1z e) (Bw q1 λ o e=>b1.extBut _ o D.l1z e) hx λ a2 i1a b2=>wpAny_pure (wpAny_pure ?_));refine wpAny_bind (wpAny_bind (wpAny_holding ?_));show wpAny _ _ (Builtin.SmallTypes.nextOf (.ref i2) >>= _) _ _ _;have up2:∀ c o,c≠z->c≠i1->s.heap.get? c=some o->a2.get? c=some o:=λ c o n1 n2 e=>b2.extBut _ o n2 (b1.extBut _ o n1 e);refine wpAny_bind (Dm (s:={ s with heap:=a2 }) (Ar g2 λ o e=>up2 _ o D.i2z D.i12.symm e) (Bw q2 λ o e=>up2 _ o D.l2z D.l2i1 e) hy λ a3 i2a b3=>wpAny_pure (wpAny_pure (wpAny_pure ?_)));dsimp only;refine wpAny_bind (wpAny_newTuple ?_ (by show 2<=sizeLine;decide));have sz:a3.objs.size=s.heap.objs.size:=by rw [b3.1,b2.1,b1.1]
  have up3:∀ c o,c≠z->c≠i1->c≠i2->s.heap.get? c=some o->a3.get? c=some o:=λ c o n1 n2 n3 e=>b3.extBut _ o n3 (up2 c o n1 n2 e);have gt:IsPair (a3.push { cls:= .type "tuple",data:= .seq #[x,y] }) a3.objs.size x y:=Heap.get?_push_size _ rfl;rw [sz] at gt;refine wpAny_pure ⟨_,rfl,?_⟩;show Q (.ref a3.objs.size) _;rw [sz];refine fin _ ⟨⟨true,v,Heap.get?_push_of_some _ (b3.extBut _ _ D.i2z.symm (b2.extBut _ _ D.i1z.symm za))⟩,⟨o,Heap.get?_push_of_some _ (up3 t o nz n1 n2 ht)⟩,Heap.get?_push_of_some _ (up3 TI _ D.TIz D.TIi1 D.TIi2 hTI),Ar i1a λ o e=>Heap.get?_push_of_some _ (b3.extBut _ o D.i12 e),Ar i2a λ o e=>Heap.get?_push_of_some _ e⟩ gt λ c o c1 c2 c3 e=>Heap.get?_push_of_some _ (up3 c o c1 c2 c3 e)
theorem O0 {t1 t2:Bool} {z TI TO i1 i2 l1 l2 t:Addr} {k:Nat} {xs:Array Value} {Q:Fin->Shared->Prop} (hh:A.handled=none) (D:ZipApart z TI TO i1 i2 l1 l2) (Z:ZipAg t1 t2 s.heap z TI i1 i2 l1 l2 t k)
    (q1:Bi t1 s.heap l1 xs) (hend:xs[k]?=none)
    (fin:∀ h' e,(∀ c o,c≠z->c≠i1->s.heap.get? c=some o->h'.get? c=some o)->(∃ o,h'.get? e=some o/\o.cls= .type "StopIteration")->E (.ref e) { s with heap:=h' }):
    wpAny (model prog w) A (Builtin.«zip.__next__» ⟨[.ref z],[]⟩) Q E s:=by
  obtain ⟨⟨b,v,hz⟩,⟨o,ht⟩,hTI,g1,g2⟩:=Z;show wpAny _ _ (field (.ref z) 2 >>= _) _ _ _;refine wpAny_bind (wpAny_field hz rfl (x:= .bool false) rfl ?_);show wpAny _ _ (field (.ref z) 3 >>= _) _ _ _;refine wpAny_bind (wpAny_field hz rfl (x:= .ref TI) rfl (wpAny_bind (wpAny_seqItems hTI rfl ?_)));show wpAny _ _ (Builtin.SmallTypes.ownedTupleIsFree (.ref z) >>= _) _ _ _;refine wpAny_bind (JF hz ht λ a1 za b1=> ?_);dsimp only;rw [if_neg Bool.false_ne_true];simp only [List.forIn_toArray,List.forIn_cons,List.forIn_nil];refine wpAny_bind (wpAny_bind (wpAny_bind (wpAny_holding ?_)));show wpAny _ _ (Builtin.SmallTypes.nextOf (.ref i1) >>= _) _ _ _;exact wpAny_bind (FH (s:={ s with heap:=a1 }) hh (Ar g1 λ o e=>b1.extBut _ o D.i1z e) (Bw q1 λ o e=>b1.extBut _ o D.l1z e) hend λ a2 e b2 he=>fin a2 e (λ c o n1 n2 q=>b2 _ _ n2 (b1.extBut _ _ n1 q)) he)
end
theorem zk_slot:Slot "zip" "__getattribute__" "zip.__getattribute__":= .of (owner:="zip") (n:="__getattribute__") (by rw [typeLookup_type,builtinLookup_eq_fast];kernel_rfl) (by decide +kernel) (by decide +kernel) (by decide +kernel) (by first | exact .inl (by decide +kernel) | exact .inr (by decide +kernel)) (by rw [isSubtype_type];kernel_rfl)
theorem Oy:entryFor table "zip.__getattribute__"=some Builtin.«object.__getattribute__» := entryFor_alias (id':="object.__getattribute__") (by kernel_rfl) (by decide +kernel) (by decide +kernel) (by kernel_rfl)
theorem Ry:typeLookup (.type "zip") "keys"=pure none:=by rw [typeLookup_type,builtinLookup_eq_fast];kernel_rfl
theorem V4:typeLookup (.type "zip") "__getattr__"=pure none:=by rw [typeLookup_type,builtinLookup_eq_fast];kernel_rfl
theorem QY (a b:Value):argsOk "zip.__getattribute__" ⟨[a,b],[]⟩:=by
  unfold argsOk;rw [signature?_of (id:="zip.__getattribute__") (n:=['_', '_', 'e', 't', 'u', 'b', 'i', 'r', 't', 't', 'a', 't', 'e', 'g', '_', '_']) (o:=['p', 'i', 'z']) (by kernel_rfl) F.owner_zip];kernel_rfl
theorem O7 (a:Addr) (fs:Array Value) (u:Tok):Meets (Builtin.«object.__getattribute__» ⟨[.ref a, .str "keys" u],[]⟩) (λ A R s=>s.heap.get? a=some { cls:= .type "zip",data:= .fields fs }/\raisesAttr (.ref a) "keys" A R s):=
  Meets.of_wp λ prog w A R s hs=>by
    obtain ⟨hp,g,d,tk,os⟩:=s;obtain ⟨hx,hs⟩:=hs;have hT:(⟨hp,g,d,tk,os⟩:Shared).TypeIs (.ref a) "zip":=⟨_,hx,rfl⟩;have f9:=Ry;unfold Builtin.«object.__getattribute__»
    repeat (any_goals (first | assumption | wp_step))
    exact wpAny_raiseAttrError hs.1 hs.2 (attrMsg_fits (by decide +kernel) (by size_fits))
theorem Qh {prog:Program} {w:World} {A:Around} {E:Value->Shared->Prop} {s:Shared} {a:Addr} {fs:Array Value} {Q:Option Value->Shared->Prop} (hx:s.heap.get? a=some { cls:= .type "zip",data:= .fields fs }) (hA:A.handled=none)
    (h:∀ h' tk e,Heap.NewExcOf s.heap h' e "AttributeError"->Q none { s with heap:=h',toks:=tk }):wpAny (model prog w) A (getAttr? (.ref a) "keys") Q E s:=by
  obtain ⟨hp,g,d,tk,os⟩:=s;have hT:∀ tk',(⟨hp,g,d,tk',os⟩:Shared).TypeIs (.ref a) "zip":=λ _=>⟨_,hx,rfl⟩;have f1:=sub_AttributeError;have f3:=zk_slot.lookup;have f4:=zk_slot.bind (.ref a);have f5:=V4;unfold getAttr? getAttrBy? getAttrBy
  repeat (any_goals (first | assumption | exact hT _ | ((with_reducible show wpAny _ _ (call (Value.builtin "zip.__getattribute__") _ _) _ _ _);refine call_meets zk_slot (hT _) Oy (QY _ _) (O7 a fs _) ⟨hx,hA,λ h' tk' e hx'=> ?_⟩) | wp_step))
  obtain ⟨t',u',he⟩:=hx'.there;show wpAny _ _ (getattributeRaised _ _ _ _ _ _ _) _ _ _;unfold getattributeRaised
  repeat (any_goals (first | assumption | wp_step))
  exact h _ _ _ hx'.of
section
variable {prog:Program} {w:World} {A:Around} {E:Value->Shared->Prop} {s:Shared}
def Zst (t1 t2:Bool) (h:Heap) (z TI TO i1 i2 l1 l2:Addr) (k:Nat):Prop:=ZipSt t1 t2 h z TI TO i1 i2 l1 l2 k\/∃ t,ZipAg t1 t2 h z TI i1 i2 l1 l2 t k/\t≠i1/\t≠i2/\t≠z
theorem Zst.ty {t1 t2:Bool} {z TI TO i1 i2 l1 l2:Addr} {k:Nat} (Z:Zst t1 t2 s.heap z TI TO i1 i2 l1 l2 k):s.TypeIs (.ref z) "zip":=by
  rcases Z with Z | ⟨t,⟨⟨b,v,hz⟩,_,_,_,_⟩,_⟩
  · exact ⟨_,Z.hz,rfl⟩
  · exact ⟨_,hz,rfl⟩
theorem Zst.at' {t1 t2:Bool} {h h':Heap} {z TI TO i1 i2 l1 l2 D:Addr} {k:Nat} (Z:Zst t1 t2 h z TI TO i1 i2 l1 l2 k) (n:∀ c∈[z,TI,TO,i1,i2],c≠D) (kp:∀ c o,c≠D->h.get? c=some o->h'.get? c=some o) (hD:∃ o,h'.get? D=some o):Zst t1 t2 h' z TI TO i1 i2 l1 l2 k:=by
  have kz:=λ o=>kp z o (n z (by simp));have kTI:=λ o=>kp TI o (n TI (by simp));have kTO:=λ o=>kp TO o (n TO (by simp));have k1:=λ o=>kp i1 o (n i1 (by simp));have k2:=λ o=>kp i2 o (n i2 (by simp));rcases Z with ⟨hz,hTI,⟨c,d,hTO⟩,h1,h2⟩ | ⟨t,⟨⟨b,v,hz⟩,⟨o,ht⟩,hTI,h1,h2⟩,n1⟩
  · exact .inl ⟨kz _ hz,kTI _ hTI,⟨c,d,kTO _ hTO⟩,Ar h1 λ o e=>k1 o e,Ar h2 λ o e=>k2 o e⟩
  · refine .inr ⟨t,⟨⟨b,v,kz _ hz⟩,?_,kTI _ hTI,Ar h1 λ o e=>k1 o e,Ar h2 λ o e=>k2 o e⟩,n1⟩;by_cases e:t=D
    · rw [e];exact hD
    · exact ⟨o,kp t o e ht⟩
theorem OX {t1 t2:Bool} {z TI TO i1 i2 l1 l2:Addr} {k:Nat} {xs ys:Array Value} {x y:Value} {Q:Option Value->Shared->Prop} (D:ZipApart z TI TO i1 i2 l1 l2) (Z:Zst t1 t2 s.heap z TI TO i1 i2 l1 l2 k)
    (q1:Bi t1 s.heap l1 xs) (q2:Bi t2 s.heap l2 ys) (hx:xs[k]?=some x) (hy:ys[k]?=some y)
    (fin:∀ h',Zst t1 t2 h' z TI TO i1 i2 l1 l2 (k+1)->IsPair h' s.heap.objs.size x y->(∀ c o,c∉[z,TI,TO,i1,i2]->s.heap.get? c=some o->h'.get? c=some o)->Q (some (.ref s.heap.objs.size)) { s with heap:=h' }):
    wpAny (model prog w) A (pyNext (.ref z)) Q E s:=by
  have hT0:=Z.ty;unfold pyNext;rcases Z with Z | ⟨t,Z,n1,n2,nz⟩
  · have l1':i1<s.heap.objs.size:=by obtain ⟨_,e,_⟩:=Bl Z.h1;exact Heap.lt_size e
    have l2':i2<s.heap.objs.size:=by obtain ⟨_,e,_⟩:=Bl Z.h2;exact Heap.lt_size e
    have lz:z<s.heap.objs.size:=Heap.lt_size Z.hz;refine wpAny_bind (wpAny_attempt (wpAny_callSpecial?_slot (name:=Str.ofString "__next__") hT0 F.slot_zip_next (wpAny_call_entry F.slot_zip_next hT0 F.entry_zip_next
      (JD D Z q1 q2 hx hy λ h' hz' hTO' h1' h2' hT hk=>wpAny_pure ?_) (F.args_zip_next_1 _))))
    refine fin h' (.inr ⟨s.heap.objs.size,⟨⟨false, .ref TO,hz'⟩,⟨_,hT⟩,hk TI _ D.TIz D.TITO D.TIi1 D.TIi2 Z.hTI,h1',h2'⟩,Nat.ne_of_gt l1',Nat.ne_of_gt l2',Nat.ne_of_gt lz⟩) hT λ c o n e=> ?_;exact hk c o (λ q=>n (by simp [q])) (λ q=>n (by simp [q])) (λ q=>n (by simp [q])) (λ q=>n (by simp [q])) e
  · refine wpAny_bind (wpAny_attempt (wpAny_callSpecial?_slot (name:=Str.ofString "__next__") hT0 F.slot_zip_next (wpAny_call_entry F.slot_zip_next hT0 F.entry_zip_next
      (NM D Z n1 n2 nz q1 q2 hx hy λ h' Z' hT hk=>wpAny_pure ?_) (F.args_zip_next_1 _))))
    exact fin h' (.inr ⟨t,Z',n1,n2,nz⟩) hT λ c o n e=>hk c o (λ q=>n (by simp [q])) (λ q=>n (by simp [q])) (λ q=>n (by simp [q])) e
theorem Qj {t1 t2:Bool} {z TI TO i1 i2 l1 l2:Addr} {k:Nat} {xs ys:Array Value} {Q:Option Value->Shared->Prop} (hh:A.handled=none) (D:ZipApart z TI TO i1 i2 l1 l2) (Z:Zst t1 t2 s.heap z TI TO i1 i2 l1 l2 k)
    (q1:Bi t1 s.heap l1 xs) (q2:Bi t2 s.heap l2 ys) (hend:xs[k]?=none)
    (fin:∀ h',(∀ c o,c∉[z,TI,TO,i1,i2]->s.heap.get? c=some o->h'.get? c=some o)->Q none { s with heap:=h' }):
    wpAny (model prog w) A (pyNext (.ref z)) Q E s:=by
  have hT0:=Z.ty;unfold pyNext;rcases Z with Z | ⟨t,Z,n1,n2,nz⟩
  · refine wpAny_bind (wpAny_attempt (wpAny_callSpecial?_slot (name:=Str.ofString "__next__") hT0 F.slot_zip_next (wpAny_call_entry F.slot_zip_next hT0 F.entry_zip_next
      (KM hh D Z q1 q2 (.inl hend) λ h' e eb he=> ?_) (F.args_zip_next_1 _))))
    obtain ⟨oe,eo,ce⟩:=he;refine wpAny_bind (wpAny_isInstance (T:="StopIteration") (b:=true) ⟨oe,eo,ce⟩ isSubtype_stop (wpAny_pure ?_));exact fin h' λ c o n e=>eb c o (λ q=>n (by simp [q])) (λ q=>n (by simp [q])) (λ q=>n (by simp [q])) (λ q=>n (by simp [q])) e
  · refine wpAny_bind (wpAny_attempt (wpAny_callSpecial?_slot (name:=Str.ofString "__next__") hT0 F.slot_zip_next (wpAny_call_entry F.slot_zip_next hT0 F.entry_zip_next
      (O0 hh D Z q1 hend λ h' e eb he=> ?_) (F.args_zip_next_1 _))))
    obtain ⟨oe,eo,ce⟩:=he;refine wpAny_bind (wpAny_isInstance (T:="StopIteration") (b:=true) ⟨oe,eo,ce⟩ isSubtype_stop (wpAny_pure ?_));exact fin h' λ c o n e=>eb c o (λ q=>n (by simp [q])) (λ q=>n (by simp [q])) e
theorem Lv:entryFor table "dict.update.loop"=some Builtin.«dict.update.loop» := entryFor_of_tree (by kernel_rfl)
theorem F0:plainId "dict.update.loop"=true:=by decide +kernel
end
section
variable {X:Cx} {pins:List (Addr × Obj)} {σ:St} {H:Hp} {s:Shared} {A:Around} {E:Value->Shared->Prop}
theorem NR {a:Addr} {kvs:List (Key × V)} {k:Key} {v:V} {u r:Value} {Q:Unit->Shared->Prop} (I:Inv X pins σ H s) (e:H a=some (.dK kvs)) (l:kvs.length<sizeLine) (ry:RelV (kV k) u) (rv:RelV v r)
    (h:∀ h',Inv X pins σ (upd H a (.dK (HK kvs k v))) { s with heap:=h',toks:=s.toks+1 }->Heap.SameBut a s.heap h'->(∃ q,h'.get? a=some q)->Q () { s with heap:=h',toks:=s.toks+1 }):wpAny (model X.prog X.w) A (dictSet a u r) Q E s:=by
  obtain ⟨z,hd,vs,rel,dd⟩:=Nm I.hok e;have hz:vs.length<=sizeLine:=by rw [<-rel.length];exact z
  have hl:(HK kvs k v).length<=sizeLine:=by have:=GO kvs k v;omega
  refine wpAny_dictSet_pairs (hsz:=hz) (My ry) dd λ h' dd' hs=> ?_;have he:∃ q,h'.get? a=some q:=let ⟨q,_,_,hq,_⟩:=dd';⟨q,hq⟩;exact h h' (Kg I (by rw [e];exact True.intro) hs he (LV hl hd (rel.put k rv) dd')) hs he
theorem Dg {tp:Bool} {K:PySem.W.Frag} {H H':Hp} {a:Addr} {xs:List V} (h:SqS tp K H a xs) (s:Same H H'):SqS tp K H' a xs:=by
  cases tp with
  | false=>exact s.seq (show SqL K H a xs from h)
  | true=>
    rcases (show SqT K H a xs from h) with (h | ⟨o,h⟩) | h
    · exact (show SqT K H' a xs from .inl (.inl (s _ _ h)))
    · exact (show SqT K H' a xs from .inl (.inr ⟨o,s _ _ h⟩))
    · exact (show SqT K H' a xs from .inr h)
theorem Lc (l:List (Key × V)) (p:Key × V):AK [] (l++[p])=HK (AK [] l) p.1 p.2:=by
  unfold AK;rw [List.foldl_append];rfl
theorem Pj {a b z TI TO i1 i2 D:Addr} {t1 t2:Bool} {H0:Hp} {ks:List Key} {ys:List V} {R:Result->Shared->Prop} (hA:A.in1.handled=none) (DA:ZipApart z TI TO i1 i2 a b) (nD:∀ c∈[z,TI,TO,i1,i2],c≠D) (hl:ks.length=ys.length) (h15:ks.length<=15)
    (hq1:SqS t1 X.K (bar D H0) a (ks.map kV)) (hq2:SqS t2 X.K (bar D H0) b ys):∀ (m i:Nat) (s:Shared) (H:Hp),ks.length - i=m->i<=ks.length->Inv X pins σ H s->(∀ c∈[z,TI,TO,i1,i2],Cj X pins H c)->(∀ c∈[z,TI,TO,i1,i2],c<s.heap.objs.size)->
      Zst t1 t2 s.heap z TI TO i1 i2 a b i->Same (bar D H0) H->H D=some (.dK (AK [] ((ks.zip ys).take i)))->(∀ s' H',Inv X pins σ H' s'->Same (bar D H0) H'->H' D=some (.dK (AK [] (ks.zip ys)))->R (.ok (.ret .none)) s')->
      codeAny (model X.prog X.w) A (.builtin "dict.update.loop" ⟨[.ref D, .ref z,rawInt i, .none],[]⟩) R s:=by
  intro m
  induction m with
  | zero=>
    intro i s H hm hi I f lt Z sm hD hR;have e:i=ks.length:=by omega
    subst e;obtain ⟨its,rv,p1⟩:=Bg I (Dg hq1 sm);obtain ⟨its2,rv2,p2⟩:=Bg I (Dg hq2 sm);have hl1:=rv.length;rw [List.length_map] at hl1;refine codeAny_builtin Lv ?_;rw [Around.under_plainId F0 _];show wpAny _ A.in1 (pyNext (.ref z) >>= _) _ _ s;refine wpAny_bind (Qj hA DA Z p1 p2 (by simp;omega) λ h' hk=> ?_);have I1:=Inv.turnedL (t':=s.toks) (h':=h') [z,TI,TO,i1,i2] I f λ c o hc q=>hk c o hc q;rw [List.take_of_length_le (by rw [List.length_zip];omega)] at hD;exact wpAny_bind (wpAny_pure (wpAny_pure (hR _ H I1 sm hD)))
  | succ m ih=>
    intro i s H hm hi I f lt Z sm hD hR;have hlt:i<ks.length:=by omega
    obtain ⟨its,rv,p1⟩:=Bg I (Dg hq1 sm);obtain ⟨its2,rv2,p2⟩:=Bg I (Dg hq2 sm);obtain ⟨u,hu,ru⟩:=rv.get (show (ks.map kV)[i]?=some (kV ks[i]) by simp [hlt]);obtain ⟨u2,hu2,ru2⟩:=rv2.get (show ys[i]?=some (ys[i]'(by omega)) by simp [show i<ys.length by omega]);refine codeAny_builtin Lv ?_;rw [Around.under_plainId F0 _];show wpAny _ A.in1 (pyNext (.ref z) >>= _) _ _ s;refine wpAny_bind (OX DA Z p1 p2 (x:=u) (y:=u2) (by simpa using hu) (by simpa using hu2) λ h' Z' hT hk=> ?_);have I0:=I.laid (h':=s.heap.push { cls:= .type "tuple",data:= .seq #[u,u2] }) (a:=s.heap.objs.size) (o:= .tup [kV ks[i],ys[i]'(by omega)]) (t':=s.toks) (λ _ _ q=>Heap.get?_push_of_some _ q) (Nat.le_refl _)
      ⟨(by show 2<=sizeLine;decide),[u,u2], .cons ru (.cons ru2 .nil),⟨_,Heap.get?_push_size _ rfl,rfl,_,rfl⟩⟩
    have f0:∀ c∈[z,TI,TO,i1,i2],Cj X pins (upd H s.heap.objs.size (.tup [kV ks[i],ys[i]'(by omega)])) c:=λ c hc=>Fl (f c hc) (Nat.ne_of_lt (lt c hc));have I1:=Inv.turnedL (t':=s.toks) (h':=h') [z,TI,TO,i1,i2] I0 f0 (λ c o hc q=>by
      rcases Heap.get?_push_cases (show (s.heap.push { cls:= .type "tuple",data:= .seq #[u,u2] }).get? c=some o from q) with ⟨q1,q2⟩ | q
      · rw [q1,q2];exact hT
      · exact hk c o hc q)
    have fr:H s.heap.objs.size=none:=I.fresh;have nsD:D≠s.heap.objs.size:=λ z=>by rw [z,fr] at hD;cases hD
    have hD1:upd H s.heap.objs.size (.tup [kV ks[i],ys[i]'(by omega)]) D=some (.dK (AK [] ((ks.zip ys).take i))):=by rw [Al nsD];exact hD
    have lk:(AK [] ((ks.zip ys).take i)).length<sizeLine:=by
      have h1:=Bx ((ks.zip ys).take i) [];rw [List.length_nil,List.length_take] at h1;rw [sizeLine_eq];omega
    show wpAny _ _ (holding [Value.ref s.heap.objs.size] _ >>= _) _ _ _;refine wpAny_bind (wpAny_holding (wpAny_bind (wpAny_tryCatch ?_)));unfold Builtin.Dict.pairItems;refine wpAny_bind (wpAny_typeOf (T:="tuple") ⟨_,hT,rfl⟩ ?_);rw [if_pos (by decide)];refine wpAny_bind (wpAny_seqItems hT rfl (wpAny_pure ?_));show wpAny _ _ (holding [u,u2] (dictSet D u u2)) _ _ _;refine wpAny_holding (NR I1 hD1 lk ru ru2 λ h2 I2 sb he=> ?_);refine wpAny_pure ⟨plainId_quiet F0 _,?_⟩;show codeAny _ A (.builtin "dict.update.loop" ⟨[.ref D, .ref z,rawInt ((i:Int)+1), .none],[]⟩) R _;rw [show ((i:Int)+1)=((i+1:Nat):Int) by omega];have gr:s.heap.objs.size<h'.objs.size:=Heap.lt_size hT;refine ih (i+1) _ _ (by omega) hlt I2 (λ c hc=>Fl (f0 c hc) (nD c hc)) (λ c hc=> ?_) (Z'.at' nD (λ c o n e=>(sb.2 c n).trans e) he) (λ c o e=> ?_) ?_ hR
    · show c<h2.objs.size;rw [show h2.objs.size=h'.objs.size from sb.1];exact Nat.lt_trans (lt c hc) gr
    · have nc:c≠D:=λ y=>by rw [y,show bar D H0 D=none from if_pos rfl] at e;cases e
      have e1:=sm c o e;have nc2:c≠s.heap.objs.size:=λ y=>by rw [y,fr] at e1;cases e1
      rw [Al nc,Al nc2];exact e1
    · have e9:(ks.zip ys).take (i+1)=(ks.zip ys).take i++[(ks[i],ys[i]'(by omega))]:=by
        rw [List.take_add_one,List.getElem?_eq_getElem (by rw [List.length_zip];omega),List.getElem_zip];rfl
      rw [Af,e9,Lc]
theorem Pp {a b z TI TO i1 i2:Addr} {t1 t2:Bool} {ks:List Key} {ys:List V} {Q:Value->Shared->Prop} (hA:A.handled=none) (DA:ZipApart z TI TO i1 i2 a b) (I:Inv X pins σ H s) (f:∀ c∈[z,TI,TO,i1,i2],Cj X pins H c) (lt:∀ c∈[z,TI,TO,i1,i2],c<s.heap.objs.size)
    (Z:ZipSt t1 t2 s.heap z TI TO i1 i2 a b 0) (hq1:SqS t1 X.K H a (ks.map kV)) (hq2:SqS t2 X.K H b ys) (hl:ks.length=ys.length) (h15:ks.length<=15)
    (k:∀ s' H' p,Inv X pins σ H' s'->Same H H'->H p=none->H' p=some (.dK (AK [] (ks.zip ys)))->Q (.ref p) s'):wpAny (model X.prog X.w) A (call (.type "dict") [.ref z]) Q E s:=by
  refine callType_codes (Q₁:=λ v s2=>v= .ref s.heap.objs.size/\s2={ s with heap:=s.heap.push { cls:= .type "dict",data:= .dict #[] } }) F.kt_called_dict (F.kt_typeCall_dict_1 _) F.entry_dict_init (kt_code_dict_new _ ⟨rfl,rfl⟩) ?_;rintro _ _ ⟨rfl,rfl⟩;have fr:H s.heap.objs.size=none:=I.fresh;have I1:=I.laid (a:=s.heap.objs.size) (o:= .dK []) (h':=s.heap.push { cls:= .type "dict",data:= .dict #[] }) (t':=s.toks) (λ _ _ q=>Heap.get?_push_of_some _ q) (Nat.le_refl _) (Lj s.heap I.big);have gd:(s.heap.push { cls:= .type "dict",data:= .dict #[] }).get? s.heap.objs.size=some { cls:= .type "dict",data:= .dict #[] }:=Heap.get?_push_size _ rfl;have sz:(s.heap.push { cls:= .type "dict",data:= .dict #[] }).objs.size=s.heap.objs.size+1:=Heap.size_push ..;have nD:∀ c∈[z,TI,TO,i1,i2],c≠s.heap.objs.size:=λ c hc=>Nat.ne_of_lt (lt c hc);have kp1:∀ c o,s.heap.get? c=some o->(s.heap.push { cls:= .type "dict",data:= .dict #[] }).get? c=some o:=λ c o e=>Heap.get?_push_of_some _ e;generalize s.heap.push { cls:= .type "dict",data:= .dict #[] }=h1 at I1 gd sz kp1 ⊢;have zg:h1.get? z=some _:=kp1 z _ Z.hz;have tD:({ s with heap:=h1 }:Shared).TypeIs (.ref s.heap.objs.size) "dict":=⟨_,gd,rfl⟩;refine ⟨tD,F.args_dict_init_2 _ _,?_⟩;unfold Builtin.«dict.__init__»;refine wpAny_bind ?_;unfold Builtin.Dict.selfAndRest;refine wpAny_bind (wpAny_notOrdered_dict tD ?_);show wpAny _ _ (pure (s.heap.objs.size,[Value.ref z])) _ _ _;refine wpAny_pure ?_;show wpAny _ _ (Builtin.Dict.updateFrom "dict.__init__" s.heap.objs.size (.ref z) [] .none) _ _ _;unfold Builtin.Dict.updateFrom;refine wpAny_bind (wpAny_typeOf (T:="zip") ⟨_,zg,rfl⟩ ?_);rw [if_pos (by decide)];refine wpAny_bind (Qh zg (show A.in1.in1.handled=none from hA) λ h2 tk e hx=> ?_);have kp2:∀ c o,h1.get? c=some o->h2.get? c=some o:=hx.keeps;have I2:=I1.kept (t':=tk) kp2;have sH:Same H (bar s.heap.objs.size (upd H s.heap.objs.size (.dK []))):=λ c o q=>by
    have nc:c≠s.heap.objs.size:=λ y=>by rw [y,fr] at q;cases q
    exact (if_neg nc).trans ((Al nc).trans q)
  have kp:∀ c o,s.heap.get? c=some o->h2.get? c=some o:=λ c o q=>kp2 c o (kp1 c o q);show wpAny _ _ (rule _ >>= _) _ _ _;refine wpAny_bind (wpAny_rule (wpAny_bind (wpAny_pyIter_zip (kp z _ Z.hz) (wpAny_pure ⟨plainId_quiet F0 _,?_⟩))));obtain ⟨c0,d0,hTO⟩:=Z.hTO;refine Pj (A:=A.in1) (H0:=upd H s.heap.objs.size (.dK [])) (show A.in1.in1.handled=none from hA) DA nD hl h15 (Dg hq1 sH) (Dg hq2 sH) ks.length 0 _ _ rfl (Nat.zero_le _) I2 (λ c hc=>Fl (f c hc) (nD c hc)) (λ c hc=> ?_) (.inl ⟨kp z _ Z.hz,kp TI _ Z.hTI,⟨c0,d0,kp TO _ hTO⟩,Ar Z.h1 λ o q=>kp i1 o q,Ar Z.h2 λ o q=>kp i2 o q⟩) P8 Af λ s' H' I' sm hD=>⟨rfl,k s' H' _ I' (sH.trans sm) fr hD⟩;exact Nat.lt_trans (lt c hc) (Heap.lt_size (kp2 _ _ gd))
def KJ (K:PySem.W.Frag) (ta:TA):TE:=λ σ H Q=>ta σ H λ vs H1=>∃ (t1 t2:Bool) (a b:Addr) (ks:List Key) (ys:List V),vs=[.ref a, .ref b]/\SqS t1 K H1 a (ks.map kV)/\SqS t2 K H1 b ys/\ks.length=ys.length/\ks.length<=15/\
  ∀ H' p,Same H1 H'->H1 p=none->H' p=some (.dK (AK [] (ks.zip ys)))->Q (.ref p) H'
end
section
variable {X:Cx} {K:PySem.W.Frag}
theorem L9 {l m:Expr} {ta:TA} {p pos p2 pos2:Pos} (hg:Gl X "zip") (hm:X.mg "zip"=none) (hg2:Gl X "dict") (hm2:X.mg "dict"=none) (ha:PA X [l,m] ta) (hc:X.calm=true:=by rfl) (hK:X.K=K:=by rfl) (hs:starEach [l,m] X.env=[(false,eval l X.env),(false,eval m X.env)]:=by rfl) (hs2:starEach [m] X.env=[(false,eval m X.env)]:=by rfl)
    (h3:starEach [Expr.Call (.Name "zip" p) [l,m] [] pos] X.env=(false,eval (.Call (.Name "zip" p) [l,m] [] pos) X.env)::starEach [] X.env:=by rfl):
    PE X (.Call (.Name "dict" p2) [.Call (.Name "zip" p) [l,m] [] pos] [] pos2) (KJ K ta):=by
  subst hK;intro pins s σ H Q I h;refine Call_ (B3 I hg2 hm2 PyProof.Rows.boot_dict (PyProof.Rows.callWith_type1 ?_ h3 rfl));rw [h3];show wpAny _ _ (spliced ((false,eval (.Call (.Name "zip" p) [l,m] [] pos) X.env)::backTo pos2 (starEach [] X.env))) _ _ s;refine Calls.spliced_cons ?_;refine Call_ (B3 I hg hm Ln (PyProof.Rows.callWith_type1 (thn (ha pos pins s σ H _ I h) λ us s1 ⟨vs,H1,I1,r1,q1⟩=> ?_) (by rw [hs,hs2]) (by rw [hs2];rfl)));obtain ⟨t1,t2,a,b,ks,ys,e,hq,hq2,hl,h15,q⟩:=q1;subst e;cases r1 with
  | cons r rr=>
    cases rr with
    | cons r' rr=>
    cases rr;cases r;cases r';obtain ⟨its,rv,pl⟩:=Bg I1 hq;obtain ⟨its2,rv2,pl2⟩:=Bg I1 hq2;obtain ⟨oa,_,ea,_⟩:=Cz pl;obtain ⟨ob,_,eb,_⟩:=Cz pl2;refine JE pl pl2 λ h' st hk=> ?_;have I2:=I1.kept (t':=s1.toks) hk;have fp:∀ c∈[s1.heap.objs.size+4,s1.heap.objs.size+2,s1.heap.objs.size+3,s1.heap.objs.size,s1.heap.objs.size+1],s1.heap.objs.size<=c/\c<=s1.heap.objs.size+4:=λ c hc=>by
      simp only [List.mem_cons,List.not_mem_nil,or_false] at hc;rcases hc with q | q | q | q | q <;> subst q <;> exact ⟨by omega,by omega⟩
    refine Calls.spliced_nil ?_;refine Pp (I.ok.hd hc) (PySem.W.ktu_apart s1.heap.objs.size a b (Heap.lt_size ea) (Heap.lt_size eb)) I2 (λ c hc=>I1.fpOk (fp c hc).1 (I1.hok.fresh (fp c hc).1)) (λ c hc=>Nat.lt_of_le_of_lt (fp c hc).2 (Heap.lt_size st.hz)) st hq hq2 hl h15 λ s' H' pp I' sm fr hD=> ?_;exact ⟨.ref pp,H',I',rfl,q H' pp sm fr hD⟩
end
def rUpd:V->List V->Hp->VK->Prop:=λ x xs H Q=>∃ (a b:Addr) (kvs more:List (Key × V)),x= .ref a/\xs=[.ref b]/\a≠b/\H a=some (.dK kvs)/\H b=some (.dK more)/\kvs.length+more.length<=1000/\Q .non (upd H a (.dK (AK kvs more)))
theorem N7 {X:Cx}:MtR X "dict.update" rUpd:=by
  intro pins s σ H x vs v us Q I rx rv h;obtain ⟨a,b,kvs,more,rfl,rfl,hne,ha,hb,hz,q⟩:=h;cases rx;obtain ⟨u,rfl,ru⟩:=rv.one;cases ru;obtain ⟨z1,d1,vs1,r1,dd1⟩:=Nm I.hok ha;obtain ⟨z2,d2,vs2,r2,dd2⟩:=Nm I.hok hb;have hl:(AK kvs more).length<=sizeLine:=by
    have:=Bx more kvs;rw [sizeLine_eq];omega
  refine call_meetsIn PySem.F.slot_dict_update dd1.typeIs PySem.F.entry_dict_update (PySem.F.args_dict_update_2 _ _) (meets_dict_update (Bb X.prog X.w) a b hne d2) ⟨vs1,vs2,dd1,dd2,by rw [<-r1.length, <-r2.length,sizeLine_eq];omega,λ h' dd' _ hs=> ?_⟩;have he:∃ q,h'.get? a=some q:=let ⟨q,_,_,hq,_⟩:=dd';⟨q,hq⟩;exact ⟨.non,_,Kg I (by rw [ha];exact True.intro) hs he (LV hl d1 (r2.merge r1) dd'),rfl,q⟩
theorem S1 {H:Hp} {Q:VK} {a b:Addr} {kvs more:List (Key × V)} (hne:a≠b) (ha:H a=some (.dK kvs)) (hb:H b=some (.dK more)) (hz:kvs.length+more.length<=1000) (q:Q .non (upd H a (.dK (AK kvs more)))):rUpd (.ref a) [.ref b] H Q:=⟨a,b,kvs,more,rfl,rfl,hne,ha,hb,hz,q⟩
theorem Mr {K:PySem.W.Frag} {ta:TA} {σ:St} {H:Hp} {Q:VK} (h:ta σ H λ vs H1=>∃ (t1 t2:Bool) (a b:Addr) (ks:List Key) (ys:List V),vs=[.ref a, .ref b]/\SqS t1 K H1 a (ks.map kV)/\SqS t2 K H1 b ys/\ks.length=ys.length/\ks.length<=15/\
  ∀ H' p,Same H1 H'->H1 p=none->H' p=some (.dK (AK [] (ks.zip ys)))->Q (.ref p) H'):KJ K ta σ H Q:=h
end L2
namespace L2
open PySem PySem.Spec PyProof.Rows
def Hn (P:Program) (w:World) (K:PySem.W.Frag) (mg:Str->Option Value) (base:Heap) (k:Nat) (f:Addr) (sp:Sp):Prop:=
  ∃ fd ps,PySem.W.keepIn K (.ref f)=true/\FnOk P w K mg base (CXE P w) k f fd ps sp/\Binds K fd ps []
theorem CallE.val {P:Program} {w:World} {K:PySem.W.Frag} {mg:Str->Option Value} {base:Heap} {x:Str} {k:Nat} {ps:List Str} {sp:Sp} (h:CallE P w K mg base x k ps sp):∃ f,mg x=some (.ref f)/\Hn P w K mg base k f sp:=
  let ⟨f,fd,hm,hk,F,hb⟩:=h;⟨f,hm,fd,ps,hk,F,hb⟩
def O3 (S:Addr->Sp->Prop) (E:XK) (te:TE) (t:TA):TE:=λ σ H Q=>te σ H λ v H1=>∃ f sp,v= .ref f/\S f sp/\t σ H1 λ vs H2=>sp vs H2 Q E
section
variable {X:Cx} {e o:Expr} {es:List Expr} {t:TA} {to:TE} {pos:Pos} {S:Addr->Sp->Prop} {E:XK}
theorem Il (ho:PE X o to) (hS:∀ f sp,S f sp->∃ k,Room k X.A/\Hn X.prog X.w X.K X.mg X.base k f sp) (hx:BA (CXE X.prog X.w) X E) (ha:PA X (e::es) t)
    (ht:eval (.Call o (e::es) [] pos) X.env=(do callWith pos (<-eval o X.env) [] (backTo pos (starEach (e::es) X.env)) (backToKw pos (keywordEach [] X.env))):=by rfl)
    (he:starEach (e::es) X.env=(false,eval e X.env)::starEach es X.env:=by rfl) (hpl:(backTo pos (starEach es X.env)).any (·.1)=false:=by rfl):
    PE X (.Call o (e::es) [] pos) (O3 S E to t):=by
  intro pins s σ H Q I h;rw [ht];refine wpAny_bind (thn (ho pins s σ H _ I h) λ u s1 ⟨x,H1,I1,rx,f,sp,ex,hs,q⟩=> ?_);subst ex;obtain rfl:u=Value.ref f:=rx;obtain ⟨k,hr,fd,ps,hk,F,hb⟩:=hS f sp hs;refine PySem.W.callWith_K (h₀:=X.base) I.ok.mod.kin hk (thn (ha pos pins s1 σ H1 _ I1 q) λ us s2 ⟨vs,H2,I2,r,q2⟩=>⟨I2.kIn,?_⟩) he hpl;exact Kw F hr hb .nil hx I2 r (by rw [List.append_nil];exact q2)
theorem Hq {te:TE} {σ:St} {H:Hp} {Q:VK} (h:te σ H λ v H1=>∃ f sp,v= .ref f/\S f sp/\t σ H1 λ vs H2=>sp vs H2 Q E):O3 S E te t σ H Q:=h
end
noncomputable def Itv (K:PySem.W.Frag) (a:Addr) (n:Nat):It:=
  ⟨λ i H=>∃ xs x,SqT K H a xs/\xs.length=n/\i<n/\xs[n - 1 - i]?=some x,λ i H x H'=>H'=H/\∀ xs,SqT K H a xs->xs[n - 1 - i]?=some x,λ i _=>i=n⟩
theorem Lp {prog:Program} {w:World} {A:Around} {s:Shared} {I l:Addr} {k:Int} {Q:Value->Shared->Prop} {E:Value->Shared->Prop} (x:IsRvd s.heap I l k) (hQ:Q (.ref I) s):wpAny (model prog w) A (pyIter (.ref I)) Q E s:=by
  refine wpAny_pyIter_slot x.typeIs Cc (wpAny_call_entry Cc x.typeIs Ew ?_ (Ea _));show wpAny _ _ (ret (.ref I)) _ _ s;exact wpAny_pure ⟨_,rfl,"reversed",_,x.typeIs,slot_rvd_next.lookup,hQ⟩
theorem OP {P:Program} {w:World} {K:PySem.W.Frag} {tg:Expr} (a it:Addr) (n:Nat):Turn P w K tg (Itv K a n) [it] it (λ i h=>IsRvd h it a ((n:Int) - 1 - (i:Nat))) where
  mem:=by simp
  obj:=λ i h st b hb=>by
    have e:b=it:=by simpa using hb
    subst e;obtain ⟨o,e,c,d⟩:=st;exact ⟨o,e,λ v z=>by rw [d] at z;cases z⟩
  keep:=λ i h h' st k=>st.at λ o e=>k it (by simp) o e
  item:=by
    intro X hP hw hK hc i pins s σ H E I hf st hg;subst hP hw hK;obtain ⟨xs,x,hq,hn,hi,hx⟩:=hg;obtain ⟨its,rv,p,hz⟩:=I.tuple hq;obtain ⟨u,hu,ru⟩:=rv.get hx;obtain ⟨f0,f1,f2,f3,f4,f5⟩:=hf it (by simp);have hl:=rv.length;have hz':(its.toArray.size:Int)<2 ^ 63:=by
      have:((its.toArray.size:Nat):Int)<=(sizeLine:Nat):=by rw [List.size_toArray, <-hl];exact_mod_cast hz
      exact Int.lt_of_le_of_lt this (by decide)
    have e0:(n:Int) - 1 - (i:Nat)=((n - 1 - i:Nat):Int):=by omega
    have e1:((n - 1 - i:Nat):Int) - 1=(n:Int) - 1 - ((i+1:Nat):Int):=by omega
    have st0:IsRvd s.heap it a ((n - 1 - i:Nat):Int):=by rw [<-e0];exact st
    refine La st0 p hz' (x:=u) (by simpa using hu) λ h' tk st' sb=> ?_;rw [e1] at st';have I1:Inv X pins σ H { s with heap:=h',toks:=tk }:=I.turned (λ b o hb e=>(sb.2 b hb).trans e) f0 f1 f3 f4 f5;obtain ⟨o,e,c,d⟩:=id st';exact ⟨u,rfl,LC (s:={ s with heap:=h',toks:=tk }) e c d (by decide) ⟨x,H,I1,ru,⟨rfl,λ ys hy=>by rw [I.tuple_inj hy hq];exact hx⟩,st',λ b hb=>(hf b hb).1⟩⟩
  done:=by
    intro X hP hw hK hc i pins s σ H E I hf st hg;subst hP hw hK;have hg:i=n:=hg;subst hg;obtain ⟨f0,f1,f2,f3,f4,f5⟩:=hf it (by simp);have st0:IsRvd s.heap it a (-1):=by rw [show (-1:Int)=(i:Int) - 1 - (i:Nat) by omega];exact st
    exact MJ (I.ok.hd hc) st0 λ h' eb=>⟨rfl,I.turned (t':=s.toks) (λ b o hb e=>eb b o hb e) f0 f1 f3 f4 f5⟩
  self:=λ _ _ _ _ _ st h=>Lp st h
section
variable {X:Cx} {K:PySem.W.Frag} {tg l:Expr} {ta:TA} {p pos:Pos}
def RK (K:PySem.W.Frag) (ta:TA):TI:=λ σ H R=>ta σ H λ vs H1=>∃ a xs,vs=[.ref a]/\SqT K H1 a xs/\R (Itv K a xs.length) H1
theorem Rc (hg:Gl X "reversed") (hm:X.mg "reversed"=none) (ha:PA X [l] ta) (hK:X.K=K:=by rfl) (hs:starEach [l] X.env=[(false,eval l X.env)]:=by rfl):PI X tg (.Call (.Name "reversed" p) [l] [] pos) (RK K ta):=by
  subst hK;intro pins s σ H R I h;refine thn (OE (Kt:=λ a xs H1=>R (Itv X.K a xs.length) H1) hg hm ha hs I h) λ v s1 ⟨r,a,xs,H1,ev,I1,hq,hit,fp,kt⟩=> ?_;subst ev;refine Lp hit ?_;refine ⟨r,[r],_,_,H1,rfl,I1,OP a r xs.length,by simpa using hit,λ b hb=> ?_,kt⟩;have e:b=r:=by simpa using hb
  subst e;exact fp
theorem Ze {σ:St} {H:Hp} {R:It->Hp->Prop} (h:ta σ H λ vs H1=>∃ a xs,vs=[.ref a]/\SqT K H1 a xs/\R (Itv K a xs.length) H1):RK K ta σ H R:=h
end
section
variable {K:PySem.W.Frag} {σ0:St} {H:Hp} {a:Addr} {xs:List V}
theorem Qe (h:SqT K H a xs) (h0:σ0[0]?=some none):SrcOk (Itv K a xs.length) (AE 0) σ0 H xs.length (λ i=>σ0.set 0 (some (xs.getD (xs.length - 1 - i) .non))) where
  go:=λ i H' hi s=>⟨xs,xs[xs.length - 1 - i],(SqS.same (tp:=true) h s),rfl,hi,List.getElem?_eq_getElem (by omega)⟩
  stop:=λ H' s=>rfl
  yld:=λ i H' x H'' R hi s y k=>by
    obtain ⟨e,hv⟩:=y;subst e;have e:x=xs.getD (xs.length - 1 - i) .non:=by
      have:=hv xs (SqS.same (tp:=true) h s);rw [List.getD_eq_getElem?_getD,this];rfl
    subst e;exact k H'' (Same.refl _)
  kp:=λ i hi=>(Kp.refl _).set h0
end
section
variable {X:Cx} {scope:Scope} {cx:Str}
theorem OD {i:Nat} {x:Str} {px spos:Pos} {elt tg iter:Expr} {ifs:List Expr} {scope:Scope} {pos:Pos} {own:List Str} {fr:List (Str × Nat)} {wi:TI} {g:TG} {tc:TT} {te:TE} (hN:X.N.Nodup) (hix:X.N[i]?=some x) (hx:Loc X.env.scope x)
    (hc:X.calm=true) (S:BlkScopeC X scope cx own fr) (hi:PI X tg iter wi)
    (hg:∀ C ex s H,PG (Bs X scope cx own fr C ex s H) tg g) (ht:∀ C ex s H,PTs (Bs X scope cx own fr C ex s H) ifs tc) (he:∀ C ex s H,PE (Bs X scope cx own fr C ex s H) elt te)
    (hsw:swapsWith (.ListComp elt [⟨tg,iter,ifs,0⟩] scope pos) (some (.Name x px)) spos.line X.env=pure true:=by rfl)
    (hf:X.fn x=true\/X.env.scope.names.lookup x=some .local:=by first | exact .inl rfl | exact .inr rfl | assumption)
    (hs:∀ x,foldedSetIterable iter X.env x=pure x:=by intro _;rfl):PS X (.Assign [.Name x px] (.ListComp elt [⟨tg,iter,ifs,0⟩] scope pos) spos) (Lk (Fc wi own fr g tc te) (AE i)):=by
  intro pins s σ H D I h;rw [exec_Assign_Name_used _ _ _ _ hsw];refine wpAny_bind (wpAny_standAt (wpAny_bind ?_));show wpAny _ X.A (do let _ <-comprehension (.ListComp elt [⟨tg,iter,ifs,0⟩] scope pos) scope X.env _ (newList []) false (eval iter X.env) (some (assign (.Name x px) X.env))) _ _ s;refine wpAny_bind (wpAny_mono (wpAny_comprehension_free (use:=some (assign (.Name x px) X.env)) (Q:=λ _ s'=>SP X pins D .next s') rfl hs (CY (S.cells I.ok)) S.kind S.loc
    (thn (hi pins s σ H _ I h) λ xv s₁ h₁=>thn h₁ λ itv s₂ h₂=> ?_)) (λ _ s' hq=>wpAny_pure (wpAny_pure hq)) λ _ _ e=>e)
  obtain ⟨it,fp,tn,J,H2,rfl,I2,T,st2,f2,h2⟩:=h₂;refine N6 (Q:=λ x H1=>AE i x σ H1 D.nx) (RR:=λ acc C=>compPost (model X.prog X.w) X.A X.xe (some (assign (.Name x px) X.env)) (λ _ s'=>SP X pins D .next s') acc C) hc S hg ht he I2 T st2 f2 h2 ?_;rintro Dl C H' s' I' ⟨m,hn⟩ f q;obtain ⟨o,es,ep,ho,hd,r⟩:=hn;have pinC:∀ v,o.data≠ .cell v:=λ v z=>by rw [hd] at z;cases z
  have I'':Inv X (pins++[(C,o)]) σ H' s':=I'.pins_of λ p hp=>(List.mem_append.mp hp).elim (λ z=>I'.pin p (List.mem_append_right _ z)) λ z=>by
    have e:p=(C,o):=by simpa using z
    subst e;exact ⟨ho,f.1,f.2.1,f.2.2.1,pinC⟩
  show wpAny _ X.A (assign (.Name x px) X.env (.ref Dl)) _ _ s';refine wpAny_assign_Name (CG I'' hN hix hx (v:= .ref Dl) rfl (λ s2 I2=> ?_) hf);have pc:=(I2.pin (C,o) (List.mem_append_right _ (List.mem_append_right _ (by simp)))).1;refine ⟨m,⟨o,es,ep,pc,hd,r⟩,λ h' sb=>⟨_,H',?_,q⟩⟩;exact (I2.unpinned (pl:=[(C,o)])).turned (t':=s2.toks) (it:=C) (λ b o hb e=>(sb.2 b hb).trans e) f.1 f.2.1 f.2.2.2.1 f.2.2.2.2.1 f.2.2.2.2.2
theorem NG {i:Nat} {y:Str} {py px spos:Pos} {elt iter:Expr} {ifs:List Expr} {pos:Pos} {wi:TI} {tc:TT} {te:TE} (hN:X.N.Nodup) (hix:X.N[i]?=some y) (hx:Loc X.env.scope y) (hi:PI X (.Name cx px) iter wi)
    (ht:∀ C ex s H,PTs (Bs X scope cx [cx] (Dj X.N scope) C ex s H) ifs tc) (he:∀ C ex s H,PE (Bs X scope cx [cx] (Dj X.N scope) C ex s H) elt te)
    (hb:Hw X.env.scope X.N scope cx [cx] (Dj X.N scope)=true:=by with_unfolding_all rfl) (hc:X.calm=true:=by rfl)
    (lay:∀ n cl,cellsFrom n scope.names cl=(cx,n)::cl:=by intro _ _;rfl) (push:∀ h:Heap,pushCells h scope.names=h.push { cls:= .type "cell",data:= .cell none }:=by intro _;rfl)
    (hsw:swapsWith (.ListComp elt [⟨.Name cx px,iter,ifs,0⟩] scope pos) (some (.Name y py)) spos.line X.env=pure true:=by rfl)
    (hf:X.fn y=true\/X.env.scope.names.lookup y=some .local:=by first | exact .inl rfl | exact .inr rfl | assumption)
    (hs:∀ x,foldedSetIterable iter X.env x=pure x:=by intro _;rfl):
    PS X (.Assign [.Name y py] (.ListComp elt [⟨.Name cx px,iter,ifs,0⟩] scope pos) spos) (Lk (Fc wi [cx] (Dj X.N scope) (AE 0) tc te) (AE i)):=
  OD hN hix hx hc (.of hb lay push) hi (λ C ex s H=>QU hb C ex s H) ht he hsw hf hs
end
structure FnA (K:PySem.W.Frag) (m q:Str) (st:Stmt) (ps:List Str) (f:Addr) (fd:FuncData):Prop where
  fn:Fun K m q st f fd
  bi:Binds K fd ps []
section
variable {K:PySem.W.Frag} {mg:Str->Option Value} {m q x:Str} {st:Stmt} {ps:List Str} {f:Addr} {fd:FuncData}
theorem def_mk (a:mg x=some (.ref f)) (F:Fun K x x st f fd) (b:∀ us:List Value,us.length=ps.length->bindArgs fd ⟨us,[]⟩=pure (ps.zip us)):DefAt K mg x st ps f fd:=⟨F,a, .all b⟩
theorem fnA_mk (F:Fun K m q st f fd) (b:∀ us:List Value,us.length=ps.length->bindArgs fd ⟨us,[]⟩=pure (ps.zip us)):FnA K m q st ps f fd:=⟨F, .all b⟩
theorem exc_mk {C:Addr} (a:PySem.W.isClsIn K C=true) (b:PySem.W.findIn K (.ref C) "__getattribute__"=some (some (.builtin "BaseException.__getattribute__"))) (c:PySem.W.findIn K (.ref C) "__getattr__"=some none) (d:PySem.W.mroIn K C (.type "BaseException")=some true) (e:PySem.W.findIn K (.ref C) "__class__"=some (some (.builtin "object.__class__")))
    (f:PySem.W.specialIn K (.builtin "object.__class__") "__get__"=some (some (.builtin "getset_descriptor.__get__"))) (g:PySem.W.takesIn K (.builtin "object.__class__")=some true) (h:PySem.W.mroIn K C (.type "object")=some true):HT.ExcKind K C:=⟨a,b,c,d,e,f,g,h⟩
theorem ci_mk {n:Int} {t:Tok} (h:mg x=some (.int n t)):∃ t,mg x=some (.int n t):=⟨t,h⟩
theorem cs_mk {z:Str} {t:Tok} (h:mg x=some (.str z t)):∃ t,mg x=some (.str z t):=⟨t,h⟩
theorem own_nil:Own mg []:=λ _ h=>by cases h
theorem own_cons {xs:List Str} (a:mg x=none) (h:Own mg xs):Own mg (x::xs):=λ y hy=>by
  rcases List.mem_cons.mp hy with rfl | hy
  · exact a
  · exact h y hy
end
theorem xk_mk {K:PySem.W.Frag} {C:Addr} (h:HT.ExcKind K C) (d:PySem.W.hasDictIn K C=true):XKind K C:=⟨h,d⟩
end L2
open L2
local macro_rules | `(tactic| walk_at "t") => `(tactic| first | (with_reducible first | refine Pt ?_ | refine T9 ?_ | refine Nd ?_ | refine ap ?_ | refine XC ?_ | refine XW ?_ | refine SV ?_ | refine V8 ?_ | refine TN ?_ | refine T3 ?_ | refine TV ?_ | refine Tu ?_ | refine To ?_ | refine Q3 ?_ | refine Xs ?_ | refine VB ?_ | refine ZS ?_ | refine Ts ?_ | refine Rk ?_ | refine QZ ?_ | refine Uh ?_ | refine Ss ?_ | refine Q5 ?_ | refine T6 ?_ | refine Qq ?_ | refine SO ?_ | refine SL ?_ | refine ZG ?_ | refine RC ?_ | refine VR ?_ | refine QJ ?_ | refine N3 ?_ | refine Tn ?_ | refine ES ?_ | refine BN ?_ | refine Bz ?_ | refine Rt ?_ | refine Qm ?_ | refine Qa ?_ | refine Q4 ?_ | refine TU ?_ | refine Z4 ?_ | refine UN ?_ | refine XH ?_ | refine QD ?_ | refine RD ?_ | refine Tp ?_ | refine Wh ?_ | refine Wu ?_ | refine WJ ?_ | refine Uf ?_ | refine ZI ?_ | refine ZY ?_ | refine Yx ?_ | refine UA ?_ | refine Ul ?_ | refine OI ?_ | refine Qs ?_ | refine PF ?_ | refine TC ?_ | refine SA ?_ | refine Qk ?_ | refine Rf ?_) | ((with_reducible apply S7); exact rfl) | (with_reducible refine Tc (by simp only [List.length_cons, List.length_nil]; decide) ?_))
local macro_rules | `(tactic| walk_at "s") => `(tactic| first | walk_at "t" | (with_reducible refine S5 ?_))
local macro_rules | `(tactic| walk_at "v") => `(tactic| repeat walk_at "t")
local macro_rules | `(tactic| walk_at "w") => `(tactic| repeat walk_at "s")
local macro_rules | `(tactic| wrow_has $H $n) => do let t := ((n.getId.toString.drop 1).toString); let i := λ (a : String) => Lean.mkIdent (Lean.Name.mkSimple (a ++ t)); `(tactic| (generalize e : upd $H $(i "p") _ = $(i "H"); have $(i "s"):ident : Same $H $(i "H") := (by rw [<-e]; exact Ai $(i "n")); have $(i "g"):ident := (congrFun e $(i "p")).symm.trans Af; clear e))
local macro_rules | `(tactic| row_lines $H $n) => do let t := ((n.getId.toString.drop 1).toString); let i := λ (a : String) => Lean.mkIdent (Lean.Name.mkSimple (a ++ t)); `(tactic| (intro $(i "p"):ident $(i "n"):ident; wrow_has $H $n))
local macro_rules | `(tactic| walk_at "x") => `(tactic| repeat first | walk_at "s" | (with_reducible refine AM (by decide) ?_))
namespace K16
open PySem L2 PySem.Spec PyProof.Rows
seal L2.PE L2.PT L2.PW L2.PA L2.PS L2.PSs L2.PI L2.PG L2.PTs L2.PGs
section
variable {P:Program} {w:World} {K:PySem.W.Frag} {mg:Str->Option Value} {base:Heap}
structure Cs where
  Draft:Addr
  Cloth:Addr
  LoomError:Addr
  BadRow:Addr
  BadWord:Addr
  TooMany:Addr
  NotPlain:Addr
  NotGrown:Addr
  BadDraft:Addr
  BadCloth:Addr
  OutOfPlace:Addr
  PARTS:Addr
structure Txt (K:PySem.W.Frag) (mg:Str->Option Value) (c:Cs):Prop where
  own:Own mg ["isinstance","int","bool","str","list","tuple","dict","len","all","range","sum","zip","enumerate","reversed","ValueError"]
  g_Draft:mg "Draft"=some (.ref c.Draft)
  kd_Draft:Kind K c.Draft
  is_Draft:PySem.W.kitOne K (.ref c.Draft) (.ref c.Draft)=some true
  na_Draft_shafts:NoAttr K c.Draft "shafts"
  na_Draft_treadles:NoAttr K c.Draft "treadles"
  na_Draft_threading:NoAttr K c.Draft "threading"
  na_Draft_ties:NoAttr K c.Draft "ties"
  na_Draft_treading:NoAttr K c.Draft "treading"
  na_Draft_warp:NoAttr K c.Draft "warp"
  na_Draft_weft:NoAttr K c.Draft "weft"
  g_Cloth:mg "Cloth"=some (.ref c.Cloth)
  kd_Cloth:Kind K c.Cloth
  is_Cloth:PySem.W.kitOne K (.ref c.Cloth) (.ref c.Cloth)=some true
  na_Cloth_width:NoAttr K c.Cloth "width"
  na_Cloth_rows:NoAttr K c.Cloth "rows"
  g_LoomError:mg "LoomError"=some (.ref c.LoomError)
  g_BadRow:mg "BadRow"=some (.ref c.BadRow)
  g_BadWord:mg "BadWord"=some (.ref c.BadWord)
  g_TooMany:mg "TooMany"=some (.ref c.TooMany)
  g_NotPlain:mg "NotPlain"=some (.ref c.NotPlain)
  g_NotGrown:mg "NotGrown"=some (.ref c.NotGrown)
  g_BadDraft:mg "BadDraft"=some (.ref c.BadDraft)
  xk_BadDraft:HT.ExcKind K c.BadDraft
  xi_BadDraft:PySem.W.excIn K c.BadDraft [.type "ValueError", .type "Exception", .type "BaseException", .type "object"] "ValueError.__new__"=true
  xm_BadDraft_LoomError:PySem.W.exmOne K (.ref c.BadDraft) (.ref c.LoomError)=some true
  ki_BadDraft_BadRow:PySem.W.kitOne K (.ref c.BadDraft) (.ref c.BadRow)=some false
  ki_BadDraft_BadWord:PySem.W.kitOne K (.ref c.BadDraft) (.ref c.BadWord)=some false
  ki_BadDraft_TooMany:PySem.W.kitOne K (.ref c.BadDraft) (.ref c.TooMany)=some false
  ki_BadDraft_NotPlain:PySem.W.kitOne K (.ref c.BadDraft) (.ref c.NotPlain)=some false
  ki_BadDraft_NotGrown:PySem.W.kitOne K (.ref c.BadDraft) (.ref c.NotGrown)=some false
  ki_BadDraft_BadDraft:PySem.W.kitOne K (.ref c.BadDraft) (.ref c.BadDraft)=some true
  ki_BadDraft_BadCloth:PySem.W.kitOne K (.ref c.BadDraft) (.ref c.BadCloth)=some false
  ki_BadDraft_OutOfPlace:PySem.W.kitOne K (.ref c.BadDraft) (.ref c.OutOfPlace)=some false
  ki_BadDraft_ValueError:PySem.W.kitOne K (.ref c.BadDraft) (.type "ValueError")=some true
  g_BadCloth:mg "BadCloth"=some (.ref c.BadCloth)
  xk_BadCloth:HT.ExcKind K c.BadCloth
  xi_BadCloth:PySem.W.excIn K c.BadCloth [.type "ValueError", .type "Exception", .type "BaseException", .type "object"] "ValueError.__new__"=true
  xm_BadCloth_LoomError:PySem.W.exmOne K (.ref c.BadCloth) (.ref c.LoomError)=some true
  ki_BadCloth_BadRow:PySem.W.kitOne K (.ref c.BadCloth) (.ref c.BadRow)=some false
  ki_BadCloth_BadWord:PySem.W.kitOne K (.ref c.BadCloth) (.ref c.BadWord)=some false
  ki_BadCloth_TooMany:PySem.W.kitOne K (.ref c.BadCloth) (.ref c.TooMany)=some false
  ki_BadCloth_NotPlain:PySem.W.kitOne K (.ref c.BadCloth) (.ref c.NotPlain)=some false
  ki_BadCloth_NotGrown:PySem.W.kitOne K (.ref c.BadCloth) (.ref c.NotGrown)=some false
  ki_BadCloth_BadDraft:PySem.W.kitOne K (.ref c.BadCloth) (.ref c.BadDraft)=some false
  ki_BadCloth_BadCloth:PySem.W.kitOne K (.ref c.BadCloth) (.ref c.BadCloth)=some true
  ki_BadCloth_OutOfPlace:PySem.W.kitOne K (.ref c.BadCloth) (.ref c.OutOfPlace)=some false
  ki_BadCloth_ValueError:PySem.W.kitOne K (.ref c.BadCloth) (.type "ValueError")=some true
  g_OutOfPlace:mg "OutOfPlace"=some (.ref c.OutOfPlace)
  xk_NotPlain:XKind K c.NotPlain
  xs_NotPlain:XSet K c.NotPlain
  xm_NotPlain_LoomError:PySem.W.exmOne K (.ref c.NotPlain) (.ref c.LoomError)=some true
  ki_NotPlain_BadRow:PySem.W.kitOne K (.ref c.NotPlain) (.ref c.BadRow)=some false
  ki_NotPlain_BadWord:PySem.W.kitOne K (.ref c.NotPlain) (.ref c.BadWord)=some false
  ki_NotPlain_TooMany:PySem.W.kitOne K (.ref c.NotPlain) (.ref c.TooMany)=some false
  ki_NotPlain_NotPlain:PySem.W.kitOne K (.ref c.NotPlain) (.ref c.NotPlain)=some true
  ki_NotPlain_NotGrown:PySem.W.kitOne K (.ref c.NotPlain) (.ref c.NotGrown)=some false
  ki_NotPlain_BadDraft:PySem.W.kitOne K (.ref c.NotPlain) (.ref c.BadDraft)=some false
  ki_NotPlain_BadCloth:PySem.W.kitOne K (.ref c.NotPlain) (.ref c.BadCloth)=some false
  ki_NotPlain_OutOfPlace:PySem.W.kitOne K (.ref c.NotPlain) (.ref c.OutOfPlace)=some false
  ki_NotPlain_ValueError:PySem.W.kitOne K (.ref c.NotPlain) (.type "ValueError")=some true
  xf_NotPlain_what:PySem.W.findIn K (.ref c.NotPlain) "what"=some none
  xf_NotPlain_number:PySem.W.findIn K (.ref c.NotPlain) "number"=some none
  xj_NotPlain:∃ fi,HT.iniIn K c.NotPlain fi=true
  xb_LoomError:XBase K c.LoomError
  g_PARTS:mg "PARTS"=some (.ref c.PARTS)
  t_PARTS:∀ H:Hp,SqT K H c.PARTS [.str "shafts", .str "treadles", .str "threading", .str "ties", .str "treading", .str "warp", .str "weft"]
  k_MOST_SHAFTS:∃ t,mg "MOST_SHAFTS"=some (.int 16 t)
  k_MOST_TREADLES:∃ t,mg "MOST_TREADLES"=some (.int 16 t)
  k_MOST_ENDS:∃ t,mg "MOST_ENDS"=some (.int 60 t)
  k_MOST_PICKS:∃ t,mg "MOST_PICKS"=some (.int 60 t)
  k_COLOURS:∃ t,mg "COLOURS"=some (.str "abcdefghijklmnopqrstuvwxyz" t)
def Nl (K:PySem.W.Frag):Sp:=λ vs H Q _=>∃ (a:Addr) (ns:List Int),vs=[.ref a]/\SqL K H a (ns.map V.int)/\ns.length<=63/\∀ H',Q (.bl true) H'
end
section
variable {P:Program} {w:World} {K:PySem.W.Frag} {mg:Str->Option Value} {base:Heap} {c:Cs}
def BL:Nat->Sp
  | 0=>λ _ _ _ _=>False
  | n+1=>λ vs H Q _=>∃ v u d,vs=[v,u]/\Rp H FT n v d/\Rp H FT n u d/\∀ H',Same H H'->Q (.bl true) H'
noncomputable abbrev CM:Stmt:=top 65
theorem Kj:FnScope ["_law_found","_law_due"] ["_law_found","_law_due"] (Ah CM):=⟨rfl,rfl,rfl,by decide +kernel,rfl,by decide +kernel,by decide +kernel⟩
theorem IL {n:Nat} {f:Addr} {fd:FuncData} (F:Fun K "_law_same" "_law_same" CM f fd) (T:Txt K mg c) (c__law_same:CallF P w K mg base "_law_same" (n+1) ["_law_found","_law_due"] (BL n)):FnOk P w K mg base CX0 (n+2) f fd ["_law_found","_law_due"] (BL (n+1)):=by
  refine F.ok Kj (λ vs H Q E h=> ?_) (λ cdv A outer s H vs Q E hr h=> ?_)
  · obtain ⟨v,u,d,rfl,_⟩:=h;rfl
  · obtain ⟨v,u,d,rfl,rv,ru,k⟩:=h;refine ⟨_,(Ac (AV (Ba (Ak (Ra (K:=K)) rfl (T.own _ (by decide)) boot_isinstance (Aa (pv 1) (Aa (Bd (Aa (Ch rfl (T.own _ (by decide)) Aw) (Aa (Ch rfl (T.own _ (by decide)) AH) Ab))) Ab)))) (Ac (AV (PW.pt (Hv (Av JK (Ak (BV (K:=K)) rfl (T.own _ (by decide)) boot_isinstance (Aa (pv 0) (Aa (Ch rfl (T.own _ (by decide)) Aw) Ab))) (Ak (BV (K:=K)) rfl (T.own _ (by decide)) boot_isinstance (Aa (pv 1) (Aa (Ch rfl (T.own _ (by decide)) Aw) Ab))) (AG _)) (GJ (Av JK (Ak (BV (K:=K)) rfl (T.own _ (by decide)) boot_isinstance (Aa (pv 0) (Aa (Ch rfl (T.own _ (by decide)) AH) Ab))) (Ak (BV (K:=K)) rfl (T.own _ (by decide)) boot_isinstance (Aa (pv 1) (Aa (Ch rfl (T.own _ (by decide)) AH) Ab))) (AG _))))) (Ag (Aj Ek)) Au)
      (Ag (Aj (C7 (DY Cp (Ak (BW (K:=K)) rfl (T.own _ (by decide)) boot_len (Aa (pv 0) Ab)) (Ak (BW (K:=K)) rfl (T.own _ (by decide)) boot_len (Aa (pv 1) Ab)) (AG _)) (Ef (Ak (K6 (K:=K)) rfl (T.own _ (by decide)) Dd (Aa (Dc (K:=K) (UB (K:=K) rfl (T.own _ (by decide)) (Aa (pv 0) (Aa (pv 1) Ab))) (λ _ _ _ _=>Ao) (λ _ _ _ _=>(Ad c__law_same hr (Aa (pv 0) (Aa (pv 1) Ab))))) Ab))))))) Au)
      (Ag (Aj (C7 (DY Cp (Ak (BV (K:=K)) rfl (T.own _ (by decide)) boot_isinstance (Aa (pv 0) (Aa (Ch rfl (T.own _ (by decide)) boot_bool) Ab))) (Ak (BV (K:=K)) rfl (T.own _ (by decide)) boot_isinstance (Aa (pv 1) (Aa (Ch rfl (T.own _ (by decide)) boot_bool) Ab))) (AG _)) (Ef (DY Cp (pv 0) (pv 1) (AG _))))))),?_⟩
    walk_at "w";intro p hp;walk_at "w";have sp:=Ai (o:=HO.tup [V.ty "list",V.ty "tuple"]) hp;refine OY (ns:=["list","tuple"]) Af (ru.same sp).ty (Ux d) ?_;have rv:=rv.same sp;have ru:=ru.same sp;generalize upd H p (HO.tup [V.ty "list",V.ty "tuple"])=H1 at rv ru sp ⊢;walk_at "w";refine TZ (λ hc=> ?_) (λ hc=> ?_)
    · walk_at "w";refine Bc rv.ty (Hc d) ?_;walk_at "w";refine Bc ru.ty (Hc d) ?_;walk_at "w";refine Iy (λ q=>absurd rfl q) (λ _=> ?_);walk_at "w";refine Bc rv.ty (Gc d) ?_;walk_at "w";refine Bc ru.ty (Gc d) ?_;walk_at "w";refine Iy (λ q=>absurd rfl q) (λ _=> ?_);walk_at "w";obtain ⟨m,a,xs,hm,rfl,sa,la,ba,ea⟩:=rv.seq (K:=K) hc;obtain ⟨m',b,zs,hm',rfl,sb,lb,bb,eb⟩:=ru.seq (K:=K) hc;subst hm;cases hm';refine MO sa ?_;walk_at "w";refine MO sb ?_;walk_at "w";refine Gv (λ _=> ?_) (λ q=>absurd (by rw [la,lb]) q);walk_at "w";refine ⟨Fb d,Fb d,a,b,rfl,⟨_,sa⟩,⟨_,sb⟩,λ D hD=> ?_⟩;refine QB (xs:=xs) (zs:=zs) (by omega) (λ i ys H'=>ys=(List.replicate i true).map V.bl/\Same H1 H'/\H' D=some (.lst ys)) ⟨rfl,Ha (Same.refl _) hD,Af⟩ (λ i ys H' _ ⟨_,s,_⟩=>⟨sa.same s,sb.same s⟩) ?_ ?_
      · rintro i x z ys H' q hx hz ⟨rfl,s1,hl⟩ hq;refine ⟨((Kp.refl _).set rfl).set rfl,Tx ?_⟩;walk_at "w";have hi:i<(Be d).length:=by
          have:=(List.getElem?_eq_some_iff.mp hx).1;omega
        have hd:(Be d)[i]?=some (Be d)[i]:=List.getElem?_eq_getElem hi;have s2:Same H1 (upd H' q (HO.tup [x,z])):=s1.trans (Ai hq);refine ⟨x,z,(Be d)[i],rfl,(ea i x _ hx hd).same s2,(eb i z _ hz hd).same s2,λ H'' s3=> ?_⟩;have hl':H'' D=some (.lst ((List.replicate i true).map V.bl)):=s3 _ _ (Ai hq _ _ hl);refine ⟨hl',?_,?_,?_,Af⟩
        · rw [List.length_map,List.length_replicate];exact Nat.lt_of_lt_of_le hi (Nat.le_trans (by omega) (show 100000<=sizeLine by decide))
        · rw [List.replicate_succ',List.map_append];rfl
        · exact Ha (s2.trans s3) hD
      · rintro ys H' ⟨rfl,s1,hl⟩;walk_at "w";refine Hr (SqL.of hl) ?_;have e:(List.replicate xs.length true).all id=true:=by simp
        rw [e];exact k H' (sp.trans s1)
    · walk_at "w";refine Bc rv.ty (MA d) ?_;walk_at "w";refine Bc ru.ty (MA d) ?_;walk_at "w";refine Gv (λ _=> ?_) (λ q=>absurd rfl q);walk_at "w";have e:=Re rv ru hc;subst e;refine ⟨N1 rv hc,?_⟩;rw [decide_eq_true rfl];exact k H1 sp
theorem DO {f:Addr} {fd:FuncData} (D:DefAt K mg "_law_same" CM ["_law_found","_law_due"] f fd) (T:Txt K mg c):∀ n,FnOk P w K mg base CX0 (n+1) f fd ["_law_found","_law_due"] (BL n)
  | 0=>⟨λ _ _ _ _ h=>h.elim,λ _ _ _ _ _ _ _ _ _ _ _ _ _ h=>h.elim⟩
  | n+1=>IL D.fn T (D.call (DO D T n))
def Gz:Sp:=λ vs H Q _=>∃ n:Nat,vs=[.int n]/\1<=n/\n<=1000/\Q (.int ((2 ^ (n - 1):Nat):Int)) H
noncomputable abbrev Ih:Stmt:=top 39
theorem NJ:FnScope ["number"] ["number"] (Ah Ih):=⟨rfl,rfl,rfl,by decide +kernel,rfl,by decide +kernel,by decide +kernel⟩
theorem NA {f:Addr} {fd:FuncData} (F:Fun K "bit_of" "bit_of" Ih f fd) (T:Txt K mg c):FnOk P w K mg base CX0 1 f fd ["number"] Gz:=by
  refine F.ok NJ (λ vs H Q E h=> ?_) (λ cdv A outer s H vs Q E hr h=> ?_)
  · obtain ⟨n,rfl,_⟩:=h;rfl
  · obtain ⟨n,rfl,h1,h2,q⟩:=h;refine ⟨_,(Ag (Aj (Am KA Ae (Am Cm (pv 0) Ae)))),?_⟩;walk_at "w";refine AM ⟨by omega,by omega,by decide⟩ ?_;rw [show ((n:Int) - 1).toNat=n - 1 by omega,FM];exact q
def CK (K:PySem.W.Frag):Sp:=λ vs H Q _=>∃ tp a,∃ ns:List Nat,vs=[.ref a]/\SqS tp K H a (ns.map nV)/\(∀ n∈ns,1<=n/\n<=1000)/\∀ H',Same H H'->Q (.int ((MM.mOf ns:Nat):Int)) H'
noncomputable abbrev Gm:Stmt:=top 40
theorem sc_mask_of:FnScope ["numbers","mask","number"] ["numbers"] (Ah Gm):=⟨rfl,rfl,rfl,by decide +kernel,rfl,by decide +kernel,by decide +kernel⟩
theorem LJ {f:Addr} {fd:FuncData} (F:Fun K "mask_of" "mask_of" Gm f fd) (T:Txt K mg c) (c_bit_of:CallF P w K mg base "bit_of" 1 ["number"] Gz):FnOk P w K mg base CX0 2 f fd ["numbers"] (CK K):=by
  refine F.ok sc_mask_of (λ vs H Q E h=> ?_) (λ cdv A outer s H vs Q E hr h=> ?_)
  · obtain ⟨tp,a,ns,rfl,_⟩:=h;rfl
  · obtain ⟨tp,a,ns,rfl,sa,hn,q⟩:=h;refine ⟨_,(Ac (Ay (i:=1) sc_mask_of.nd rfl (Or.inl rfl) Ae)
      (Ac (C6 PassesOwn.never rfl (OF (K:=K) (pv 0)) (Az (i:=2) sc_mask_of.nd rfl (Or.inl rfl)) (Ag (O9 (i:=1) sc_mask_of.nd rfl (Or.inl rfl) (Ad c_bit_of hr (Aa (pv 2) Ab)) OO)))
      (Ag (Aj (pv 1))))),?_⟩
    walk_at "w";refine ⟨tp,a,rfl,⟨_,sa⟩,Cu (MX sa) (λ i σ H3=>∃ x,σ=[some (.ref a),some (.int ((MM.mOf (ns.take i):Nat):Int)),x]/\Same H H3) ⟨_,rfl,Same.refl _⟩ (λ i σ H3 ⟨_,_,s⟩=>s) ?_ ?_⟩
    · rintro i σ H' H3 hi ⟨x,rfl,s'⟩ s3;have hi':i<ns.length:=by simpa using hi
      have hm:ns.getD i 0∈ns:=by rw [List.getD_eq_getElem?_getD,List.getElem?_eq_getElem hi'];exact List.getElem_mem hi'
      rw [AS hi];walk_at "w";refine OJ rfl ?_;walk_at "w";refine ⟨_,rfl,(hn _ hm).1,(hn _ hm).2,?_⟩;walk_at "w";rw [bO, <-MM.mOf_snoc, <-JH hi'];exact ⟨_,rfl,s'.trans s3⟩
    · rintro σ H3 ⟨x,rfl,s3⟩;walk_at "w";rw [List.length_map,List.take_length];exact q H3 s3
def Fh:Sp:=λ vs H Q _=>∃ n:Nat,vs=[.int n]/\n<=1000/\Q (.int ((2 ^ n - 1:Nat):Int)) H
noncomputable abbrev GF:Stmt:=top 41
theorem Mb:FnScope ["most"] ["most"] (Ah GF):=⟨rfl,rfl,rfl,by decide +kernel,rfl,by decide +kernel,by decide +kernel⟩
theorem Mi {f:Addr} {fd:FuncData} (F:Fun K "mask_to" "mask_to" GF f fd) (T:Txt K mg c):FnOk P w K mg base CX0 1 f fd ["most"] Fh:=by
  refine F.ok Mb (λ vs H Q E h=> ?_) (λ cdv A outer s H vs Q E hr h=> ?_)
  · obtain ⟨n,rfl,_⟩:=h;rfl
  · obtain ⟨n,rfl,h1,q⟩:=h;refine ⟨_,(Ag (Aj (Am Cm (Am KA Ae (pv 0)) Ae))),?_⟩;walk_at "w";refine AM ⟨by omega,by omega,by decide⟩ ?_;walk_at "w";have hp:0<2 ^ n:=Nat.two_pow_pos n;rw [show ((n:Int)).toNat=n by omega,FM,show ((2 ^ n:Nat):Int) - 1=((2 ^ n - 1:Nat):Int) by omega];exact q
def B8:Sp:=λ vs H Q _=>∃ m n:Nat,vs=[.int m, .int n]/\1<=n/\n<=1000/\Q (.bl (m.testBit (n - 1))) H
theorem RE (m i:Nat):(!decide (((m &&& 2 ^ i:Nat):Int)=0))=m.testBit i:=by
  have e:(m &&& 2 ^ i)=(m.testBit i).toNat*2 ^ i:=by
    refine Nat.eq_of_testBit_eq λ j=> ?_;rw [Nat.testBit_and,Nat.testBit_two_pow];by_cases h:i=j
    · subst h;cases hb:m.testBit i <;> simp
    · cases hb:m.testBit i <;> simp [h,Nat.testBit_two_pow]
  rw [e];have hp:0<2 ^ i:=Nat.two_pow_pos i;cases m.testBit i with
  | false=>simp
  | true=>
    rw [decide_eq_false (by rw [Bool.toNat_true];omega)];rfl
noncomputable abbrev DG:Stmt:=top 42
theorem Ix:FnScope ["mask","number"] ["mask","number"] (Ah DG):=⟨rfl,rfl,rfl,by decide +kernel,rfl,by decide +kernel,by decide +kernel⟩
theorem Iz {f:Addr} {fd:FuncData} (F:Fun K "has_number" "has_number" DG f fd) (T:Txt K mg c) (c_bit_of:CallF P w K mg base "bit_of" 1 ["number"] Gz):FnOk P w K mg base CX0 2 f fd ["mask","number"] B8:=by
  refine F.ok Ix (λ vs H Q E h=> ?_) (λ cdv A outer s H vs Q E hr h=> ?_)
  · obtain ⟨m,n,rfl,_⟩:=h;rfl
  · obtain ⟨m,n,rfl,h1,h2,q⟩:=h;refine ⟨_,(Ag (Aj (DY JK (Am OT (pv 0) (Ad c_bit_of hr (Aa (pv 1) Ab))) Ae (AG _)))),?_⟩;walk_at "w";refine ⟨n,rfl,h1,h2,?_⟩;walk_at "w";rw [bA,RE];exact q
def CV:Sp:=λ vs H Q _=>∃ m:Nat,vs=[.int m]/\m<2 ^ 900/\∀ H' p,Same H H'->H p=none->H' p=some (.lst ((MM.nOf m).map nV))->Q (.ref p) H'
noncomputable abbrev DI:Stmt:=top 43
theorem IE:FnScope ["mask"] ["mask"] (Ah DI):=⟨rfl,rfl,rfl,by decide +kernel,rfl,by decide +kernel,by decide +kernel⟩
theorem Jh {f:Addr} {fd:FuncData} (F:Fun K "numbers_of" "numbers_of" DI f fd) (T:Txt K mg c) (c_has_number:CallF P w K mg base "has_number" 2 ["mask","number"] B8):FnOk P w K mg base CX0 3 f fd ["mask"] CV:=by
  refine F.ok IE (λ vs H Q E h=> ?_) (λ cdv A outer s H vs Q E hr h=> ?_)
  · obtain ⟨m,rfl,_⟩:=h;rfl
  · obtain ⟨m,rfl,h1,q⟩:=h;have hb:=MM.bits_le h1;refine ⟨_,(Ag (Aj (At (BG rfl (T.own _ (by decide)) (Aa Ae (Aa (Am AR (Tw (K:=K) PySem.F.plainAttrs_int PySem.F.slot_int_bit_length PySem.F.type_int_bit_length IQ (pv 0)) Ae) Ab))) (λ _ _ _ _=>(BH (Ba (Ad c_has_number hr (Aa (pv 1) (Aa (pv 0) Ab)))))) (λ _ _ _ _=>(pv 0))))),?_⟩;walk_at "w";refine tyI ?_;refine Q1 ?_;walk_at "w";refine ⟨_,_,rfl,⟨by decide,by decide,by omega,by omega⟩,λ D hD=> ?_⟩;rw [show ((MM.bits m:Nat)+1 - 1:Int).toNat=MM.bits m by omega];refine A9 (p:=m.testBit) (G:=λ i=>1+(i:Int)) (BE rfl) hD (by omega) ?_ ?_ ?_
    · intro i H' R hi s k;walk_at "w";refine ⟨m,i+1,by rw [show (1:Int)+(i:Nat)=((i+1:Nat):Int) by omega],by omega,by omega,?_⟩;rw [show i+1 - 1=i by omega];exact ⟨_,rfl,k H' (Same.refl _)⟩
    · intro i H' R hi hp s k;walk_at "w";exact k H' (Same.refl _)
    · intro H' s hl;refine q H' D s hD ?_;rw [hl];unfold MM.nOf;rw [List.map_map,List.map_map];congr 2;refine List.map_congr_left λ i _=> ?_;show V.int (1+(i:Int))=V.int ((i+1:Nat):Int);congr 1;omega
def Eo (K:PySem.W.Frag):Sp:=λ vs H Q _=>∃ tp a,∃ ns:List Nat,vs=[.ref a]/\SqS tp K H a (ns.map nV)/\∀ H',Same H H'->Q (.int ((MM.uOf ns:Nat):Int)) H'
noncomputable abbrev Fg:Stmt:=top 44
theorem sc_union_of:FnScope ["masks","union","mask"] ["masks"] (Ah Fg):=⟨rfl,rfl,rfl,by decide +kernel,rfl,by decide +kernel,by decide +kernel⟩
theorem KI {f:Addr} {fd:FuncData} (F:Fun K "union_of" "union_of" Fg f fd) (T:Txt K mg c):FnOk P w K mg base CX0 1 f fd ["masks"] (Eo K):=by
  refine F.ok sc_union_of (λ vs H Q E h=> ?_) (λ cdv A outer s H vs Q E hr h=> ?_)
  · obtain ⟨tp,a,ns,rfl,_⟩:=h;rfl
  · obtain ⟨tp,a,ns,rfl,sa,q⟩:=h;refine ⟨_,(Ac (Ay (i:=1) sc_union_of.nd rfl (Or.inl rfl) Ae)
      (Ac (C6 PassesOwn.never rfl (OF (K:=K) (pv 0)) (Az (i:=2) sc_union_of.nd rfl (Or.inl rfl)) (Ag (O9 (i:=1) sc_union_of.nd rfl (Or.inl rfl) (pv 2) OO)))
      (Ag (Aj (pv 1))))),?_⟩
    walk_at "w";refine ⟨tp,a,rfl,⟨_,sa⟩,Cu (MX sa) (λ i σ H3=>∃ x,σ=[some (.ref a),some (.int ((MM.uOf (ns.take i):Nat):Int)),x]/\Same H H3) ⟨_,rfl,Same.refl _⟩ (λ i σ H3 ⟨_,_,s⟩=>s) ?_ ?_⟩
    · rintro i σ H' H3 hi ⟨x,rfl,s'⟩ s3;have hi':i<ns.length:=by simpa using hi
      rw [AS hi];walk_at "w";refine OJ rfl ?_;walk_at "w";rw [bO, <-MM.uOf_snoc, <-JH hi'];exact ⟨_,rfl,s'.trans s3⟩
    · rintro σ H3 ⟨x,rfl,s3⟩;walk_at "w";rw [List.length_map,List.take_length];exact q H3 s3
def CW:Sp:=λ vs H Q _=>∃ m n:Nat,vs=[.int m, .int n]/\n<=1000/\Q (.int (((2 ^ n - 1) ^^^ m:Nat):Int)) H
noncomputable abbrev DD:Stmt:=top 45
theorem IR:FnScope ["mask","most"] ["mask","most"] (Ah DD):=⟨rfl,rfl,rfl,by decide +kernel,rfl,by decide +kernel,by decide +kernel⟩
theorem IU {f:Addr} {fd:FuncData} (F:Fun K "other_mask" "other_mask" DD f fd) (T:Txt K mg c) (c_mask_to:CallF P w K mg base "mask_to" 1 ["most"] Fh):FnOk P w K mg base CX0 2 f fd ["mask","most"] CW:=by
  refine F.ok IR (λ vs H Q E h=> ?_) (λ cdv A outer s H vs Q E hr h=> ?_)
  · obtain ⟨m,n,rfl,_⟩:=h;rfl
  · obtain ⟨m,n,rfl,h1,q⟩:=h;refine ⟨_,(Ag (Aj (Am SG (Ad c_mask_to hr (Aa (pv 1) Ab)) (pv 0)))),?_⟩;walk_at "w";refine ⟨n,rfl,h1,?_⟩;walk_at "w";rw [bX];exact q
def Ev:Sp:=λ vs H Q _=>∃ m n:Nat,vs=[.int m, .int n]/\n<=900/\m<2 ^ n/\∀ H',Same H H'->Q (.int ((MM.tOf m n:Nat):Int)) H'
noncomputable abbrev Da:Stmt:=top 46
theorem Iu:FnScope ["mask","most"] ["mask","most"] (Ah Da):=⟨rfl,rfl,rfl,by decide +kernel,rfl,by decide +kernel,by decide +kernel⟩
theorem HG {f:Addr} {fd:FuncData} (F:Fun K "turned_mask" "turned_mask" Da f fd) (T:Txt K mg c) (c_mask_of:CallF P w K mg base "mask_of" 2 ["numbers"] (CK K)) (c_numbers_of:CallF P w K mg base "numbers_of" 3 ["mask"] CV):FnOk P w K mg base CX0 4 f fd ["mask","most"] Ev:=by
  refine F.ok Iu (λ vs H Q E h=> ?_) (λ cdv A outer s H vs Q E hr h=> ?_)
  · obtain ⟨m,n,rfl,_⟩:=h;rfl
  · obtain ⟨m,n,rfl,h1,h2,q⟩:=h;refine ⟨_,(Ag (Aj (Ad c_mask_of (hr.mono (by decide)) (Aa (At (Bp (K:=K) (Ad c_numbers_of hr (Aa (pv 0) Ab))) (λ _ _ _ _=>Ao) (λ _ _ _ _=>(Am Cm (Am AR (pv 1) Ae) (pv 0)))) Ab)))),?_⟩;walk_at "w";refine ⟨m,rfl,Nat.lt_of_lt_of_le h2 (Nat.pow_le_pow_right (by decide) h1),λ H1 p s1 hp e1=> ?_⟩;walk_at "w";refine ⟨p,rfl,⟨_,SqL.of e1⟩,λ D hD=> ?_⟩;have hl:=MM.nOf_len h2;have mem:∀ k∈MM.nOf m,1<=k/\k<=n:=λ k hk=>by
      obtain ⟨a1,a2⟩:=(MM.nOf_mem m k).mp hk;refine ⟨a1,?_⟩;rcases Nat.lt_or_ge (k - 1) n with z | z
      · omega
      · rw [Nat.testBit_lt_two_pow (Nat.lt_of_lt_of_le h2 (Nat.pow_le_pow_right (by decide) z))] at a2;cases a2
    refine AQ (G:=λ i=>((n+1 - (MM.nOf m).getD i 0:Nat):Int)) (AJ (SqL.of e1) rfl) hD (by rw [List.length_map];omega) ?_ ?_
    · intro i H' R hi s k;have hi':i<(MM.nOf m).length:=by simpa using hi
      have hm:=mem _ (show (MM.nOf m).getD i 0∈MM.nOf m by rw [List.getD_eq_getElem?_getD,List.getElem?_eq_getElem hi'];exact List.getElem_mem hi');rw [AS hi];walk_at "w";rw [show (n:Int)+1 - (((MM.nOf m).getD i 0:Nat):Int)=((n+1 - (MM.nOf m).getD i 0:Nat):Int) by omega];exact k H' (Same.refl _)
    · intro H' s hl2;walk_at "w";have e:((List.range ((MM.nOf m).map nV).length).map λ i=>((n+1 - (MM.nOf m).getD i 0:Nat):Int)).map V.int=((MM.nOf m).map λ k=>n+1 - k).map nV:=by
        rw [List.length_map,List.map_map,List.map_map];exact Aq (λ k=>nV (n+1 - k)) (MM.nOf m) 0
      rw [e] at hl2;refine ⟨false,D,_,rfl,SqL.of hl2,λ k hk=> ?_,λ H2 s2=>q H2 (s1.trans (s.trans s2))⟩;obtain ⟨j,hj,rfl⟩:=List.mem_map.mp hk;have:=mem j hj;omega
def GT (K:PySem.W.Frag):Sp:=λ vs H Q _=>∃ x,vs=[x]/\Ty K H x/\Q (.bl (Pu x)) H
noncomputable abbrev Fy:Stmt:=top 17
theorem Li:FnScope ["thing"] ["thing"] (Ah Fy):=⟨rfl,rfl,rfl,by decide +kernel,rfl,by decide +kernel,by decide +kernel⟩
theorem K0 {f:Addr} {fd:FuncData} (F:Fun K "is_whole" "is_whole" Fy f fd) (T:Txt K mg c):FnOk P w K mg base CX0 1 f fd ["thing"] (GT K):=by
  refine F.ok Li (λ vs H Q E h=> ?_) (λ cdv A outer s H vs Q E hr h=> ?_)
  · obtain ⟨x,rfl,_⟩:=h;rfl
  · obtain ⟨x,rfl,⟨n,ty⟩,k⟩:=h;refine ⟨_,(Ag (Aj (C7 (Ak (BV (K:=K)) rfl (T.own _ (by decide)) boot_isinstance (Aa (pv 0) (Aa (Ch rfl (T.own _ (by decide)) boot_int) Ab))) (Ef (JS (Ak (BV (K:=K)) rfl (T.own _ (by decide)) boot_isinstance (Aa (pv 0) (Aa (Ch rfl (T.own _ (by decide)) boot_bool) Ab)))))))),?_⟩;walk_at "w";refine Bc ty (QX ty) ?_;walk_at "w";refine QC (λ hc=> ?_) (λ hc=> ?_)
    · walk_at "w";refine Bc ty (Ox ty) ?_;walk_at "w";exact E4 (by cases x <;> first | rfl | exact absurd hc Bool.false_ne_true) k
    · exact E4 (by cases x <;> first | rfl | exact absurd hc.symm Bool.false_ne_true) k
def Cg (K:PySem.W.Frag):Sp:=λ vs H Q _=>∃ x a b,vs=[x, .int a, .int b]/\Ty K H x/\Q (.bl (BI x a b)) H
noncomputable abbrev Fw:Stmt:=top 18
theorem LF:FnScope ["thing","least","most"] ["thing","least","most"] (Ah Fw):=⟨rfl,rfl,rfl,by decide +kernel,rfl,by decide +kernel,by decide +kernel⟩
theorem KW {f:Addr} {fd:FuncData} (F:Fun K "is_among" "is_among" Fw f fd) (T:Txt K mg c) (c_is_whole:CallF P w K mg base "is_whole" 1 ["thing"] (GT K)):FnOk P w K mg base CX0 2 f fd ["thing","least","most"] (Cg K):=by
  refine F.ok LF (λ vs H Q E h=> ?_) (λ cdv A outer s H vs Q E hr h=> ?_)
  · obtain ⟨x,a,b,rfl,_⟩:=h;rfl
  · obtain ⟨x,a,b,rfl,ty,k⟩:=h;refine ⟨_,(Ag (Aj (C7 (Ad c_is_whole hr (Aa (pv 0) Ab)) (Ef (Pe RI RI (pv 1) (pv 0) (pv 2)))))),?_⟩;walk_at "w";refine ⟨x,rfl,ty,?_⟩;walk_at "w";refine QC (λ hc=> ?_) (λ hc=> ?_)
    · cases x with
      | int i=>
        walk_at "w";refine QC (λ h1=> ?_) (λ h1=> ?_)
        · walk_at "w";exact E4 (by show _=(decide (a<=i)&&decide (i<=b));rw [h1,Bool.true_and]) k
        · walk_at "w";exact E4 (by show _=(decide (a<=i)&&decide (i<=b));rw [h1,Bool.false_and]) k
      | _=>exact absurd hc Bool.false_ne_true
    · exact E4 (by cases x <;> first | rfl | exact absurd hc.symm Bool.false_ne_true) k
def ClAt (C:Addr) (H:Hp) (x:Addr) (n:Nat) (rs:List Nat):Prop:=∃ dx t,H x=some (.ins C dx [("width",nV n),("rows", .ref t)])/\H t=some (.tup (rs.map nV))
theorem ClAt.same {C:Addr} {H H':Hp} {x:Addr} {n:Nat} {rs:List Nat} (h:ClAt C H x n rs) (s:Same H H'):ClAt C H' x n rs:=by
  obtain ⟨dx,t,h1,h2⟩:=h;exact ⟨dx,t,s _ _ h1,s _ _ h2⟩
structure ClOk (n:Nat) (rs:List Nat):Prop where
  n1:1<=n
  n2:n<=60
  p1:1<=rs.length
  p2:rs.length<=60
  lt:∀ r∈rs,r<2 ^ n
inductive ClFit (K:PySem.W.Frag) (H:Hp):V->V->Bool->Prop
  | ends {e r:V} (ty:Ty K H e) (h:BI e 1 60=false):ClFit K H e r false
  | kind {n:Nat} {r:V} {t:Value} (h1:1<=n) (h2:n<=60) (ty:TyOf K H r t) (h:PySem.W.kitOne K t (.type "list")=some false):ClFit K H (.int n) r false
  | many {n:Nat} {a:Addr} {xs:List V} (h1:1<=n) (h2:n<=60) (ha:H a=some (.lst xs)) (h:xs.length=0\/60<xs.length):ClFit K H (.int n) (.ref a) false
  | rows {n:Nat} {a:Addr} {xs:List V} (h1:1<=n) (h2:n<=60) (ha:H a=some (.lst xs)) (l1:1<=xs.length) (l2:xs.length<=60) (ty:∀ x∈xs,Ty K H x):ClFit K H (.int n) (.ref a) (xs.all λ x=>BI x 0 ((2 ^ n - 1:Nat):Int))
theorem ClFit.ok {H:Hp} {n:Nat} {a:Addr} {rs:List Nat} (ha:H a=some (.lst (rs.map nV))) (ok:ClOk n rs):ClFit K H (.int n) (.ref a) true:=by
  have e:((rs.map nV).all λ x=>BI x 0 ((2 ^ n - 1:Nat):Int))=true:=by
    rw [List.all_eq_true];intro x hx;obtain ⟨r,hr,rfl⟩:=List.mem_map.mp hx;have:=ok.lt _ hr;have hp:0<2 ^ n:=Nat.two_pow_pos n;show (decide ((0:Int)<=(r:Nat))&&decide (((r:Nat):Int)<=((2 ^ n - 1:Nat):Int)))=true;simp only [Bool.and_eq_true,decide_eq_true_eq];omega
  rw [<-e];refine .rows ok.n1 ok.n2 ha (by rw [List.length_map];exact ok.p1) (by rw [List.length_map];exact ok.p2) λ x hx=> ?_;obtain ⟨r,hr,rfl⟩:=List.mem_map.mp hx;exact ⟨_, .int _⟩
def EV (K:PySem.W.Frag) (c:Cs):Sp:=λ vs H Q E=>∃ (e r:V) (b:Bool),vs=[e,r]/\ClFit K H e r b/\∀ H',Same H H'->(b=true->Q .non H')/\(b=false->E (.ref c.BadCloth) none H')
theorem F7 {n:Nat} (h1:1<=n) (h2:n<=60):BI (.int n) 1 60=true:=by
  show (decide ((1:Int)<=n)&&decide ((n:Int)<=60))=true;simp;omega
noncomputable abbrev DU:Stmt:=top 48
theorem IA:FnScope ["ends","rows"] ["ends","rows"] (Ah DU):=⟨rfl,rfl,rfl,by decide +kernel,rfl,by decide +kernel,by decide +kernel⟩
theorem IC {f:Addr} {fd:FuncData} (F:Fun K "need_cloth" "need_cloth" DU f fd) (T:Txt K mg c) (c_is_among:CallF P w K mg base "is_among" 2 ["thing","least","most"] (Cg K)) (c_mask_to:CallF P w K mg base "mask_to" 1 ["most"] Fh):FnOk P w K mg base (CXE P w) 3 f fd ["ends","rows"] (EV K c):=by
  refine Fun.okE F IA (λ vs H Q E h=> ?_) (λ cdv A outer s H vs Q E hr h=> ?_)
  · obtain ⟨e,r,b,rfl,_⟩:=h;rfl
  · obtain ⟨e,r,b,rfl,hf,k⟩:=h;have tye:Ty K H e:=by cases hf <;> first | assumption | exact ⟨_, .int _⟩
    refine ⟨_,(Ac (AV (BC (Ba (Ad c_is_among hr (Aa (pv 0) (Aa Ae (Aa (Jn T.k_MOST_ENDS) Ab)))))) (Ag (Gh T.g_BadCloth T.xi_BadCloth (Aa As Ab))) Au)
      (Ac (AV (PW.pt (Hv (BC (Ba (Ak (BV (K:=K)) rfl (T.own _ (by decide)) boot_isinstance (Aa (pv 1) (Aa (Ch rfl (T.own _ (by decide)) Aw) Ab))))) (GJ (BC (Ba (Ad c_is_among hr (Aa (Ak (BW (K:=K)) rfl (T.own _ (by decide)) boot_len (Aa (pv 1) Ab)) (Aa Ae (Aa (Jn T.k_MOST_PICKS) Ab))))))))) (Ag (Gh T.g_BadCloth T.xi_BadCloth (Aa As Ab))) Au)
      (Ag (AV (BC (Ba (Ak (K6 (K:=K)) rfl (T.own _ (by decide)) Dd (Aa (At (Bp (K:=K) (pv 1)) (λ _ _ _ _=>Ao) (λ _ _ _ _=>(Ad c_is_among hr (Aa (pv 0) (Aa Ae (Aa (Ad c_mask_to (hr.mono (by decide)) (Aa (pv 1) Ab)) Ab)))))) Ab)))) (Ag (Gh T.g_BadCloth T.xi_BadCloth (Aa As Ab))) Au)))),?_⟩
    walk_at "w";refine ⟨_,_,_,rfl,tye,?_⟩;walk_at "w";cases hf with
    | ends ty h=>
      rw [h];refine ES ?_;exact ⟨by decide,(k H (Same.refl _)).2 rfl⟩
    | kind h1 h2 ty h=>
      rw [F7 h1 h2];refine BN ?_;walk_at "w";refine Bc ty h ?_;walk_at "w";exact ⟨by decide,(k H (Same.refl _)).2 rfl⟩
    | @many n a xs h1 h2 ha h=>
      rw [F7 h1 h2];refine BN ?_;walk_at "w";refine Bc (.lst ha) (kb (b:=true) (by decide +kernel)) ?_;walk_at "w";refine Bm (SqL.of ha) ?_;walk_at "w";refine ⟨_,_,_,rfl,⟨_, .int _⟩,?_⟩;walk_at "w";have d2:BI (.int (xs.length:Nat)) 1 60=false:=by
        show (decide ((1:Int)<=(xs.length:Nat))&&decide (((xs.length:Nat):Int)<=60))=false;rw [Bool.and_eq_false_iff,decide_eq_false_iff_not,decide_eq_false_iff_not];omega
      rw [d2];refine ES ?_;exact ⟨by decide,(k H (Same.refl _)).2 rfl⟩
    | @rows n a xs h1 h2 ha l1 l2 ty=>
      rw [F7 h1 h2];refine BN ?_;walk_at "w";refine Bc (.lst ha) (kb (b:=true) (by decide +kernel)) ?_;walk_at "w";refine Bm (SqL.of ha) ?_;walk_at "w";refine ⟨_,_,_,rfl,⟨_, .int _⟩,?_⟩;walk_at "w";rw [F7 l1 l2];refine BN ?_;walk_at "w";refine ⟨a,rfl,⟨_,SqL.of ha⟩,λ D hD=> ?_⟩;refine FK (G:=λ i=>BI (xs.getD i .non) 0 ((2 ^ n - 1:Nat):Int)) (AJ (SqL.of ha) rfl) hD (by omega) ?_ ?_
      · intro i H' R hi s kk;walk_at "w";refine ⟨n,rfl,by omega,?_⟩;walk_at "w";refine ⟨_,_,_,rfl,(ty _ ?_).same s,?_⟩
        · rw [List.getD_eq_getElem?_getD,List.getElem?_eq_getElem hi];exact List.getElem_mem hi
        exact kk H' (Same.refl _)
      · intro H' s hl;walk_at "w";refine Hr (SqL.of hl) ?_;walk_at "w";have d4:((List.range xs.length).map λ i=>BI (xs.getD i .non) 0 ((2 ^ n - 1:Nat):Int)).all id=xs.all λ x=>BI x 0 ((2 ^ n - 1:Nat):Int):=by
          rw [Aq (λ x:V=>BI x 0 ((2 ^ n - 1:Nat):Int)) xs .non,List.all_map];rfl
        rw [d4];refine QC (λ hb=> ?_) (λ hb=> ?_)
        · have hb:(xs.all λ x=>BI x 0 ((2 ^ n - 1:Nat):Int))=false:=by simpa using hb
          exact ⟨by decide,(k H' s).2 hb⟩
        · have hb:(xs.all λ x=>BI x 0 ((2 ^ n - 1:Nat):Int))=true:=by simpa using hb
          walk_at "w";exact (k H' s).1 hb
def AL (K:PySem.W.Frag) (c:Cs):Sp:=λ vs H Q E=>∃ (x dx:Addr) (e r:V),vs=[.ref x,e,r]/\H x=some (.ins c.Cloth dx [])/\
  ((ClFit K H e r false/\∀ H',Same H H'->E (.ref c.BadCloth) none H')\/
  (∃ (n:Nat) (a:Addr) (rs:List Nat),e= .int n/\r= .ref a/\H a=some (.lst (rs.map nV))/\ClOk n rs/\∀ H',(∀ b o,H b=some o->b≠x->H' b=some o)->ClAt c.Cloth H' x n rs->Q .non H'))
noncomputable abbrev BZ:Stmt:=AD (top 49) 0
theorem FY:FnScope ["self","ends","rows"] ["self","ends","rows"] (Ah BZ):=⟨rfl,rfl,rfl,by decide +kernel,rfl,by decide +kernel,by decide +kernel⟩
theorem F8 {f:Addr} {fd:FuncData} (F:Fun K "__init__" "Cloth.__init__" BZ f fd) (T:Txt K mg c) (c_need_cloth:CallE P w K mg base "need_cloth" 3 ["ends","rows"] (EV K c)):FnOk P w K mg base (CXE P w) 4 f fd ["self","ends","rows"] (AL K c):=by
  refine Fun.okE F FY (λ vs H Q E h=> ?_) (λ cdv A outer s H vs Q E hr h=> ?_)
  · obtain ⟨x,dx,e,r,rfl,_⟩:=h;rfl
  · obtain ⟨x,dx,e,r,rfl,hx,h⟩:=h;refine ⟨_,(Ac (AZ (F2 c_need_cloth hr O2 (Aa (pv 1) (Aa (pv 2) Ab))))
      (Ac (DL (pv 0) (pv 1) rfl)
      (Ag (DL (pv 0) (Ax (Ct (K:=K)) rfl (T.own _ (by decide)) AH (Aa (pv 2) Ab)) rfl)))),?_⟩
    walk_at "w";rcases h with ⟨hf,k⟩ | ⟨n,a,rs,rfl,rfl,ha,ok,k⟩
    · exact ⟨_,_,false,rfl,hf,λ H1 s1=>⟨λ z=>absurd z (by decide),λ _=>k H1 s1⟩⟩
    refine ⟨_,_,true,rfl, .ok ha ok,λ H1 s1=>⟨λ _=> ?_,λ z=>absurd z (by decide)⟩⟩;walk_at "w";refine DF (s1 _ _ hx) T.kd_Cloth.cl T.na_Cloth_width (by decide) ?_;walk_at "w";have nax:a≠x:=GU ha hx (by intro z;cases z);refine BO (SqL.of (by rw [Al nax];exact s1 _ _ ha)) λ t ht=> ?_;walk_at "w";have nxt:x≠t:=Ap Af ht;refine DF (by rw [Al nxt];exact Af) T.kd_Cloth.cl T.na_Cloth_rows (by show 1<1000;decide) ?_;walk_at "w";refine k _ (λ b o e hb=> ?_) ⟨dx,t,Af,by rw [Al (Ne.symm nxt),Af]⟩;have hbt:b≠t:=λ z=>by
      subst z;rw [Al hb,s1 _ _ e] at ht;cases ht
    rw [Al hb,Al hbt,Al hb];exact s1 _ _ e
theorem F9 {c:Cs} {H:Hp} {Q:VK} {E:XK} {n:Nat} {a:Addr} {rs:List Nat} (ha:H a=some (.lst (rs.map nV))) (ok:ClOk n rs) (h:∀ H' x,Same H H'->H x=none->ClAt c.Cloth H' x n rs->Q (.ref x) H'):
    ∀ x dx,H x=none->H dx=none->dx≠x->AL K c [.ref x, .int n, .ref a] (upd (upd H dx (.own x)) x (.ins c.Cloth dx [])) (λ v H2=>v= .non/\Q (.ref x) H2) E:=by
  intro x dx hx hdx ne;have s0:=Lm (o:=HO.ins c.Cloth dx []) (u:= .own x) hx hdx;exact ⟨x,dx,_,_,rfl,Af, .inr ⟨n,a,rs,rfl,rfl,s0 _ _ ha,ok,λ H' kp at'=>⟨rfl,h H' x (λ b o e=>kp b o (s0 b o e) (Ap e hx)) hx at'⟩⟩⟩
def Fa (c:Cs):Sp:=λ vs H Q _=>∃ x n rs,vs=[.ref x]/\ClAt c.Cloth H x n rs/\∀ H' p l,Same H H'->H p=none->H l=none->H' p=some (.tup [nV n, .ref l])->H' l=some (.lst (rs.map nV))->Q (.ref p) H'
noncomputable abbrev DW:Stmt:=AD (top 49) 1
theorem Jd:FnScope ["self"] ["self"] (Ah DW):=⟨rfl,rfl,rfl,by decide +kernel,rfl,by decide +kernel,by decide +kernel⟩
theorem IG {f:Addr} {fd:FuncData} (F:Fun K "told" "Cloth.told" DW f fd) (T:Txt K mg c):FnOk P w K mg base CX0 1 f fd ["self"] (Fa c):=by
  refine F.ok Jd (λ vs H Q E h=> ?_) (λ cdv A outer s H vs Q E hr h=> ?_)
  · obtain ⟨x,n,rs,rfl,_⟩:=h;rfl
  · obtain ⟨x,n,rs,rfl,⟨dx,t,h1,h2⟩,k⟩:=h;refine ⟨_,(Ag (Aj (Bd (Aa (AN (K:=K) (pv 0) rfl) (Aa (Ax (CI (K:=K)) rfl (T.own _ (by decide)) Aw (Aa (AN (K:=K) (pv 0) rfl) Ab)) Ab))))),?_⟩;walk_at "w";refine ⟨_,_,_,_,_,rfl,h1,T.kd_Cloth.cl,T.na_Cloth_width,rfl,?_⟩;walk_at "w";refine ⟨_,_,_,_,_,rfl,h1,T.kd_Cloth.cl,T.na_Cloth_rows,rfl,?_⟩;walk_at "w";refine Bh (SqT.of h2) λ l hl=> ?_;walk_at "w";intro p hp;refine k _ p l ((Ai hl).trans (Ai hp)) ((Ai hl).free hp) hl Af ?_;rw [Al (Ap Af hp),Af]
def By (c:Cs):Sp:=λ vs H Q _=>∃ x n rs,vs=[.ref x]/\ClAt c.Cloth H x n rs/\Q (nV n) H
noncomputable abbrev Dy:Stmt:=AD (top 49) 2
theorem IW:FnScope ["self"] ["self"] (Ah Dy):=⟨rfl,rfl,rfl,by decide +kernel,rfl,by decide +kernel,by decide +kernel⟩
theorem IH {f:Addr} {fd:FuncData} (F:Fun K "ends" "Cloth.ends" Dy f fd) (T:Txt K mg c):FnOk P w K mg base CX0 1 f fd ["self"] (By c):=by
  refine F.ok IW (λ vs H Q E h=> ?_) (λ cdv A outer s H vs Q E hr h=> ?_)
  · obtain ⟨x,n,rs,rfl,_⟩:=h;rfl
  · obtain ⟨x,n,rs,rfl,⟨dx,t,h1,h2⟩,k⟩:=h;refine ⟨_,(Ag (Aj (AN (K:=K) (pv 0) rfl))),?_⟩;walk_at "w";exact ⟨_,_,_,_,_,rfl,h1,T.kd_Cloth.cl,T.na_Cloth_width,rfl,k⟩
def Et (c:Cs):Sp:=λ vs H Q _=>∃ x n rs,vs=[.ref x]/\ClAt c.Cloth H x n rs/\Q (nV rs.length) H
noncomputable abbrev C3:Stmt:=AD (top 49) 3
theorem Im:FnScope ["self"] ["self"] (Ah C3):=⟨rfl,rfl,rfl,by decide +kernel,rfl,by decide +kernel,by decide +kernel⟩
theorem Io {f:Addr} {fd:FuncData} (F:Fun K "picks" "Cloth.picks" C3 f fd) (T:Txt K mg c):FnOk P w K mg base CX0 1 f fd ["self"] (Et c):=by
  refine F.ok Im (λ vs H Q E h=> ?_) (λ cdv A outer s H vs Q E hr h=> ?_)
  · obtain ⟨x,n,rs,rfl,_⟩:=h;rfl
  · obtain ⟨x,n,rs,rfl,⟨dx,t,h1,h2⟩,k⟩:=h;refine ⟨_,(Ag (Aj (Ak (BW (K:=K)) rfl (T.own _ (by decide)) boot_len (Aa (AN (K:=K) (pv 0) rfl) Ab)))),?_⟩;walk_at "w";refine ⟨_,_,_,_,_,rfl,h1,T.kd_Cloth.cl,T.na_Cloth_rows,rfl,?_⟩;walk_at "w";refine G7 (SqT.of h2) ?_;rw [List.length_map];exact k
noncomputable abbrev colS:Str:="abcdefghijklmnopqrstuvwxyz"
def KG (z:Str):Prop:=z.length=1/\(!(Builtin.Str.occurrences colS z 0 colS.length 1).isEmpty)=true
def FZ:Sp:=λ vs H Q _=>∃ z,vs=[.str z]/\KG z/\Q (.bl true) H
noncomputable abbrev EI:Stmt:=top 19
theorem Ke:FnScope ["thing"] ["thing"] (Ah EI):=⟨rfl,rfl,rfl,by decide +kernel,rfl,by decide +kernel,by decide +kernel⟩
theorem JQ {f:Addr} {fd:FuncData} (F:Fun K "is_colour" "is_colour" EI f fd) (T:Txt K mg c):FnOk P w K mg base CX0 1 f fd ["thing"] FZ:=by
  refine F.ok Ke (λ vs H Q E h=> ?_) (λ cdv A outer s H vs Q E hr h=> ?_)
  · obtain ⟨z,rfl,_⟩:=h;rfl
  · obtain ⟨z,rfl,hz,k⟩:=h;refine ⟨_,(Ag (Aj (C7 (Ak (BV (K:=K)) rfl (T.own _ (by decide)) boot_isinstance (Aa (pv 0) (Aa (Ch rfl (T.own _ (by decide)) boot_str) Ab))) (C7 (DY Cp (Ak (BW (K:=K)) rfl (T.own _ (by decide)) boot_len (Aa (pv 0) Ab)) Ae (AG _)) (Ef (DY NL (pv 0) (UC T.k_COLOURS) (by with_unfolding_all rfl))))))),?_⟩;walk_at "w";refine Bc (.str z) (kb (b:=true) (by decide +kernel)) ?_;walk_at "w";refine Qi (by rw [hz.1];decide) ?_;walk_at "w";refine Gv (λ _=> ?_) (λ q=>absurd (by rw [hz.1];rfl) q);walk_at "w";refine ⟨_,_,rfl,rfl,?_⟩;rw [hz.2];exact k
def MW:Sp:=λ vs H Q _=>∃ z,vs=[.bl true, .str z]/\Q .non H
noncomputable abbrev Mf:Stmt:=top 22
theorem Qd:FnScope ["holds","words"] ["holds","words"] (Ah Mf):=⟨rfl,rfl,rfl,by decide +kernel,rfl,by decide +kernel,by decide +kernel⟩
theorem Rr {f:Addr} {fd:FuncData} (F:Fun K "need" "need" Mf f fd) (T:Txt K mg c):FnOk P w K mg base CX0 1 f fd ["holds","words"] MW:=by
  refine F.ok Qd (λ vs H Q E h=> ?_) (λ cdv A outer s H vs Q E hr h=> ?_)
  · obtain ⟨z,rfl,_⟩:=h;rfl
  · obtain ⟨z,rfl,k⟩:=h;refine ⟨_,(Ag (AV (BC (Ba (pv 0))) (Ag OK) Au)),?_⟩;walk_at "w";exact k
def Fm:Sp:=λ vs H Q _=>∃ a xs,∃ lo hi:Int,vs=[.ref a, .int lo, .int hi]/\H a=some (.lst xs)/\lo<=xs.length/\xs.length<=hi/\Q (.bl true) H
noncomputable abbrev Gj:Stmt:=top 23
theorem LU:FnScope ["thing","least","most"] ["thing","least","most"] (Ah Gj):=⟨rfl,rfl,rfl,by decide +kernel,rfl,by decide +kernel,by decide +kernel⟩
theorem LZ {f:Addr} {fd:FuncData} (F:Fun K "is_list" "is_list" Gj f fd) (T:Txt K mg c) (c_is_among:CallF P w K mg base "is_among" 2 ["thing","least","most"] (Cg K)):FnOk P w K mg base CX0 3 f fd ["thing","least","most"] Fm:=by
  refine F.ok LU (λ vs H Q E h=> ?_) (λ cdv A outer s H vs Q E hr h=> ?_)
  · obtain ⟨a,xs,lo,hi,rfl,_⟩:=h;rfl
  · obtain ⟨a,xs,lo,hi,rfl,ha,h1,h2,k⟩:=h;refine ⟨_,(Ag (Aj (C7 (Ak (BV (K:=K)) rfl (T.own _ (by decide)) boot_isinstance (Aa (pv 0) (Aa (Ch rfl (T.own _ (by decide)) Aw) Ab))) (Ef (Ad c_is_among hr (Aa (Ak (BW (K:=K)) rfl (T.own _ (by decide)) boot_len (Aa (pv 0) Ab)) (Aa (pv 1) (Aa (pv 2) Ab)))))))),?_⟩;walk_at "w";refine Bc (.lst ha) (kb (b:=true) (by decide +kernel)) ?_;walk_at "w";refine Bm (SqL.of ha) ?_;walk_at "w";refine ⟨_,_,_,rfl,⟨_, .int _⟩,?_⟩;refine E4 ?_ k;show (decide (lo<=(xs.length:Nat))&&decide (((xs.length:Nat):Int)<=hi))=true;simp [h1,h2]
def Rise (m:Nat) (ns:List Nat):Prop:=∀ i,i<ns.length->(0::ns).getD i 0+1<=ns.getD i 0/\ns.getD i 0<=m
def Gg:Sp:=λ vs H Q _=>∃ a ns m,vs=[.ref a,nV m]/\H a=some (.lst (ns.map nV))/\Rise m ns/\∀ H',Same H H'->Q (.bl true) H'
noncomputable abbrev EA:Stmt:=top 24
theorem sc_is_rising:FnScope ["thing","most","last","number"] ["thing","most"] (Ah EA):=⟨rfl,rfl,rfl,by decide +kernel,rfl,by decide +kernel,by decide +kernel⟩
theorem JT {f:Addr} {fd:FuncData} (F:Fun K "is_rising" "is_rising" EA f fd) (T:Txt K mg c) (c_is_among:CallF P w K mg base "is_among" 2 ["thing","least","most"] (Cg K)):FnOk P w K mg base CX0 3 f fd ["thing","most"] Gg:=by
  refine F.ok sc_is_rising (λ vs H Q E h=> ?_) (λ cdv A outer s H vs Q E hr h=> ?_)
  · obtain ⟨a,ns,m,rfl,_⟩:=h;rfl
  · obtain ⟨a,ns,m,rfl,ha,hr',k⟩:=h;refine ⟨_,(Ac (AV (BC (Ba (Ak (BV (K:=K)) rfl (T.own _ (by decide)) boot_isinstance (Aa (pv 0) (Aa (Ch rfl (T.own _ (by decide)) Aw) Ab))))) (Ag (Aj Ek)) Au)
      (Ac (Ay (i:=2) sc_is_rising.nd rfl (Or.inl rfl) Ae)
      (Ac (C6 PassesOwn.never rfl (Bp (K:=K) (pv 0)) (Az (i:=3) sc_is_rising.nd rfl (Or.inl rfl)) (Ac (AV (BC (Ba (Ad c_is_among hr (Aa (pv 3) (Aa (Am AR (pv 2) Ae) (Aa (pv 1) Ab)))))) (Ag (Aj Ek)) Au)
      (Ag (Ay (i:=2) sc_is_rising.nd rfl (Or.inl rfl) (pv 3)))))
      (Ag (Aj Ek))))),?_⟩
    walk_at "w";refine Bc (.lst ha) (kb (b:=true) (by decide +kernel)) ?_;walk_at "w";refine ⟨a,rfl,⟨_,SqL.of ha⟩,Cu (MD (SqL.of ha)) (λ i σ H3=>∃ x,σ=[some (.ref a),some (nV m),some (nV ((0::ns).getD i 0)),x]/\Same H H3) ⟨_,rfl,Same.refl _⟩ (λ i σ H3 ⟨_,_,s⟩=>s) ?_ ?_⟩
    · rintro i σ H' H3 hi ⟨x,rfl,s'⟩ s3;have hi':i<ns.length:=by simpa using hi
      have hq:=hr' i hi';rw [AS hi];walk_at "w";refine ⟨_,_,_,rfl,⟨_, .int _⟩,?_⟩;walk_at "w";have e:BI (.int (ns.getD i 0:Nat)) (((0::ns).getD i 0:Nat)+1) (m:Nat)=true:=by
        show (decide ((((0::ns).getD i 0:Nat):Int)+1<=(ns.getD i 0:Nat))&&decide (((ns.getD i 0:Nat):Int)<=(m:Nat)))=true;simp only [Bool.and_eq_true,decide_eq_true_eq];omega
      rw [e];refine BN ?_;walk_at "w";exact ⟨_,rfl,s'.trans s3⟩
    · rintro σ H3 ⟨x,rfl,s3⟩;walk_at "w";exact k H3 s3
def EW:Sp:=λ vs H Q _=>∃ v ls m,vs=[v,nV m]/\Rp H FT 2 v (dLL ls)/\(∀ l∈ls,Rise m l)/\∀ H',Same H H'->Q (.bl true) H'
noncomputable abbrev DM:Stmt:=top 25
theorem IP:FnScope ["thing","most"] ["thing","most"] (Ah DM):=⟨rfl,rfl,rfl,by decide +kernel,rfl,by decide +kernel,by decide +kernel⟩
theorem IT {f:Addr} {fd:FuncData} (F:Fun K "are_rising" "are_rising" DM f fd) (T:Txt K mg c) (c_is_rising:CallF P w K mg base "is_rising" 3 ["thing","most"] Gg):FnOk P w K mg base CX0 4 f fd ["thing","most"] EW:=by
  refine F.ok IP (λ vs H Q E h=> ?_) (λ cdv A outer s H vs Q E hr h=> ?_)
  · obtain ⟨v,ls,m,rfl,_⟩:=h;rfl
  · obtain ⟨v,ls,m,rfl,rv,hr',k⟩:=h;obtain ⟨m',a,vs,em,rfl,ha,_,hl,hb,el⟩:=GC rv;cases em;rw [List.length_map] at hl;refine ⟨_,(Ag (Aj (Ak (K6 (K:=K)) rfl (T.own _ (by decide)) Dd (Aa (At (Bp (K:=K) (pv 0)) (λ _ _ _ _=>Ao) (λ _ _ _ _=>(Ad c_is_rising hr (Aa (pv 0) (Aa (pv 1) Ab))))) Ab)))),?_⟩;walk_at "w";refine ⟨a,rfl,⟨_,SqL.of ha⟩,λ D hD=> ?_⟩;refine FK (G:=λ _=>true) (AJ (SqL.of ha) rfl) hD hb ?_ ?_
    · intro i H' R hi s kk;have hi':i<ls.length:=by omega
      have r:=el i (by simpa using hi');rw [AA dL ls i .non [] hi'] at r;obtain ⟨b,eb,hb2,_,_⟩:=Hz r;rw [eb];walk_at "w";exact ⟨b,_,m,rfl,s _ _ hb2,hr' _ (An hi'),kk⟩
    · intro H' s hl2;walk_at "w";refine Hr (SqL.of hl2) ?_;refine E4 ?_ (k H' s);simp
def Er:Sp:=λ vs H Q _=>∃ (a:Addr) (zs:List Str),vs=[.ref a,nV zs.length]/\H a=some (.lst (zs.map V.str))/\zs.length<=1000/\(∀ z∈zs,KG z)/\∀ H',Same H H'->Q (.bl true) H'
noncomputable abbrev C5:Stmt:=top 26
theorem HI:FnScope ["thing","many"] ["thing","many"] (Ah C5):=⟨rfl,rfl,rfl,by decide +kernel,rfl,by decide +kernel,by decide +kernel⟩
theorem Hg {f:Addr} {fd:FuncData} (F:Fun K "are_colours" "are_colours" C5 f fd) (T:Txt K mg c) (c_is_list:CallF P w K mg base "is_list" 3 ["thing","least","most"] Fm) (c_is_colour:CallF P w K mg base "is_colour" 1 ["thing"] FZ):FnOk P w K mg base CX0 4 f fd ["thing","many"] Er:=by
  refine F.ok HI (λ vs H Q E h=> ?_) (λ cdv A outer s H vs Q E hr h=> ?_)
  · obtain ⟨a,zs,rfl,_⟩:=h;rfl
  · obtain ⟨a,zs,rfl,ha,hz,hc,k⟩:=h;refine ⟨_,(Ag (Aj (C7 (Ad c_is_list hr (Aa (pv 0) (Aa (pv 1) (Aa (pv 1) Ab)))) (Ef (Ak (K6 (K:=K)) rfl (T.own _ (by decide)) Dd (Aa (At (Bp (K:=K) (pv 0)) (λ _ _ _ _=>Ao) (λ _ _ _ _=>(Ad c_is_colour (hr.mono (by decide)) (Aa (pv 0) Ab)))) Ab)))))),?_⟩;walk_at "w";refine ⟨a,_,_,_,rfl,ha,by simp,by simp,?_⟩;walk_at "w";refine ⟨a,rfl,⟨_,SqL.of ha⟩,λ D hD=> ?_⟩;refine FK (G:=λ _=>true) (AJ (SqL.of ha) rfl) hD (by rw [List.length_map];omega) ?_ ?_
    · intro i H' R hi s kk;have hi':i<zs.length:=by simpa using hi
      rw [Ge hi];walk_at "w";exact ⟨_,rfl,hc _ (An hi'),kk H' (Same.refl _)⟩
    · intro H' s hl2;walk_at "w";refine Hr (SqL.of hl2) ?_;refine E4 ?_ (k H' s);simp
structure Dr where
  sh:Nat
  tr:Nat
  th:List Nat
  ti:List (List Nat)
  td:List (List Nat)
  wa:List Str
  we:List Str
structure DrOk (d:Dr):Prop where
  s1:1<=d.sh
  s2:d.sh<=16
  t1:1<=d.tr
  t2:d.tr<=16
  h1:1<=d.th.length
  h2:d.th.length<=60
  hs:∀ n∈d.th,n<=d.sh
  il:d.ti.length=d.tr
  ir:∀ l∈d.ti,Rise d.sh l
  p1:1<=d.td.length
  p2:d.td.length<=60
  pr:∀ l∈d.td,Rise d.tr l
  wl:d.wa.length=d.th.length
  wc:∀ z∈d.wa,KG z
  fl:d.we.length=d.td.length
  fc:∀ z∈d.we,KG z
structure Parts (H:Hp) (d:Dr) (vs:List V):Prop where
  ex:∃ a1 v2 v3 a4 a5,vs=[nV d.sh,nV d.tr, .ref a1,v2,v3, .ref a4, .ref a5]/\H a1=some (.lst (d.th.map nV))/\Rp H FT 2 v2 (dLL d.ti)/\Rp H FT 2 v3 (dLL d.td)/\H a4=some (.lst (d.wa.map V.str))/\H a5=some (.lst (d.we.map V.str))
theorem Parts.same {H H':Hp} {d:Dr} {vs:List V} (p:Parts H d vs) (s:Same H H'):Parts H' d vs:=by
  obtain ⟨a1,v2,v3,a4,a5,e,h1,h2,h3,h4,h5⟩:=p.ex;exact ⟨a1,v2,v3,a4,a5,e,s _ _ h1,h2.same s,h3.same s,s _ _ h4,s _ _ h5⟩
theorem am {n:Nat} {lo hi:Int} (h1:lo<=n) (h2:(n:Int)<=hi):BI (nV n) lo hi=true:=by
  show (decide (lo<=(n:Nat))&&decide (((n:Nat):Int)<=hi))=true;simp [h1,h2]
def E8:Sp:=λ vs H Q _=>∃ d,Parts H d vs/\DrOk d/\∀ H',Same H H'->Q .non H'
noncomputable abbrev Dx:Stmt:=top 27
theorem IY:FnScope ["shafts","treadles","threading","ties","treading","warp","weft"] ["shafts","treadles","threading","ties","treading","warp","weft"] (Ah Dx):=⟨rfl,rfl,rfl,by decide +kernel,rfl,by decide +kernel,by decide +kernel⟩
theorem Jf {f:Addr} {fd:FuncData} (F:Fun K "need_draft" "need_draft" Dx f fd) (T:Txt K mg c) (c_need:CallF P w K mg base "need" 1 ["holds","words"] MW) (c_is_among:CallF P w K mg base "is_among" 2 ["thing","least","most"] (Cg K)) (c_is_list:CallF P w K mg base "is_list" 3 ["thing","least","most"] Fm) (c_are_rising:CallF P w K mg base "are_rising" 4 ["thing","most"] EW) (c_are_colours:CallF P w K mg base "are_colours" 4 ["thing","many"] Er):FnOk P w K mg base CX0 5 f fd ["shafts","treadles","threading","ties","treading","warp","weft"] E8:=by
  refine F.ok IY (λ vs H Q E h=> ?_) (λ cdv A outer s H vs Q E hr h=> ?_)
  · obtain ⟨d,⟨a1,v2,v3,a4,a5,rfl,_⟩,_⟩:=h;rfl
  · obtain ⟨d,⟨a1,v2,v3,a4,a5,rfl,h1,h2,h3,h4,h5⟩,ok,k⟩:=h;obtain ⟨m2,a2,vs2,em2,rfl,ha2,_,hl2,hb2,el2⟩:=GC h2;obtain ⟨m3,a3,vs3,em3,rfl,ha3,_,hl3,hb3,el3⟩:=GC h3;rw [List.length_map] at hl2 hl3;refine ⟨_,(Ac (AZ (Ad c_need (hr.mono (by decide)) (Aa (Ad c_is_among (hr.mono (by decide)) (Aa (pv 0) (Aa Ae (Aa (Jn T.k_MOST_SHAFTS) Ab)))) (Aa As Ab))))
      (Ac (AZ (Ad c_need (hr.mono (by decide)) (Aa (Ad c_is_among (hr.mono (by decide)) (Aa (pv 1) (Aa Ae (Aa (Jn T.k_MOST_TREADLES) Ab)))) (Aa As Ab))))
      (Ac (AZ (Ad c_need (hr.mono (by decide)) (Aa (Ad c_is_list (hr.mono (by decide)) (Aa (pv 2) (Aa Ae (Aa (Jn T.k_MOST_ENDS) Ab)))) (Aa As Ab))))
      (Ac (AZ (Ad c_need (hr.mono (by decide)) (Aa (Ak (K6 (K:=K)) rfl (T.own _ (by decide)) Dd (Aa (At (Bp (K:=K) (pv 2)) (λ _ _ _ _=>Ao) (λ _ _ _ _=>(Ad c_is_among (hr.mono (by decide)) (Aa (pv 0) (Aa Ae (Aa (pv 1) Ab)))))) Ab)) (Aa As Ab))))
      (Ac (AZ (Ad c_need (hr.mono (by decide)) (Aa (Ad c_is_list (hr.mono (by decide)) (Aa (pv 3) (Aa (pv 1) (Aa (pv 1) Ab)))) (Aa As Ab))))
      (Ac (AZ (Ad c_need (hr.mono (by decide)) (Aa (Ad c_are_rising hr (Aa (pv 3) (Aa (pv 0) Ab))) (Aa As Ab))))
      (Ac (AZ (Ad c_need (hr.mono (by decide)) (Aa (Ad c_is_list (hr.mono (by decide)) (Aa (pv 4) (Aa Ae (Aa (Jn T.k_MOST_PICKS) Ab)))) (Aa As Ab))))
      (Ac (AZ (Ad c_need (hr.mono (by decide)) (Aa (Ad c_are_rising hr (Aa (pv 4) (Aa (pv 1) Ab))) (Aa As Ab))))
      (Ac (AZ (Ad c_need (hr.mono (by decide)) (Aa (Ad c_are_colours hr (Aa (pv 5) (Aa (Ak (BW (K:=K)) rfl (T.own _ (by decide)) boot_len (Aa (pv 2) Ab)) Ab))) (Aa As Ab))))
      (Ag (AZ (Ad c_need (hr.mono (by decide)) (Aa (Ad c_are_colours hr (Aa (pv 6) (Aa (Ak (BW (K:=K)) rfl (T.own _ (by decide)) boot_len (Aa (pv 4) Ab)) Ab))) (Aa As Ab)))))))))))))),?_⟩
    walk_at "w";refine ⟨_,_,_,rfl,⟨_, .int _⟩,?_⟩;walk_at "w";rw [am (by have:=ok.s1;omega) (by have:=ok.s2;omega)];refine ⟨_,rfl,?_⟩;walk_at "w";refine ⟨_,_,_,rfl,⟨_, .int _⟩,?_⟩;walk_at "w";rw [am (by have:=ok.t1;omega) (by have:=ok.t2;omega)];refine ⟨_,rfl,?_⟩;walk_at "w";refine ⟨a1,_,_,_,rfl,h1,by have:=ok.h1;simp;omega,by have:=ok.h2;simp;omega,?_⟩;walk_at "w";refine ⟨_,rfl,?_⟩;walk_at "w";refine ⟨a1,rfl,⟨_,SqL.of h1⟩,λ D hD=> ?_⟩;refine FK (G:=λ _=>true) (AJ (SqL.of h1) rfl) hD (by have:=ok.h2;rw [List.length_map];omega) ?_ ?_
    · intro i H' R hi s kk;have hi':i<d.th.length:=by simpa using hi
      rw [AS hi];walk_at "w";refine ⟨_,_,_,rfl,⟨_, .int _⟩,?_⟩;have:=ok.hs _ (An (y:=0) hi');rw [am (by omega) (by omega)];exact kk H' (Same.refl _)
    intro H1 s1 hl1;walk_at "w";refine Hr (SqL.of hl1) ?_;rw [show ((List.range (d.th.map nV).length).map λ _=>true).all id=true by simp];walk_at "w";refine ⟨_,rfl,?_⟩;walk_at "w";refine ⟨a2,_,_,_,rfl,s1 _ _ ha2,by have:=ok.il;omega,by have:=ok.il;omega,?_⟩;walk_at "w";refine ⟨_,rfl,?_⟩;walk_at "w";refine ⟨_,d.ti,d.sh,rfl,h2.same s1,ok.ir,λ H2 s2=> ?_⟩;walk_at "w";refine ⟨_,rfl,?_⟩;walk_at "w";have s12:=s1.trans s2;refine ⟨a3,_,_,_,rfl,s12 _ _ ha3,by have:=ok.p1;omega,by have:=ok.p2;omega,?_⟩;walk_at "w";refine ⟨_,rfl,?_⟩;walk_at "w";refine ⟨_,d.td,d.tr,rfl,h3.same s12,ok.pr,λ H3 s3=> ?_⟩;have s13:=s12.trans s3;walk_at "w";refine ⟨_,rfl,?_⟩;walk_at "w";refine Bm (SqL.of (s13 _ _ h1)) ?_;walk_at "w";refine ⟨a4,d.wa,by rw [List.length_map,ok.wl],s13 _ _ h4,by have:=ok.wl;have:=ok.h2;omega,ok.wc,λ H4 s4=> ?_⟩;have s14:=s13.trans s4;walk_at "w";refine ⟨_,rfl,?_⟩;walk_at "w";refine Bm (SqL.of (s14 _ _ ha3)) ?_;walk_at "w";refine ⟨a5,d.we,by rw [hl3,ok.fl],s14 _ _ h5,by have:=ok.fl;have:=ok.p2;omega,ok.fc,λ H5 s5=> ?_⟩;walk_at "w";refine ⟨_,rfl,?_⟩;walk_at "w";exact k _ (s14.trans s5)
def DrAt (C:Addr) (H:Hp) (x:Addr) (d:Dr):Prop:=∃ dx v1 v2 v3 v4 v5,H x=some (.ins C dx [("shafts",nV d.sh),("treadles",nV d.tr),("threading",v1),("ties",v2),("treading",v3),("warp",v4),("weft",v5)])/\
  Rp H FT 1 v1 (dT d.th)/\Rp H FT 2 v2 (dTT d.ti)/\Rp H FT 2 v3 (dTT d.td)/\Rp H FT 1 v4 (dST d.wa)/\Rp H FT 1 v5 (dST d.we)
theorem DrAt.same {C:Addr} {H H':Hp} {x:Addr} {d:Dr} (h:DrAt C H x d) (s:Same H H'):DrAt C H' x d:=by
  obtain ⟨dx,v1,v2,v3,v4,v5,h0,h1,h2,h3,h4,h5⟩:=h;exact ⟨dx,v1,v2,v3,v4,v5,s _ _ h0,h1.same s,h2.same s,h3.same s,h4.same s,h5.same s⟩
def A6 (c:Cs):Sp:=λ vs H Q _=>∃ (x dx:Addr) (ws:List V) (d:Dr),vs= .ref x::ws/\H x=some (.ins c.Draft dx [])/\Parts H d ws/\DrOk d/\∀ H',But x H H'->DrAt c.Draft H' x d->Q .non H'
noncomputable abbrev B7:Stmt:=AD (top 28) 0
theorem Gf:FnScope ["self","shafts","treadles","threading","ties","treading","warp","weft"] ["self","shafts","treadles","threading","ties","treading","warp","weft"] (Ah B7):=⟨rfl,rfl,rfl,by decide +kernel,rfl,by decide +kernel,by decide +kernel⟩
theorem FF {f:Addr} {fd:FuncData} (F:Fun K "__init__" "Draft.__init__" B7 f fd) (T:Txt K mg c) (c_need_draft:CallF P w K mg base "need_draft" 5 ["shafts","treadles","threading","ties","treading","warp","weft"] E8):FnOk P w K mg base CX0 6 f fd ["self","shafts","treadles","threading","ties","treading","warp","weft"] (A6 c):=by
  refine F.ok Gf (λ vs H Q E h=> ?_) (λ cdv A outer s H vs Q E hr h=> ?_)
  · obtain ⟨x,dx,ws,d,rfl,_,⟨a1,v2,v3,a4,a5,rfl,_⟩,_⟩:=h;rfl
  · obtain ⟨x,dx,ws,d,rfl,hx,ps,ok,k⟩:=h;have ps0:=ps;obtain ⟨a1,v2,v3,a4,a5,rfl,h1,h2,h3,h4,h5⟩:=ps;refine ⟨_,(Ac (AZ (Ad c_need_draft hr (Aa (pv 1) (Aa (pv 2) (Aa (pv 3) (Aa (pv 4) (Aa (pv 5) (Aa (pv 6) (Aa (pv 7) Ab)))))))))
      (Ac (DL (pv 0) (pv 1) rfl)
      (Ac (DL (pv 0) (pv 2) rfl)
      (Ac (DL (pv 0) (Ax (Ct (K:=K)) rfl (T.own _ (by decide)) AH (Aa (pv 3) Ab)) rfl)
      (Ac (DL (pv 0) (Ax (Ct (K:=K)) rfl (T.own _ (by decide)) AH (Aa (At (Bp (K:=K) (pv 4)) (λ _ _ _ _=>Ao) (λ _ _ _ _=>(Ax (Ct (K:=K)) rfl (T.own _ (by decide)) AH (Aa (pv 0) Ab)))) Ab)) rfl)
      (Ac (DL (pv 0) (Ax (Ct (K:=K)) rfl (T.own _ (by decide)) AH (Aa (At (Bp (K:=K) (pv 5)) (λ _ _ _ _=>Ao) (λ _ _ _ _=>(Ax (Ct (K:=K)) rfl (T.own _ (by decide)) AH (Aa (pv 0) Ab)))) Ab)) rfl)
      (Ac (DL (pv 0) (Ax (Ct (K:=K)) rfl (T.own _ (by decide)) AH (Aa (pv 6) Ab)) rfl)
      (Ag (DL (pv 0) (Ax (Ct (K:=K)) rfl (T.own _ (by decide)) AH (Aa (pv 7) Ab)) rfl))))))))),?_⟩
    walk_at "w";refine ⟨d,ps0,ok,λ H1 s1=> ?_⟩;walk_at "w";have B:But x H H1:=But.of s1;have hx1:=s1 _ _ hx;refine DF hx1 T.kd_Draft.cl T.na_Draft_shafts (by decide) ?_;replace B:=B.put (o:=HO.ins c.Draft dx (AX "shafts" (nV d.sh) []));have hx2:upd H1 x (HO.ins c.Draft dx (AX "shafts" (nV d.sh) [])) x=_:=Af;generalize upd H1 x (HO.ins c.Draft dx (AX "shafts" (nV d.sh) []))=H2 at B hx2 ⊢;walk_at "w";refine DF hx2 T.kd_Draft.cl T.na_Draft_treadles (by show 1<1000;decide) ?_;replace B:=B.put (o:=HO.ins c.Draft dx (AX "treadles" (nV d.tr) (AX "shafts" (nV d.sh) [])));have hx3:upd H2 x (HO.ins c.Draft dx (AX "treadles" (nV d.tr) (AX "shafts" (nV d.sh) []))) x=_:=Af;generalize upd H2 x (HO.ins c.Draft dx (AX "treadles" (nV d.tr) (AX "shafts" (nV d.sh) [])))=H3 at B hx3 ⊢;walk_at "w";refine BO (SqL.of (B _ _ h1 (GU h1 hx (by intro z;cases z)))) λ t1 ht1=> ?_;walk_at "w";have hx3':=Ai (o:=HO.tup (d.th.map nV)) ht1 _ _ hx3;have r1:Rp (upd H3 t1 (HO.tup (d.th.map nV))) FT 1 (.ref t1) (dT d.th):=T8 Af (by have:=ok.h2;omega);replace B:=B.same (Ai (o:=HO.tup (d.th.map nV)) ht1);generalize upd H3 t1 (HO.tup (d.th.map nV))=H4 at B hx3' r1 ⊢;refine DF hx3' T.kd_Draft.cl T.na_Draft_threading (by show 2<1000;decide) ?_;replace r1:=r1.ins (o:=HO.ins c.Draft dx (AX "threading" (.ref t1) (AX "treadles" (nV d.tr) (AX "shafts" (nV d.sh) [])))) hx3';replace B:=B.put (o:=HO.ins c.Draft dx (AX "threading" (.ref t1) (AX "treadles" (nV d.tr) (AX "shafts" (nV d.sh) []))));have hx5:upd H4 x (HO.ins c.Draft dx (AX "threading" (.ref t1) (AX "treadles" (nV d.tr) (AX "shafts" (nV d.sh) [])))) x=_:=Af;generalize upd H4 x (HO.ins c.Draft dx (AX "threading" (.ref t1) (AX "treadles" (nV d.tr) (AX "shafts" (nV d.sh) []))))=H5 at B hx5 r1 ⊢;walk_at "w";obtain ⟨m2,a2,vs2,em2,rfl,ha2,_,hl2,hb2,el2⟩:=GC (B.rp hx h2);cases em2;rw [List.length_map] at hl2;refine ⟨a2,rfl,⟨_,SqL.of ha2⟩,λ D hD=> ?_⟩;refine AF (m:=1) (G:=λ i=>dT (d.ti.getD i [])) (AJ (SqL.of ha2) rfl) hD hb2 ?_ ?_
    · intro i H' R hi s kk;have hi':i<d.ti.length:=by omega
      have r:=el2 i (by simpa using hi');rw [AA dL d.ti i .non [] hi'] at r;obtain ⟨b,eb,hb3,_,hb4⟩:=Hz r;rw [eb];walk_at "w";exact BO (SqL.of (s _ _ hb3)) λ q hq=>kk _ _ (Ai hq) (T8 Af hb4)
    intro H6 ys s6 hl6 r2;rw [hl2,Se] at r2;walk_at "w";refine BO (SqL.of hl6) λ t2 ht2=> ?_;walk_at "w";replace r2:Rp (upd H6 t2 (HO.tup ys)) FT 2 (.ref t2) (dTT d.ti):=(r2.tupd hl6 ht2).any;have s62:=s6.trans (Ai (o:=HO.tup ys) ht2);replace B:=B.same s62;replace r1:=r1.same s62;have hx6:=s62 _ _ hx5;generalize upd H6 t2 (HO.tup ys)=H7 at B hx6 r1 r2 ⊢;refine DF hx6 T.kd_Draft.cl T.na_Draft_ties (by show 3<1000;decide) ?_;generalize ef:AX "ties" (V.ref t2) _=f7;replace r1:=r1.ins (o:=HO.ins c.Draft dx f7) hx6;replace r2:=r2.ins (o:=HO.ins c.Draft dx f7) hx6;replace B:=B.put (o:=HO.ins c.Draft dx f7);have hx8:upd H7 x (HO.ins c.Draft dx f7) x=_:=Af;generalize upd H7 x (HO.ins c.Draft dx f7)=H8 at B hx8 r1 r2 ⊢;subst ef;walk_at "w";obtain ⟨m3,a3,vs3,em3,rfl,ha3,_,hl3,hb3,el3⟩:=GC (B.rp hx h3);cases em3;rw [List.length_map] at hl3;refine ⟨a3,rfl,⟨_,SqL.of ha3⟩,λ D hD=> ?_⟩;refine AF (m:=1) (G:=λ i=>dT (d.td.getD i [])) (AJ (SqL.of ha3) rfl) hD hb3 ?_ ?_
    · intro i H' R hi s kk;have hi':i<d.td.length:=by omega
      have r:=el3 i (by simpa using hi');rw [AA dL d.td i .non [] hi'] at r;obtain ⟨b,eb,hb3,_,hb4⟩:=Hz r;rw [eb];walk_at "w";exact BO (SqL.of (s _ _ hb3)) λ q hq=>kk _ _ (Ai hq) (T8 Af hb4)
    intro H9 ys9 s9 hl9 r3;rw [hl3,Se] at r3;walk_at "w";refine BO (SqL.of hl9) λ t3 ht3=> ?_;walk_at "w";replace r3:Rp (upd H9 t3 (HO.tup ys9)) FT 2 (.ref t3) (dTT d.td):=(r3.tupd hl9 ht3).any;have s93:=s9.trans (Ai (o:=HO.tup ys9) ht3);replace B:=B.same s93;replace r1:=r1.same s93;replace r2:=r2.same s93;have hx9:=s93 _ _ hx8;generalize upd H9 t3 (HO.tup ys9)=HA at B hx9 r1 r2 r3 ⊢;refine DF hx9 T.kd_Draft.cl T.na_Draft_treading (by show 4<1000;decide) ?_;generalize ef:AX "treading" (V.ref t3) _=f9;replace r1:=r1.ins (o:=HO.ins c.Draft dx f9) hx9;replace r2:=r2.ins (o:=HO.ins c.Draft dx f9) hx9;replace r3:=r3.ins (o:=HO.ins c.Draft dx f9) hx9;replace B:=B.put (o:=HO.ins c.Draft dx f9);have hxB:upd HA x (HO.ins c.Draft dx f9) x=_:=Af;generalize upd HA x (HO.ins c.Draft dx f9)=HB at B hxB r1 r2 r3 ⊢;subst ef;walk_at "w";refine BO (SqL.of (B _ _ h4 (GU h4 hx (by intro z;cases z)))) λ t4 ht4=> ?_;walk_at "w";have r4:Rp (upd HB t4 (HO.tup (d.wa.map V.str))) FT 1 (.ref t4) (dST d.wa):=R7 Af (by have:=ok.h2;have:=ok.wl;omega);have sB:=Ai (o:=HO.tup (d.wa.map V.str)) ht4;replace B:=B.same sB;replace r1:=r1.same sB;replace r2:=r2.same sB;replace r3:=r3.same sB;replace hxB:=sB _ _ hxB;generalize upd HB t4 (HO.tup (d.wa.map V.str))=HC at B hxB r1 r2 r3 r4 ⊢;refine DF hxB T.kd_Draft.cl T.na_Draft_warp (by show 5<1000;decide) ?_;generalize ef:AX "warp" (V.ref t4) _=fC;replace r1:=r1.ins (o:=HO.ins c.Draft dx fC) hxB;replace r2:=r2.ins (o:=HO.ins c.Draft dx fC) hxB;replace r3:=r3.ins (o:=HO.ins c.Draft dx fC) hxB;replace r4:=r4.ins (o:=HO.ins c.Draft dx fC) hxB;replace B:=B.put (o:=HO.ins c.Draft dx fC);have hxD:upd HC x (HO.ins c.Draft dx fC) x=_:=Af;generalize upd HC x (HO.ins c.Draft dx fC)=HD at B hxD r1 r2 r3 r4 ⊢;subst ef;walk_at "w";refine BO (SqL.of (B _ _ h5 (GU h5 hx (by intro z;cases z)))) λ t5 ht5=> ?_;walk_at "w";have r5:Rp (upd HD t5 (HO.tup (d.we.map V.str))) FT 1 (.ref t5) (dST d.we):=R7 Af (by have:=ok.p2;have:=ok.fl;omega);have sD:=Ai (o:=HO.tup (d.we.map V.str)) ht5;replace B:=B.same sD;replace r1:=r1.same sD;replace r2:=r2.same sD;replace r3:=r3.same sD;replace r4:=r4.same sD;replace hxD:=sD _ _ hxD;generalize upd HD t5 (HO.tup (d.we.map V.str))=HE at B hxD r1 r2 r3 r4 r5 ⊢;refine DF hxD T.kd_Draft.cl T.na_Draft_weft (by show 6<1000;decide) ?_;generalize ef:AX "weft" (V.ref t5) _=fE;replace r1:=r1.ins (o:=HO.ins c.Draft dx fE) hxD;replace r2:=r2.ins (o:=HO.ins c.Draft dx fE) hxD;replace r3:=r3.ins (o:=HO.ins c.Draft dx fE) hxD;replace r4:=r4.ins (o:=HO.ins c.Draft dx fE) hxD;replace r5:=r5.ins (o:=HO.ins c.Draft dx fE) hxD;replace B:=B.put (o:=HO.ins c.Draft dx fE);have hxF:upd HD x (HO.ins c.Draft dx fE) x=_:=Af;walk_at "w";subst ef;exact k _ B ⟨dx,_,_,_,_,_,Af,r1,r2,r3,r4,r5⟩
theorem J8 {c:Cs} {H:Hp} {Q:VK} {d:Dr} {ws:List V} (ps:Parts H d ws) (ok:DrOk d) (h:∀ H' x,Same H H'->H x=none->DrAt c.Draft H' x d->Q (.ref x) H'):
    ∀ x dx,H x=none->H dx=none->dx≠x->A6 c (.ref x::ws) (upd (upd H dx (.own x)) x (.ins c.Draft dx [])) (λ v H2=>v= .non/\Q (.ref x) H2) E0:=by
  intro x dx hx hdx ne;have s0:=Lm (o:=HO.ins c.Draft dx []) (u:= .own x) hx hdx;exact ⟨x,dx,ws,d,rfl,Af,ps.same s0,ok,λ H' B at'=>⟨rfl,h H' x (λ b o e=>B b o (s0 b o e) (Ap e hx)) hx at'⟩⟩
noncomputable def dDr (d:Dr):Dt:= .tup [dN d.sh,dN d.tr,dL d.th,dLL d.ti,dLL d.td,dS d.wa,dS d.we]
def Cd (c:Cs):Sp:=λ vs H Q _=>∃ x d,vs=[.ref x]/\DrAt c.Draft H x d/\∀ H' p,Same H H'->H p=none->Rp H' (FN H) 3 (.ref p) (dDr d)->Q (.ref p) H'
noncomputable abbrev Dp:Stmt:=AD (top 28) 1
theorem Iv:FnScope ["self"] ["self"] (Ah Dp):=⟨rfl,rfl,rfl,by decide +kernel,rfl,by decide +kernel,by decide +kernel⟩
theorem IN {f:Addr} {fd:FuncData} (F:Fun K "told" "Draft.told" Dp f fd) (T:Txt K mg c):FnOk P w K mg base CX0 1 f fd ["self"] (Cd c):=by
  refine F.ok Iv (λ vs H Q E h=> ?_) (λ cdv A outer s H vs Q E hr h=> ?_)
  · obtain ⟨x,d,rfl,_⟩:=h;rfl
  · obtain ⟨x,d,rfl,⟨dx,v1,v2,v3,v4,v5,h0,h1,h2,h3,h4,h5⟩,k⟩:=h;obtain ⟨a1,rfl,e1,b1⟩:=CH h1;obtain ⟨m2,a2,vs2,em2,rfl,e2,l2,b2,el2⟩:=DB h2;cases em2;obtain ⟨m3,a3,vs3,em3,rfl,e3,l3,b3,el3⟩:=DB h3;cases em3;obtain ⟨a4,rfl,e4,b4⟩:=Gw h4;obtain ⟨a5,rfl,e5,b5⟩:=Gw h5;rw [List.length_map] at l2 l3;refine ⟨_,(Ag (Aj (Bd (Aa (AN (K:=K) (pv 0) rfl) (Aa (AN (K:=K) (pv 0) rfl) (Aa (Ax (CI (K:=K)) rfl (T.own _ (by decide)) Aw (Aa (AN (K:=K) (pv 0) rfl) Ab)) (Aa (At (Fd (K:=K) (AN (K:=K) (pv 0) rfl)) (λ _ _ _ _=>Ao) (λ _ _ _ _=>(Ax (CI (K:=K)) rfl (T.own _ (by decide)) Aw (Aa (pv 0) Ab)))) (Aa (At (Fd (K:=K) (AN (K:=K) (pv 0) rfl)) (λ _ _ _ _=>Ao) (λ _ _ _ _=>(Ax (CI (K:=K)) rfl (T.own _ (by decide)) Aw (Aa (pv 0) Ab)))) (Aa (Ax (CI (K:=K)) rfl (T.own _ (by decide)) Aw (Aa (AN (K:=K) (pv 0) rfl) Ab)) (Aa (Ax (CI (K:=K)) rfl (T.own _ (by decide)) Aw (Aa (AN (K:=K) (pv 0) rfl) Ab)) Ab)))))))))),?_⟩;walk_at "w";refine ⟨_,_,_,_,_,rfl,h0,T.kd_Draft.cl,T.na_Draft_shafts,rfl,?_⟩;walk_at "w";refine ⟨_,_,_,_,_,rfl,h0,T.kd_Draft.cl,T.na_Draft_treadles,rfl,?_⟩;walk_at "w";refine ⟨_,_,_,_,_,rfl,h0,T.kd_Draft.cl,T.na_Draft_threading,rfl,?_⟩;walk_at "w";refine Bh (SqT.of e1) λ p1 hp1=> ?_;walk_at "w";have s1:=Ai (o:=HO.lst (d.th.map nV)) hp1;have r1:Rp (upd H p1 (HO.lst (d.th.map nV))) (FN H) 2 (.ref p1) (dL d.th):=C9 Af hp1 b1;generalize upd H p1 (HO.lst (d.th.map nV))=H1 at s1 r1 ⊢;refine ⟨_,_,_,_,_,rfl,s1 _ _ h0,T.kd_Draft.cl,T.na_Draft_ties,rfl,?_⟩;walk_at "w";refine ⟨a2,rfl,⟨_,SqT.of (s1 _ _ e2)⟩,λ D2 hD2=> ?_⟩;refine AF (m:=1) (G:=λ i=>dL (d.ti.getD i [])) (B9 (SqT.of (s1 _ _ e2)) rfl) hD2 b2 ?_ ?_
    · intro i H' R hi s kk;have hi':i<d.ti.length:=by omega
      have r:=el2 i (by simpa using hi');rw [AA dT d.ti i .non [] hi'] at r;obtain ⟨b,eb,hb3,hb4⟩:=CH r;rw [eb];walk_at "w";exact Bh (SqT.of (s _ _ (s1 _ _ hb3))) λ q hq=>kk _ _ (Ai hq) (C9 Af hq hb4)
    intro H2 ys2 s2 hl2 r2;rw [l2,RV] at r2;replace r2:Rp H2 (FN H) 2 (.ref D2) (dLL d.ti):=r2.imp λ a ha=>s1.free ha;have s02:=s1.trans s2;walk_at "w";refine ⟨_,_,_,_,_,rfl,s02 _ _ h0,T.kd_Draft.cl,T.na_Draft_treading,rfl,?_⟩;walk_at "w";refine ⟨a3,rfl,⟨_,SqT.of (s02 _ _ e3)⟩,λ D3 hD3=> ?_⟩;refine AF (m:=1) (G:=λ i=>dL (d.td.getD i [])) (B9 (SqT.of (s02 _ _ e3)) rfl) hD3 b3 ?_ ?_
    · intro i H' R hi s kk;have hi':i<d.td.length:=by omega
      have r:=el3 i (by simpa using hi');rw [AA dT d.td i .non [] hi'] at r;obtain ⟨b,eb,hb3,hb4⟩:=CH r;rw [eb];walk_at "w";exact Bh (SqT.of (s _ _ (s02 _ _ hb3))) λ q hq=>kk _ _ (Ai hq) (C9 Af hq hb4)
    intro H3 ys3 s3 hl3 r3;rw [l3,RV] at r3;replace r3:Rp H3 (FN H) 2 (.ref D3) (dLL d.td):=r3.imp λ a ha=>s02.free ha;have s03:=s02.trans s3;walk_at "w";refine ⟨_,_,_,_,_,rfl,s03 _ _ h0,T.kd_Draft.cl,T.na_Draft_warp,rfl,?_⟩;walk_at "w";refine Bh (SqT.of (s03 _ _ e4)) λ p4 hp4=> ?_;walk_at "w";have s4:=Ai (o:=HO.lst (d.wa.map V.str)) hp4;have r4:Rp (upd H3 p4 (HO.lst (d.wa.map V.str))) (FN H) 2 (.ref p4) (dS d.wa):=GY Af (s03.free hp4) b4;generalize upd H3 p4 (HO.lst (d.wa.map V.str))=H4 at s4 r4 ⊢;have s04:=s03.trans s4;refine ⟨_,_,_,_,_,rfl,s04 _ _ h0,T.kd_Draft.cl,T.na_Draft_weft,rfl,?_⟩;walk_at "w";refine Bh (SqT.of (s04 _ _ e5)) λ p5 hp5=> ?_;walk_at "w";have s5:=Ai (o:=HO.lst (d.we.map V.str)) hp5;have r5:Rp (upd H4 p5 (HO.lst (d.we.map V.str))) (FN H) 2 (.ref p5) (dS d.we):=GY Af (s04.free hp5) b5;generalize upd H4 p5 (HO.lst (d.we.map V.str))=H5 at s5 r5 ⊢;have s05:=s04.trans s5;intro p hp;have s6:=Ai (o:=HO.tup [nV d.sh,nV d.tr, .ref p1, .ref D2, .ref D3, .ref p4, .ref p5]) hp;refine k _ p (s05.trans s6) (s05.free hp) (DR Af (.int _) (.int _) ?_ ?_ ?_ ?_ ?_)
    · exact (r1.same (s2.trans (s3.trans (s4.trans s5)))).same s6
    · exact (r2.same (s3.trans (s4.trans s5))).same s6
    · exact (r3.same (s4.trans s5)).same s6
    · exact (r4.same s5).same s6
    · exact r5.same s6
def E7 (c:Cs):Sp:=λ vs H Q _=>∃ x d,vs=[.ref x]/\DrAt c.Draft H x d/\Q (nV d.th.length) H
noncomputable abbrev Du:Stmt:=AD (top 28) 2
theorem IZ:FnScope ["self"] ["self"] (Ah Du):=⟨rfl,rfl,rfl,by decide +kernel,rfl,by decide +kernel,by decide +kernel⟩
theorem II {f:Addr} {fd:FuncData} (F:Fun K "ends" "Draft.ends" Du f fd) (T:Txt K mg c):FnOk P w K mg base CX0 1 f fd ["self"] (E7 c):=by
  refine F.ok IZ (λ vs H Q E h=> ?_) (λ cdv A outer s H vs Q E hr h=> ?_)
  · obtain ⟨x,d,rfl,_⟩:=h;rfl
  · obtain ⟨x,d,rfl,⟨dx,v1,v2,v3,v4,v5,h0,h1,h2,h3,h4,h5⟩,k⟩:=h;obtain ⟨a1,rfl,e1,b1⟩:=CH h1;refine ⟨_,(Ag (Aj (Ak (BW (K:=K)) rfl (T.own _ (by decide)) boot_len (Aa (AN (K:=K) (pv 0) rfl) Ab)))),?_⟩;walk_at "w";refine ⟨_,_,_,_,_,rfl,h0,T.kd_Draft.cl,T.na_Draft_threading,rfl,?_⟩;walk_at "w";refine G7 (SqT.of e1) ?_;rw [List.length_map];exact k
def HM (K:PySem.W.Frag):Sp:=λ vs H Q _=>∃ (a b:Addr) (tp:Bool) (ts ks:List Nat),vs=[.ref a, .ref b]/\SqL K H a (ts.map nV)/\SqS tp K H b (ks.map nV)/\ks.length<=1000/\(∀ k∈ks,1<=k/\k<=ts.length)/\∀ H',Same H H'->Q (nV (MM.uOf (ks.map λ k=>ts.getD (k - 1) 0))) H'
theorem GE {n:Nat} (G:Nat->Nat):((List.range n).map λ i=>((G i:Nat):Int)).map V.int=((List.range n).map G).map nV:=by rw [List.map_map,List.map_map];rfl
noncomputable abbrev Gy:Stmt:=top 56
theorem LO:FnScope ["ties","treadles"] ["ties","treadles"] (Ah Gy):=⟨rfl,rfl,rfl,by decide +kernel,rfl,by decide +kernel,by decide +kernel⟩
theorem Mm {f:Addr} {fd:FuncData} (F:Fun K "lift_by" "lift_by" Gy f fd) (T:Txt K mg c) (c_union_of:CallF P w K mg base "union_of" 1 ["masks"] (Eo K)):FnOk P w K mg base CX0 2 f fd ["ties","treadles"] (HM K):=by
  refine F.ok LO (λ vs H Q E h=> ?_) (λ cdv A outer s H vs Q E hr h=> ?_)
  · obtain ⟨a,b,tp,ts,ks,rfl,_⟩:=h;rfl
  · obtain ⟨a,b,tp,ts,ks,rfl,sa,sb,hl,hk,k⟩:=h;refine ⟨_,(Ag (Aj (Ad c_union_of hr (Aa (At (OF (K:=K) (pv 1)) (λ _ _ _ _=>Ao) (λ _ _ _ _=>(AT (Dn (K:=K)) (pv 1) (Am Cm (pv 0) Ae) (λ _ _=>rfl)))) Ab)))),?_⟩;walk_at "w";refine ⟨tp,b,rfl,⟨_,sb⟩,λ D hD=> ?_⟩;refine AQ (G:=λ i=>((ts.getD (ks.getD i 0 - 1) 0:Nat):Int)) (Sy sb rfl) hD (by rw [List.length_map];omega) ?_ ?_
    · intro i H' R hi s kk;have hi':i<ks.length:=by simpa using hi
      have hm:=hk _ (An (y:=0) hi');rw [AS hi];walk_at "w";refine B5 (SqS.same (tp:=false) sa s) (Df (by omega) (by omega)) ?_;rw [show (((ks.getD i 0:Nat):Int) - 1).toNat=ks.getD i 0 - 1 by omega];exact kk H' (Same.refl _)
    · intro H' s hl2;rw [GE,List.length_map] at hl2;walk_at "w";refine ⟨false,D,_,rfl,SqL.of hl2,λ H2 s2=> ?_⟩;rw [Dk (λ k=>ts.getD (k - 1) 0) ks 0];exact k H2 (s.trans s2)
noncomputable def Eb (ti:List (List Nat)) (ks:List Nat):Nat:=MM.uOf (ks.map λ k=>(ti.map MM.mOf).getD (k - 1) 0)
theorem Rise.le {m:Nat} {ns:List Nat} (h:Rise m ns):∀ n∈ns,1<=n/\n<=m:=λ n hn=>by
  obtain ⟨i,hi,rfl⟩:=List.getElem_of_mem hn;have:=h i hi;rw [show ns.getD i 0=ns[i] by simp [List.getD_eq_getElem?_getD,hi]] at this;omega
theorem Rise.len {m:Nat}:∀ {ns:List Nat},Rise m ns->ns.length<=m:=by
  intro ns h;have:∀ i,i<ns.length->i+1<=ns.getD i 0:=by
    intro i
    induction i with
    | zero=>intro hi;have:=h 0 hi;omega
    | succ i ih=>
      intro hi;have h1:=ih (by omega);have h2:=h (i+1) hi;have e:(0::ns).getD (i+1) 0=ns.getD i 0:=rfl;omega
  rcases Nat.eq_zero_or_pos ns.length with z | z
  · omega
  · have h1:=this (ns.length - 1) (by omega);have h2:=h (ns.length - 1) (by omega);omega
def GP (c:Cs):Sp:=λ vs H Q _=>∃ x d,vs=[.ref x]/\DrAt c.Draft H x d/\DrOk d/\∀ H' p,Same H H'->H p=none->H' p=some (.lst ((d.td.map (Eb d.ti)).map nV))->Q (.ref p) H'
noncomputable abbrev Fv:Stmt:=top 57
theorem sc_lifts_of:FnScope ["draft","ties"] ["draft"] (Ah Fv):=⟨rfl,rfl,rfl,by decide +kernel,rfl,by decide +kernel,by decide +kernel⟩
theorem KO {f:Addr} {fd:FuncData} (F:Fun K "lifts_of" "lifts_of" Fv f fd) (T:Txt K mg c) (c_mask_of:CallF P w K mg base "mask_of" 2 ["numbers"] (CK K)) (c_lift_by:CallF P w K mg base "lift_by" 2 ["ties","treadles"] (HM K)):FnOk P w K mg base CX0 3 f fd ["draft"] (GP c):=by
  refine F.ok sc_lifts_of (λ vs H Q E h=> ?_) (λ cdv A outer s H vs Q E hr h=> ?_)
  · obtain ⟨x,d,rfl,_⟩:=h;rfl
  · obtain ⟨x,d,rfl,⟨dx,v1,v2,v3,v4,v5,h0,h1,h2,h3,h4,h5⟩,ok,k⟩:=h;obtain ⟨m2,a2,vs2,em2,rfl,e2,l2,b2,el2⟩:=DB h2;cases em2;obtain ⟨m3,a3,vs3,em3,rfl,e3,l3,b3,el3⟩:=DB h3;cases em3;rw [List.length_map] at l2 l3;refine ⟨_,(Ac (Ay (i:=1) sc_lifts_of.nd rfl (Or.inr rfl) (At (Fd (K:=K) (AN (K:=K) (pv 0) rfl)) (λ _ _ _ _=>Ao) (λ _ _ _ _=>(Ad c_mask_of hr (Aa (pv 0) Ab)))))
      (Ag (Aj (At (Fd (K:=K) (AN (K:=K) (pv 0) rfl)) (λ _ _ _ _=>Ao) (λ _ _ _ _=>(Ad c_lift_by hr (Aa (pv 1) (Aa (pv 0) Ab)))))))),?_⟩
    walk_at "w";refine ⟨_,_,_,_,_,rfl,h0,T.kd_Draft.cl,T.na_Draft_ties,rfl,?_⟩;walk_at "w";refine ⟨a2,rfl,⟨_,SqT.of e2⟩,λ D2 hD2=> ?_⟩;refine AQ (G:=λ i=>((MM.mOf (d.ti.getD i []):Nat):Int)) (B9 (SqT.of e2) rfl) hD2 b2 ?_ ?_
    · intro i H' R hi s kk;have hi':i<d.ti.length:=by omega
      have r:=el2 i (by simpa using hi');rw [AA dT d.ti i .non [] hi'] at r;obtain ⟨b,eb,hb3,hb4⟩:=CH r;rw [eb];walk_at "w";have hm:=(ok.ir _ (An (y:=[]) hi')).le;exact ⟨true,b,_,rfl,SqT.of (s _ _ hb3),λ n hn=>⟨(hm n hn).1,by have:=hm n hn;have:=ok.s2;omega⟩,λ H3 s3=>kk H3 s3⟩
    intro H1 s1 hl1;rw [GE,l2,Dk MM.mOf d.ti []] at hl1;walk_at "w";refine ⟨_,_,_,_,_,rfl,s1 _ _ h0,T.kd_Draft.cl,T.na_Draft_treading,rfl,?_⟩;walk_at "w";refine ⟨a3,rfl,⟨_,SqT.of (s1 _ _ e3)⟩,λ D3 hD3=> ?_⟩;refine AQ (G:=λ i=>((Eb d.ti (d.td.getD i []):Nat):Int)) (B9 (SqT.of (s1 _ _ e3)) rfl) hD3 b3 ?_ ?_
    · intro i H' R hi s kk;have hi':i<d.td.length:=by omega
      have r:=el3 i (by simpa using hi');rw [AA dT d.td i .non [] hi'] at r;obtain ⟨b,eb,hb3,hb4⟩:=CH r;rw [eb];walk_at "w";have hR:=ok.pr _ (An (y:=[]) hi');have hm:=hR.le;have hln:=hR.len;exact ⟨D2,b,true,_,_,rfl,SqL.of (s _ _ hl1),SqT.of (s _ _ (s1 _ _ hb3)),by have:=ok.t2;omega,λ n hn=>⟨(hm n hn).1,by have:=hm n hn;have:=ok.il;rw [List.length_map];omega⟩,λ H3 s3=>kk H3 s3⟩
    intro H2 s2 hl2;rw [GE,l3,Dk (Eb d.ti) d.td []] at hl2;walk_at "w";exact k H2 D3 (s1.trans s2) (s1.free hD3) hl2
noncomputable def ET (th:List Nat) (s:Nat):Nat:=MM.ofB (λ e=>decide (th.getD e 0=s)) th.length
theorem SU (f:Nat->Bool) (w:Nat):MM.mOf (((List.range w).filter f).map (· + 1))=MM.ofB f w:=by
  refine Nat.eq_of_testBit_eq λ i=> ?_;rw [MM.mOf_bit,MM.ofB_bit,Bool.eq_iff_iff,List.any_eq_true];constructor
  · rintro ⟨n,hn,e⟩;obtain ⟨k,hk,rfl⟩:=List.mem_map.mp hn;obtain ⟨h1,h2⟩:=List.mem_filter.mp hk;have e:k+1 - 1=i:=of_decide_eq_true e;have e:k=i:=by omega
    subst e;simp [List.mem_range.mp h1,h2]
  · intro h;simp only [Bool.and_eq_true,decide_eq_true_eq] at h;exact ⟨i+1,List.mem_map.mpr ⟨i,List.mem_filter.mpr ⟨List.mem_range.mpr h.1,h.2⟩,rfl⟩,by simp⟩
def DZ (K:PySem.W.Frag):Sp:=λ vs H Q _=>∃ (a:Addr) (tp:Bool) (th:List Nat) (s:Nat),vs=[.ref a,nV s]/\SqS tp K H a (th.map nV)/\th.length<=900/\∀ H',Same H H'->Q (nV (ET th s)) H'
noncomputable abbrev CJ:Stmt:=top 58
theorem G1:FnScope ["threading","shaft"] ["threading","shaft"] (Ah CJ):=⟨rfl,rfl,rfl,by decide +kernel,rfl,by decide +kernel,by decide +kernel⟩
theorem GZ {f:Addr} {fd:FuncData} (F:Fun K "ends_through" "ends_through" CJ f fd) (T:Txt K mg c) (c_mask_of:CallF P w K mg base "mask_of" 2 ["numbers"] (CK K)):FnOk P w K mg base CX0 3 f fd ["threading","shaft"] (DZ K):=by
  refine F.ok G1 (λ vs H Q E h=> ?_) (λ cdv A outer s H vs Q E hr h=> ?_)
  · obtain ⟨a,tp,th,s,rfl,_⟩:=h;rfl
  · obtain ⟨a,tp,th,s,rfl,sa,hl,k⟩:=h;refine ⟨_,(Ag (Aj (Ad c_mask_of hr (Aa (Dc (K:=K) (EC (K:=K) rfl (T.own _ (by decide)) (Aa (pv 0) Ab)) (λ _ _ _ _=>(BH (Av Cp (pv 1) (pv 2) (AG _)))) (λ _ _ _ _=>(pv 0))) Ab)))),?_⟩;walk_at "w";refine ⟨tp,a,rfl,⟨_,sa⟩,λ D hD=> ?_⟩;refine A9 (p:=λ i=>decide (th.getD i 0=s)) (G:=λ i=>((i+1:Nat):Int)) (GG sa rfl rfl) hD (by rw [List.length_map];omega) ?_ ?_ ?_
    · intro i H' R hi s2 kk;rw [AS hi];walk_at "w";rw [show decide (((th.getD i 0:Nat):Int)=(s:Nat))=decide (th.getD i 0=s) by rw [Bool.eq_iff_iff];simp only [decide_eq_true_eq];omega];exact kk H' (Same.refl _)
    · intro i H' R hi hp s2 kk;walk_at "w";exact kk H' (Same.refl _)
    · intro H' s2 hl2;walk_at "w";have e:(((List.range (th.map nV).length).filter λ i=>decide (th.getD i 0=s)).map λ i=>((i+1:Nat):Int)).map V.int=(((List.range th.length).filter λ i=>decide (th.getD i 0=s)).map (· + 1)).map nV:=by
        rw [List.length_map,List.map_map,List.map_map];rfl
      rw [e] at hl2;refine ⟨false,D,_,rfl,SqL.of hl2,λ n hn=> ?_,λ H3 s3=> ?_⟩
      · obtain ⟨j,hj,rfl⟩:=List.mem_map.mp hn;have:=List.mem_range.mp (List.mem_filter.mp hj).1;omega
      · rw [SU];exact k H3 (s2.trans s3)
def EY (K:PySem.W.Frag):Sp:=λ vs H Q _=>∃ (a:Addr) (tp:Bool) (th:List Nat) (s:Nat),vs=[.ref a,nV s]/\SqS tp K H a (th.map nV)/\th.length<=900/\s<=900/\∀ H' p,Same H H'->H p=none->H' p=some (.lst (((List.range s).map λ i=>ET th (i+1)).map nV))->Q (.ref p) H'
noncomputable abbrev DJ:Stmt:=top 59
theorem IF:FnScope ["threading","shafts"] ["threading","shafts"] (Ah DJ):=⟨rfl,rfl,rfl,by decide +kernel,rfl,by decide +kernel,by decide +kernel⟩
theorem IV {f:Addr} {fd:FuncData} (F:Fun K "shaft_ends" "shaft_ends" DJ f fd) (T:Txt K mg c) (c_ends_through:CallF P w K mg base "ends_through" 3 ["threading","shaft"] (DZ K)):FnOk P w K mg base CX0 4 f fd ["threading","shafts"] (EY K):=by
  refine F.ok IF (λ vs H Q E h=> ?_) (λ cdv A outer s H vs Q E hr h=> ?_)
  · obtain ⟨a,tp,th,s,rfl,_⟩:=h;rfl
  · obtain ⟨a,tp,th,s,rfl,sa,hl,hs,k⟩:=h;refine ⟨_,(Ag (Aj (At (BG rfl (T.own _ (by decide)) (Aa Ae (Aa (Am AR (pv 1) Ae) Ab))) (λ _ _ _ _=>Ao) (λ _ _ _ _=>(Ad c_ends_through hr (Aa (pv 1) (Aa (pv 0) Ab))))))),?_⟩;walk_at "w";refine ⟨_,_,rfl,⟨by decide,by decide,by omega,by omega⟩,λ D hD=> ?_⟩;rw [show ((s:Int)+1 - 1).toNat=s by omega];refine AQ (G:=λ i=>((ET th (i+1):Nat):Int)) (BE rfl) hD (by omega) ?_ ?_
    · intro i H' R hi s2 kk;walk_at "w";refine ⟨a,tp,th,i+1,by rw [show (1:Int)+(i:Nat)=((i+1:Nat):Int) by omega],sa.same s2,hl,kk⟩
    · intro H' s2 hl2;rw [GE] at hl2;exact k H' D s2 hD hl2
noncomputable def Kl (cs:List Nat) (l:Nat):Nat:=MM.uOf ((MM.nOf l).map λ s=>cs.getD (s - 1) 0)
def JI (K:PySem.W.Frag):Sp:=λ vs H Q _=>∃ (a:Addr) (cs:List Nat) (l:Nat),vs=[.ref a,nV l]/\SqL K H a (cs.map nV)/\l<2 ^ cs.length/\cs.length<=900/\∀ H',Same H H'->Q (nV (Kl cs l)) H'
noncomputable abbrev Ho:Stmt:=top 60
theorem N9:FnScope ["carried","lift"] ["carried","lift"] (Ah Ho):=⟨rfl,rfl,rfl,by decide +kernel,rfl,by decide +kernel,by decide +kernel⟩
theorem Nt {f:Addr} {fd:FuncData} (F:Fun K "row_by" "row_by" Ho f fd) (T:Txt K mg c) (c_numbers_of:CallF P w K mg base "numbers_of" 3 ["mask"] CV) (c_union_of:CallF P w K mg base "union_of" 1 ["masks"] (Eo K)):FnOk P w K mg base CX0 4 f fd ["carried","lift"] (JI K):=by
  refine F.ok N9 (λ vs H Q E h=> ?_) (λ cdv A outer s H vs Q E hr h=> ?_)
  · obtain ⟨a,cs,l,rfl,_⟩:=h;rfl
  · obtain ⟨a,cs,l,rfl,sa,hl,hc,k⟩:=h;refine ⟨_,(Ag (Aj (Ad c_union_of (hr.mono (by decide)) (Aa (At (Bp (K:=K) (Ad c_numbers_of hr (Aa (pv 1) Ab))) (λ _ _ _ _=>Ao) (λ _ _ _ _=>(AT (Dn (K:=K)) (pv 1) (Am Cm (pv 0) Ae) (λ _ _=>rfl)))) Ab)))),?_⟩;walk_at "w";refine ⟨l,rfl,Nat.lt_of_lt_of_le hl (Nat.pow_le_pow_right (Nat.zero_lt_two) hc),λ H1 p s1 hp h1=> ?_⟩;walk_at "w";refine ⟨p,rfl,⟨_,SqL.of h1⟩,λ D hD=> ?_⟩;have hn:=MM.nOf_len hl;refine AQ (G:=λ i=>((cs.getD ((MM.nOf l).getD i 0 - 1) 0:Nat):Int)) (AJ (SqL.of h1) rfl) hD (by rw [List.length_map];omega) ?_ ?_
    · intro i H' R hi s kk;have hi':i<(MM.nOf l).length:=by simpa using hi
      obtain ⟨m1,m2⟩:=(MM.nOf_mem l _).mp (An (y:=0) hi');have m3:(MM.nOf l).getD i 0 - 1<cs.length:=by
        rcases Nat.lt_or_ge ((MM.nOf l).getD i 0 - 1) cs.length with z | z
        · exact z
        · rw [Nat.testBit_lt_two_pow (Nat.lt_of_lt_of_le hl (Nat.pow_le_pow_right (by decide) z))] at m2;cases m2
      rw [AS hi];walk_at "w";refine B5 (SqS.same (tp:=false) (SqS.same (tp:=false) sa s1) s) (Df (by omega) (by omega)) ?_;rw [show ((((MM.nOf l).getD i 0:Nat):Int) - 1).toNat=(MM.nOf l).getD i 0 - 1 by omega];exact kk H' (Same.refl _)
    · intro H' s hl2;rw [GE,List.length_map] at hl2;walk_at "w";refine ⟨false,D,_,rfl,SqL.of hl2,λ H2 s2=> ?_⟩;rw [Dk (λ s=>cs.getD (s - 1) 0) (MM.nOf l) 0];exact k H2 (s1.trans (s.trans s2))
noncomputable def F5 (d:Dr):List Nat:=d.td.map λ ks=>Kl ((List.range d.sh).map λ i=>ET d.th (i+1)) (Eb d.ti ks)
theorem Jt (ti:List (List Nat)) (ks:List Nat) (i:Nat):(Eb ti ks).testBit i=ks.any λ k=>((ti.map MM.mOf).getD (k - 1) 0).testBit i:=by
  unfold Eb;rw [MM.uOf_bit,List.any_map];rfl
theorem HV {d:Dr} (ok:DrOk d) (ks:List Nat):Eb d.ti ks<2 ^ d.sh:=by
  refine Nat.lt_pow_two_of_testBit _ λ i hi=> ?_;rw [Jt,List.any_eq_false];intro k _;by_cases h:k - 1<d.ti.length
  · rw [AA MM.mOf d.ti (k - 1) 0 [] h];have hr:=(ok.ir _ (An (y:=[]) h)).le;rw [Nat.testBit_lt_two_pow (Nat.lt_of_lt_of_le (MM.mOf_lt (w:=d.sh) λ n hn=>by have:=hr n hn;omega) (Nat.pow_le_pow_right (by decide) hi))];simp
  · rw [List.getD_eq_getElem?_getD,List.getElem?_eq_none (by simp;omega)];simp
theorem Q7 {th:List Nat} {s l:Nat} (hl:l<2 ^ s):Kl ((List.range s).map λ i=>ET th (i+1)) l<2 ^ th.length:=by
  refine Nat.lt_pow_two_of_testBit _ λ i hi=> ?_;unfold Kl;rw [MM.uOf_bit,List.any_eq_false];intro n hn;obtain ⟨k,hk,rfl⟩:=List.mem_map.mp hn;by_cases h:k - 1<s
  · rw [AA (λ i=>ET th (i+1)) (List.range s) (k - 1) 0 0 (by simpa using h)];unfold ET;rw [Nat.testBit_lt_two_pow (Nat.lt_of_lt_of_le (MM.ofB_lt _ _) (Nat.pow_le_pow_right (by decide) hi))];simp
  · rw [List.getD_eq_getElem?_getD,List.getElem?_eq_none (by simp;omega)];simp
theorem Kv {d:Dr} (ok:DrOk d):ClOk d.th.length (F5 d) where
  n1:=ok.h1
  n2:=ok.h2
  p1:=by unfold F5;rw [List.length_map];exact ok.p1
  p2:=by unfold F5;rw [List.length_map];exact ok.p2
  lt:=λ r hr=>by
    unfold F5 at hr;obtain ⟨ks,hk,rfl⟩:=List.mem_map.mp hr;exact Q7 (HV ok ks)
def Ll (c:Cs):Sp:=λ vs H Q _=>∃ x d,vs=[.ref x]/\DrAt c.Draft H x d/\DrOk d/\∀ H' y,Same H H'->H y=none->ClAt c.Cloth H' y d.th.length (F5 d)->Q (.ref y) H'
noncomputable abbrev JR:Stmt:=top 61
theorem sc_woven:FnScope ["draft","carried"] ["draft"] (Ah JR):=⟨rfl,rfl,rfl,by decide +kernel,rfl,by decide +kernel,by decide +kernel⟩
theorem Oj {f:Addr} {fd:FuncData} (F:Fun K "woven" "woven" JR f fd) (T:Txt K mg c) (c_shaft_ends:CallF P w K mg base "shaft_ends" 4 ["threading","shafts"] (EY K)) (d_Draft_ends:Bu P w K mg base c.Draft "ends" 1 ["self"] (E7 c)) (c_row_by:CallF P w K mg base "row_by" 4 ["carried","lift"] (JI K)) (c_lifts_of:CallF P w K mg base "lifts_of" 3 ["draft"] (GP c)) (m_Cloth:Hu P w K mg base "Cloth" c.Cloth 4 ["self","ends","rows"] (AL K c)):FnOk P w K mg base CX0 6 f fd ["draft"] (Ll c):=by
  refine F.ok sc_woven (λ vs H Q E h=> ?_) (λ cdv A outer s H vs Q E hr h=> ?_)
  · obtain ⟨x,d,rfl,_⟩:=h;rfl
  · obtain ⟨x,d,rfl,D0,ok,k⟩:=h;have D1:=D0;obtain ⟨dx,v1,v2,v3,v4,v5,h0,h1,h2,h3,h4,h5⟩:=D0;obtain ⟨a1,rfl,e1,b1⟩:=CH h1;refine ⟨_,(Ac (Ay (i:=1) sc_woven.nd rfl (Or.inr rfl) (Ad c_shaft_ends (hr.mono (by decide)) (Aa (AN (K:=K) (pv 0) rfl) (Aa (AN (K:=K) (pv 0) rfl) Ab))))
      (Ag (Aj (EH m_Cloth hr GN (Aa (AW (pv 0) d_Draft_ends (hr.mono (by decide))) (Aa (At (Bp (K:=K) (Ad c_lifts_of (hr.mono (by decide)) (Aa (pv 0) Ab))) (λ _ _ _ _=>Ao) (λ _ _ _ _=>(Ad c_row_by (hr.mono (by decide)) (Aa (pv 1) (Aa (pv 0) Ab))))) Ab)))))),?_⟩
    walk_at "w";refine ⟨_,_,_,_,_,rfl,h0,T.kd_Draft.cl,T.na_Draft_threading,rfl,?_⟩;walk_at "w";refine ⟨_,_,_,_,_,rfl,h0,T.kd_Draft.cl,T.na_Draft_shafts,rfl,?_⟩;walk_at "w";refine ⟨a1,true,d.th,d.sh,rfl,SqT.of e1,by have:=ok.h2;omega,by have:=ok.s2;omega,λ H1 p1 s1 hp1 q1=> ?_⟩;walk_at "w";refine ⟨_,_,_,rfl,s1 _ _ h0,rfl,?_⟩;walk_at "w";refine ⟨x,d,rfl,D1.same s1,?_⟩;walk_at "w";refine ⟨x,d,rfl,D1.same s1,ok,λ H2 p2 s2 hp2 q2=> ?_⟩;walk_at "w";refine ⟨p2,rfl,⟨_,SqL.of q2⟩,λ D hD=> ?_⟩;have hp2l:d.td.length<=60:=ok.p2;refine AQ (G:=λ i=>((Kl ((List.range d.sh).map λ i=>ET d.th (i+1)) (Eb d.ti (d.td.getD i [])):Nat):Int)) (AJ (SqL.of q2) rfl) hD (by simp;omega) ?_ ?_
    · intro i H' R hi s kk;have hi':i<d.td.length:=by simpa using hi
      rw [AS hi,AA (Eb d.ti) d.td i 0 [] hi'];walk_at "w";exact ⟨p1,_,_,rfl,SqL.of (s _ _ (s2 _ _ q1)),by rw [List.length_map,List.length_range];exact HV ok _,by rw [List.length_map,List.length_range];have:=ok.s2;omega,kk⟩
    · intro H3 s3 hl3;rw [GE,List.length_map,List.length_map,Dk (λ ks=>Kl ((List.range d.sh).map λ i=>ET d.th (i+1)) (Eb d.ti ks)) d.td []] at hl3;walk_at "w";refine F9 hl3 (Kv ok) λ H4 y s4 hy c4=> ?_;exact k H4 y (s1.trans (s2.trans (s3.trans s4))) (s1.free (s2.free (s3.free hy))) c4
structure KindF (K:PySem.W.Frag) (c:Cs) (C:Addr) (j:Nat):Prop where
  lt:j<8
  xk:HT.ExcKind K C
  k0:PySem.W.kitOne K (.ref C) (.ref c.BadRow)=some (decide (j=0))
  k1:PySem.W.kitOne K (.ref C) (.ref c.BadWord)=some (decide (j=1))
  k2:PySem.W.kitOne K (.ref C) (.ref c.TooMany)=some (decide (j=2))
  k3:PySem.W.kitOne K (.ref C) (.ref c.NotPlain)=some (decide (j=3))
  k4:PySem.W.kitOne K (.ref C) (.ref c.NotGrown)=some (decide (j=4))
  k5:PySem.W.kitOne K (.ref C) (.ref c.BadDraft)=some (decide (j=5))
  k6:PySem.W.kitOne K (.ref C) (.ref c.BadCloth)=some (decide (j=6))
  k7:PySem.W.kitOne K (.ref C) (.ref c.OutOfPlace)=some (decide (j=7))
  kv:PySem.W.kitOne K (.ref C) (.type "ValueError")=some true
noncomputable def nmK (j:Nat):Str:=[("row":Str),("word":Str),("many":Str),("plain":Str),("grown":Str),("draft":Str),("cloth":Str),("place":Str),("other":Str)].getD j ""
def EZ (K:PySem.W.Frag) (c:Cs):Sp:=λ vs H Q _=>∃ a C od j,vs=[.ref a]/\H a=some (Fp a C od)/\KindF K c C j/\∀ H' l,Same H H'->H l=none->H' l=some (.lst [.str (nmK j)])->Q (.ref l) H'
theorem Sr (j:Nat) (h:j<8):((List.range 9).filter λ i=>decide (i=j)).map (λ i=>Dt.str (nmK i))=[nmK j].map Dt.str:=by
  match j,h with
  | 0,_=>rfl
  | 1,_=>rfl
  | 2,_=>rfl
  | 3,_=>rfl
  | 4,_=>rfl
  | 5,_=>rfl
  | 6,_=>rfl
  | 7,_=>rfl
noncomputable abbrev Dw:Stmt:=top 64
theorem sc__law_kinds:FnScope ["_law_error","_law_kinds_here"] ["_law_error"] (Ah Dw):=⟨rfl,rfl,rfl,by decide +kernel,rfl,by decide +kernel,by decide +kernel⟩
theorem Je {f:Addr} {fd:FuncData} (F:Fun K "_law_kinds" "_law_kinds" Dw f fd) (T:Txt K mg c):FnOk P w K mg base CX0 1 f fd ["_law_error"] (EZ K c):=by
  refine F.ok sc__law_kinds (λ vs H Q E h=> ?_) (λ cdv A outer s H vs Q E hr h=> ?_)
  · obtain ⟨a,C,od,j,rfl,_⟩:=h;rfl
  · obtain ⟨a,C,od,j,rfl,ha,F1,k⟩:=h;refine ⟨_,(Ac (Ay (i:=1) sc__law_kinds.nd rfl (Or.inl rfl) (AO (Aa (Bd (Aa As (Aa (Ak (Cv (K:=K)) rfl (T.own _ (by decide)) boot_isinstance (Aa (pv 0) (Aa (Bv T.g_BadRow) Ab))) Ab))) (Aa (Bd (Aa As (Aa (Ak (Cv (K:=K)) rfl (T.own _ (by decide)) boot_isinstance (Aa (pv 0) (Aa (Bv T.g_BadWord) Ab))) Ab))) Ab))))
      (Ac (Ay (i:=1) sc__law_kinds.nd rfl (Or.inl rfl) (Am (K4 (K:=K)) (pv 1) (AO (Aa (Bd (Aa As (Aa (Ak (Cv (K:=K)) rfl (T.own _ (by decide)) boot_isinstance (Aa (pv 0) (Aa (Bv T.g_TooMany) Ab))) Ab))) (Aa (Bd (Aa As (Aa (Ak (Cv (K:=K)) rfl (T.own _ (by decide)) boot_isinstance (Aa (pv 0) (Aa (Bv T.g_NotPlain) Ab))) Ab))) Ab)))))
      (Ac (Ay (i:=1) sc__law_kinds.nd rfl (Or.inl rfl) (Am (K4 (K:=K)) (pv 1) (AO (Aa (Bd (Aa As (Aa (Ak (Cv (K:=K)) rfl (T.own _ (by decide)) boot_isinstance (Aa (pv 0) (Aa (Bv T.g_NotGrown) Ab))) Ab))) (Aa (Bd (Aa As (Aa (Ak (Cv (K:=K)) rfl (T.own _ (by decide)) boot_isinstance (Aa (pv 0) (Aa (Bv T.g_BadDraft) Ab))) Ab))) Ab)))))
      (Ac (Ay (i:=1) sc__law_kinds.nd rfl (Or.inl rfl) (Am (K4 (K:=K)) (pv 1) (AO (Aa (Bd (Aa As (Aa (Ak (Cv (K:=K)) rfl (T.own _ (by decide)) boot_isinstance (Aa (pv 0) (Aa (Bv T.g_BadCloth) Ab))) Ab))) (Aa (Bd (Aa As (Aa (Ak (Cv (K:=K)) rfl (T.own _ (by decide)) boot_isinstance (Aa (pv 0) (Aa (Bv T.g_OutOfPlace) Ab))) Ab))) Ab)))))
      (Ac (Ay (i:=1) sc__law_kinds.nd rfl (Or.inl rfl) (Am (K4 (K:=K)) (pv 1) (AO (Aa (Bd (Aa As (Aa (JS (Ak (Cv (K:=K)) rfl (T.own _ (by decide)) boot_isinstance (Aa (pv 0) (Aa (Ch rfl (T.own _ (by decide)) G2) Ab)))) Ab))) Ab))))
      (Ag (Aj (Dc (K:=K) (Bp (K:=K) (pv 1)) (λ _ _ _ _=>(BH (Ba (pv 1)))) (λ _ _ _ _=>(pv 0)))))))))),?_⟩
    walk_at "w";refine Ce ((Same.refl H) _ _ ha) F1.xk F1.k0 ?_;walk_at "w";intro t_row ht_row;have z1:=Ai (o:=HO.tup [V.str "row",V.bl (decide (j=0))]) ht_row;have g_t_row:upd H t_row (HO.tup [V.str "row",V.bl (decide (j=0))]) t_row=_:=Af;generalize upd H t_row (HO.tup [V.str "row",V.bl (decide (j=0))])=H1 at z1 g_t_row ⊢;have y1:Same H H1:=(Same.refl H).trans z1;walk_at "w";refine Ce (y1 _ _ ha) F1.xk F1.k1 ?_;walk_at "w";intro t_word ht_word;have z2:=Ai (o:=HO.tup [V.str "word",V.bl (decide (j=1))]) ht_word;have g_t_word:upd H1 t_word (HO.tup [V.str "word",V.bl (decide (j=1))]) t_word=_:=Af;generalize upd H1 t_word (HO.tup [V.str "word",V.bl (decide (j=1))])=H2 at z2 g_t_word ⊢;have y2:Same H H2:=y1.trans z2;walk_at "w";intro l0 hl0;have z3:=Ai (o:=HO.lst [V.ref t_row,V.ref t_word]) hl0;have g_l0:upd H2 l0 (HO.lst [V.ref t_row,V.ref t_word]) l0=_:=Af;generalize upd H2 l0 (HO.lst [V.ref t_row,V.ref t_word])=H3 at z3 g_l0 ⊢;have y3:Same H H3:=y2.trans z3;walk_at "w";refine Ce (y3 _ _ ha) F1.xk F1.k2 ?_;walk_at "w";intro t_many ht_many;have z4:=Ai (o:=HO.tup [V.str "many",V.bl (decide (j=2))]) ht_many;have g_t_many:upd H3 t_many (HO.tup [V.str "many",V.bl (decide (j=2))]) t_many=_:=Af;generalize upd H3 t_many (HO.tup [V.str "many",V.bl (decide (j=2))])=H4 at z4 g_t_many ⊢;have y4:Same H H4:=y3.trans z4;walk_at "w";refine Ce (y4 _ _ ha) F1.xk F1.k3 ?_;walk_at "w";intro t_plain ht_plain;have z5:=Ai (o:=HO.tup [V.str "plain",V.bl (decide (j=3))]) ht_plain;have g_t_plain:upd H4 t_plain (HO.tup [V.str "plain",V.bl (decide (j=3))]) t_plain=_:=Af;generalize upd H4 t_plain (HO.tup [V.str "plain",V.bl (decide (j=3))])=H5 at z5 g_t_plain ⊢;have y5:Same H H5:=y4.trans z5;walk_at "w";intro l1 hl1;have z6:=Ai (o:=HO.lst [V.ref t_many,V.ref t_plain]) hl1;have g_l1:upd H5 l1 (HO.lst [V.ref t_many,V.ref t_plain]) l1=_:=Af;generalize upd H5 l1 (HO.lst [V.ref t_many,V.ref t_plain])=H6 at z6 g_l1 ⊢;have y6:Same H H6:=y5.trans z6;walk_at "w";refine Hf (SqL.of (z6 _ _ (z5 _ _ (z4 _ _ g_l0)))) (SqL.of g_l1) (by simp) λ m1 hm1=> ?_;have z7:=Ai (o:=HO.lst ([V.ref t_row,V.ref t_word]++[V.ref t_many,V.ref t_plain])) hm1;have g_m1:upd H6 m1 (HO.lst ([V.ref t_row,V.ref t_word]++[V.ref t_many,V.ref t_plain])) m1=some (.lst [V.ref t_row,V.ref t_word,V.ref t_many,V.ref t_plain]):=Af;generalize upd H6 m1 (HO.lst ([V.ref t_row,V.ref t_word]++[V.ref t_many,V.ref t_plain]))=H7 at z7 g_m1 ⊢;have y7:Same H H7:=y6.trans z7;walk_at "w";refine Ce (y7 _ _ ha) F1.xk F1.k4 ?_;walk_at "w";intro t_grown ht_grown;have z8:=Ai (o:=HO.tup [V.str "grown",V.bl (decide (j=4))]) ht_grown;have g_t_grown:upd H7 t_grown (HO.tup [V.str "grown",V.bl (decide (j=4))]) t_grown=_:=Af;generalize upd H7 t_grown (HO.tup [V.str "grown",V.bl (decide (j=4))])=H8 at z8 g_t_grown ⊢;have y8:Same H H8:=y7.trans z8;walk_at "w";refine Ce (y8 _ _ ha) F1.xk F1.k5 ?_;walk_at "w";intro t_draft ht_draft;have z9:=Ai (o:=HO.tup [V.str "draft",V.bl (decide (j=5))]) ht_draft;have g_t_draft:upd H8 t_draft (HO.tup [V.str "draft",V.bl (decide (j=5))]) t_draft=_:=Af;generalize upd H8 t_draft (HO.tup [V.str "draft",V.bl (decide (j=5))])=H9 at z9 g_t_draft ⊢;have y9:Same H H9:=y8.trans z9;walk_at "w";intro l2 hl2;have z10:=Ai (o:=HO.lst [V.ref t_grown,V.ref t_draft]) hl2;have g_l2:upd H9 l2 (HO.lst [V.ref t_grown,V.ref t_draft]) l2=_:=Af;generalize upd H9 l2 (HO.lst [V.ref t_grown,V.ref t_draft])=H10 at z10 g_l2 ⊢;have y10:Same H H10:=y9.trans z10;walk_at "w";refine Hf (SqL.of (z10 _ _ (z9 _ _ (z8 _ _ g_m1)))) (SqL.of g_l2) (by simp) λ m2 hm2=> ?_;have z11:=Ai (o:=HO.lst ([V.ref t_row,V.ref t_word,V.ref t_many,V.ref t_plain]++[V.ref t_grown,V.ref t_draft])) hm2;have g_m2:upd H10 m2 (HO.lst ([V.ref t_row,V.ref t_word,V.ref t_many,V.ref t_plain]++[V.ref t_grown,V.ref t_draft])) m2=some (.lst [V.ref t_row,V.ref t_word,V.ref t_many,V.ref t_plain,V.ref t_grown,V.ref t_draft]):=Af;generalize upd H10 m2 (HO.lst ([V.ref t_row,V.ref t_word,V.ref t_many,V.ref t_plain]++[V.ref t_grown,V.ref t_draft]))=H11 at z11 g_m2 ⊢;have y11:Same H H11:=y10.trans z11;walk_at "w";refine Ce (y11 _ _ ha) F1.xk F1.k6 ?_;walk_at "w";intro t_cloth ht_cloth;have z12:=Ai (o:=HO.tup [V.str "cloth",V.bl (decide (j=6))]) ht_cloth;have g_t_cloth:upd H11 t_cloth (HO.tup [V.str "cloth",V.bl (decide (j=6))]) t_cloth=_:=Af;generalize upd H11 t_cloth (HO.tup [V.str "cloth",V.bl (decide (j=6))])=H12 at z12 g_t_cloth ⊢;have y12:Same H H12:=y11.trans z12;walk_at "w";refine Ce (y12 _ _ ha) F1.xk F1.k7 ?_;walk_at "w";intro t_place ht_place;have z13:=Ai (o:=HO.tup [V.str "place",V.bl (decide (j=7))]) ht_place;have g_t_place:upd H12 t_place (HO.tup [V.str "place",V.bl (decide (j=7))]) t_place=_:=Af;generalize upd H12 t_place (HO.tup [V.str "place",V.bl (decide (j=7))])=H13 at z13 g_t_place ⊢;have y13:Same H H13:=y12.trans z13;walk_at "w";intro l3 hl3;have z14:=Ai (o:=HO.lst [V.ref t_cloth,V.ref t_place]) hl3;have g_l3:upd H13 l3 (HO.lst [V.ref t_cloth,V.ref t_place]) l3=_:=Af;generalize upd H13 l3 (HO.lst [V.ref t_cloth,V.ref t_place])=H14 at z14 g_l3 ⊢;have y14:Same H H14:=y13.trans z14;walk_at "w";refine Hf (SqL.of (z14 _ _ (z13 _ _ (z12 _ _ g_m2)))) (SqL.of g_l3) (by simp) λ m3 hm3=> ?_;have z15:=Ai (o:=HO.lst ([V.ref t_row,V.ref t_word,V.ref t_many,V.ref t_plain,V.ref t_grown,V.ref t_draft]++[V.ref t_cloth,V.ref t_place])) hm3;have g_m3:upd H14 m3 (HO.lst ([V.ref t_row,V.ref t_word,V.ref t_many,V.ref t_plain,V.ref t_grown,V.ref t_draft]++[V.ref t_cloth,V.ref t_place])) m3=some (.lst [V.ref t_row,V.ref t_word,V.ref t_many,V.ref t_plain,V.ref t_grown,V.ref t_draft,V.ref t_cloth,V.ref t_place]):=Af;generalize upd H14 m3 (HO.lst ([V.ref t_row,V.ref t_word,V.ref t_many,V.ref t_plain,V.ref t_grown,V.ref t_draft]++[V.ref t_cloth,V.ref t_place]))=H15 at z15 g_m3 ⊢;have y15:Same H H15:=y14.trans z15;walk_at "w";refine Oc (y15 _ _ ha) F1.xk F1.kv ?_;walk_at "w";intro t_other ht_other;have z16:=Ai (o:=HO.tup [V.str "other",V.bl (!true)]) ht_other;have g_t_other:upd H15 t_other (HO.tup [V.str "other",V.bl (!true)]) t_other=some (.tup [V.str "other",V.bl false]):=Af;generalize upd H15 t_other (HO.tup [V.str "other",V.bl (!true)])=H16 at z16 g_t_other ⊢;have y16:Same H H16:=y15.trans z16;walk_at "w";intro l4 hl4;have z17:=Ai (o:=HO.lst [V.ref t_other]) hl4;have g_l4:upd H16 l4 (HO.lst [V.ref t_other]) l4=_:=Af;generalize upd H16 l4 (HO.lst [V.ref t_other])=H17 at z17 g_l4 ⊢;have y17:Same H H17:=y16.trans z17;walk_at "w";refine Hf (SqL.of (z17 _ _ (z16 _ _ g_m3))) (SqL.of g_l4) (by simp) λ m4 hm4=> ?_;have z18:=Ai (o:=HO.lst ([V.ref t_row,V.ref t_word,V.ref t_many,V.ref t_plain,V.ref t_grown,V.ref t_draft,V.ref t_cloth,V.ref t_place]++[V.ref t_other])) hm4;have g_m4:upd H17 m4 (HO.lst ([V.ref t_row,V.ref t_word,V.ref t_many,V.ref t_plain,V.ref t_grown,V.ref t_draft,V.ref t_cloth,V.ref t_place]++[V.ref t_other])) m4=some (.lst [V.ref t_row,V.ref t_word,V.ref t_many,V.ref t_plain,V.ref t_grown,V.ref t_draft,V.ref t_cloth,V.ref t_place,V.ref t_other]):=Af;generalize upd H17 m4 (HO.lst ([V.ref t_row,V.ref t_word,V.ref t_many,V.ref t_plain,V.ref t_grown,V.ref t_draft,V.ref t_cloth,V.ref t_place]++[V.ref t_other]))=H18 at z18 g_m4 ⊢;have y18:Same H H18:=y17.trans z18;walk_at "w";refine ⟨m4,rfl,⟨_,SqL.of g_m4⟩,λ D hD=> ?_⟩;have pr:∀ i,i<9->∃ b,[V.ref t_row,V.ref t_word,V.ref t_many,V.ref t_plain,V.ref t_grown,V.ref t_draft,V.ref t_cloth,V.ref t_place,V.ref t_other].getD i V.non= .ref b/\H18 b=some (.tup [([(V.str "row",V.bl (decide (j=0))),(V.str "word",V.bl (decide (j=1))),(V.str "many",V.bl (decide (j=2))),(V.str "plain",V.bl (decide (j=3))),(V.str "grown",V.bl (decide (j=4))),(V.str "draft",V.bl (decide (j=5))),(V.str "cloth",V.bl (decide (j=6))),(V.str "place",V.bl (decide (j=7))),(V.str "other",V.bl false)].getD i (V.non,V.non)).1,([(V.str "row",V.bl (decide (j=0))),(V.str "word",V.bl (decide (j=1))),(V.str "many",V.bl (decide (j=2))),(V.str "plain",V.bl (decide (j=3))),(V.str "grown",V.bl (decide (j=4))),(V.str "draft",V.bl (decide (j=5))),(V.str "cloth",V.bl (decide (j=6))),(V.str "place",V.bl (decide (j=7))),(V.str "other",V.bl false)].getD i (V.non,V.non)).2]):=by
      intro i hi
      match i,hi with
      | 0,_=>exact ⟨t_row,rfl,(z18 _ _ (z17 _ _ (z16 _ _ (z15 _ _ (z14 _ _ (z13 _ _ (z12 _ _ (z11 _ _ (z10 _ _ (z9 _ _ (z8 _ _ (z7 _ _ (z6 _ _ (z5 _ _ (z4 _ _ (z3 _ _ (z2 _ _ g_t_row)))))))))))))))))⟩
      | 1,_=>exact ⟨t_word,rfl,(z18 _ _ (z17 _ _ (z16 _ _ (z15 _ _ (z14 _ _ (z13 _ _ (z12 _ _ (z11 _ _ (z10 _ _ (z9 _ _ (z8 _ _ (z7 _ _ (z6 _ _ (z5 _ _ (z4 _ _ (z3 _ _ g_t_word))))))))))))))))⟩
      | 2,_=>exact ⟨t_many,rfl,(z18 _ _ (z17 _ _ (z16 _ _ (z15 _ _ (z14 _ _ (z13 _ _ (z12 _ _ (z11 _ _ (z10 _ _ (z9 _ _ (z8 _ _ (z7 _ _ (z6 _ _ (z5 _ _ g_t_many))))))))))))))⟩
      | 3,_=>exact ⟨t_plain,rfl,(z18 _ _ (z17 _ _ (z16 _ _ (z15 _ _ (z14 _ _ (z13 _ _ (z12 _ _ (z11 _ _ (z10 _ _ (z9 _ _ (z8 _ _ (z7 _ _ (z6 _ _ g_t_plain)))))))))))))⟩
      | 4,_=>exact ⟨t_grown,rfl,(z18 _ _ (z17 _ _ (z16 _ _ (z15 _ _ (z14 _ _ (z13 _ _ (z12 _ _ (z11 _ _ (z10 _ _ (z9 _ _ g_t_grown))))))))))⟩
      | 5,_=>exact ⟨t_draft,rfl,(z18 _ _ (z17 _ _ (z16 _ _ (z15 _ _ (z14 _ _ (z13 _ _ (z12 _ _ (z11 _ _ (z10 _ _ g_t_draft)))))))))⟩
      | 6,_=>exact ⟨t_cloth,rfl,(z18 _ _ (z17 _ _ (z16 _ _ (z15 _ _ (z14 _ _ (z13 _ _ g_t_cloth))))))⟩
      | 7,_=>exact ⟨t_place,rfl,(z18 _ _ (z17 _ _ (z16 _ _ (z15 _ _ (z14 _ _ g_t_place)))))⟩
      | 8,_=>exact ⟨t_other,rfl,(z18 _ _ (z17 _ _ g_t_other))⟩
    have lt:=F1.lt;refine Gr (m:=0) (p:=λ i=>decide (i=j)) (G:=λ i=> .str (nmK i)) (NZ (ps:=[(V.str "row",V.bl (decide (j=0))),(V.str "word",V.bl (decide (j=1))),(V.str "many",V.bl (decide (j=2))),(V.str "plain",V.bl (decide (j=3))),(V.str "grown",V.bl (decide (j=4))),(V.str "draft",V.bl (decide (j=5))),(V.str "cloth",V.bl (decide (j=6))),(V.str "place",V.bl (decide (j=7))),(V.str "other",V.bl false)]) (SqL.of g_m4) pr rfl rfl) hD (by simp) ?_ ?_ ?_
    · intro i H' R hi s kk;have hi9:i<9:=hi
      match i,hi9 with
      | 0,_=>walk_at "w";exact ⟨_,rfl,by have e:decide (j=0)=decide (0=j):=decide_eq_decide.mpr eq_comm;rw [e];exact kk H' (Same.refl _)⟩
      | 1,_=>walk_at "w";exact ⟨_,rfl,by have e:decide (j=1)=decide (1=j):=decide_eq_decide.mpr eq_comm;rw [e];exact kk H' (Same.refl _)⟩
      | 2,_=>walk_at "w";exact ⟨_,rfl,by have e:decide (j=2)=decide (2=j):=decide_eq_decide.mpr eq_comm;rw [e];exact kk H' (Same.refl _)⟩
      | 3,_=>walk_at "w";exact ⟨_,rfl,by have e:decide (j=3)=decide (3=j):=decide_eq_decide.mpr eq_comm;rw [e];exact kk H' (Same.refl _)⟩
      | 4,_=>walk_at "w";exact ⟨_,rfl,by have e:decide (j=4)=decide (4=j):=decide_eq_decide.mpr eq_comm;rw [e];exact kk H' (Same.refl _)⟩
      | 5,_=>walk_at "w";exact ⟨_,rfl,by have e:decide (j=5)=decide (5=j):=decide_eq_decide.mpr eq_comm;rw [e];exact kk H' (Same.refl _)⟩
      | 6,_=>walk_at "w";exact ⟨_,rfl,by have e:decide (j=6)=decide (6=j):=decide_eq_decide.mpr eq_comm;rw [e];exact kk H' (Same.refl _)⟩
      | 7,_=>walk_at "w";exact ⟨_,rfl,by have e:decide (j=7)=decide (7=j):=decide_eq_decide.mpr eq_comm;rw [e];exact kk H' (Same.refl _)⟩
      | 8,_=>walk_at "w";exact ⟨_,rfl,by have e:false=decide (8=j):=(decide_eq_false (by omega)).symm;rw [e];exact kk H' (Same.refl _)⟩
    · intro i H' R hi hp s kk;have hi9:i<9:=hi
      match i,hi9 with
      | 0,_=>walk_at "w";exact kk H' _ (Same.refl _) (.str _)
      | 1,_=>walk_at "w";exact kk H' _ (Same.refl _) (.str _)
      | 2,_=>walk_at "w";exact kk H' _ (Same.refl _) (.str _)
      | 3,_=>walk_at "w";exact kk H' _ (Same.refl _) (.str _)
      | 4,_=>walk_at "w";exact kk H' _ (Same.refl _) (.str _)
      | 5,_=>walk_at "w";exact kk H' _ (Same.refl _) (.str _)
      | 6,_=>walk_at "w";exact kk H' _ (Same.refl _) (.str _)
      | 7,_=>walk_at "w";exact kk H' _ (Same.refl _) (.str _)
      | 8,_=>walk_at "w";exact kk H' _ (Same.refl _) (.str _)
    · intro H' ys s hl r;have e9:=Sr j lt;have r:Rp _ _ _ _ (.lst (((List.range 9).filter λ i=>decide (i=j)).map (λ i=>Dt.str (nmK i)))):=r;rw [e9] at r;obtain ⟨b,eb,hb,_⟩:=Hk (zs:=[nmK j]) r;cases eb;exact k H' D (y18.trans s) (y18.free hD) hb
noncomputable def CD (x k:Int):Int:=(x%1000000007+7919*k+13)*(x%1000000007+7919*k+13)%1000000007*48271%2147483647
theorem aA (x k:Int):0<=CD x k:=Int.emod_nonneg _ (by decide)
def C4:Sp:=λ vs H Q _=>∃ x k:Int,vs=[.int x, .int k]/\(0<=k/\k<=1000)/\Q (.int (CD x k)) H
noncomputable abbrev DN:Stmt:=top 63
theorem sc__law_mixed:FnScope ["_law_cell","_law_k"] ["_law_cell","_law_k"] (Ah DN):=⟨rfl,rfl,rfl,by decide +kernel,rfl,by decide +kernel,by decide +kernel⟩
theorem IX {f:Addr} {fd:FuncData} (F:Fun K "_law_mixed" "_law_mixed" DN f fd) (T:Txt K mg c):FnOk P w K mg base CX0 1 f fd ["_law_cell","_law_k"] C4:=by
  refine F.ok sc__law_mixed (λ vs H Q E h=> ?_) (λ cdv A outer s H vs Q E hr h=> ?_)
  · obtain ⟨x,k,rfl,_⟩:=h;rfl
  · obtain ⟨x,k,rfl,hk,q⟩:=h;refine ⟨_,(Ac (Ay (i:=0) sc__law_mixed.nd rfl (Or.inl rfl) (Am AR (Am AR (Am A5 (pv 0) Ae) (Am Kd Ae (pv 1))) Ae))
      (Ag (Aj (Am A5 (Am Kd (Am A5 (Am Kd (pv 0) (pv 0)) Ae) Ae) Ae)))),?_⟩
    have b1:=Int.emod_nonneg x (show (1000000007:Int)≠0 by decide);have b2:=Int.emod_lt_of_pos x (show (0:Int)<1000000007 by decide);walk_at "w";refine AM (by decide) ?_;walk_at "w";refine AM (.inl ⟨by decide,by decide⟩) ?_;walk_at "w";refine AM (.inl ⟨?_,?_⟩) ?_
    · show -(2 ^ 64)<x%1000000007+7919*k+13;omega
    · show x%1000000007+7919*k+13<2 ^ 64;omega
    walk_at "w";refine AM (by decide) ?_;walk_at "w";refine AM (.inr ⟨by decide,by decide⟩) ?_;walk_at "w";refine AM (by decide) ?_;exact q
noncomputable def Hy (n:Nat) (f:Int):Nat:=max 1 (min 60 (Builtin.Range.rangeSize f (n:Nat) 2).toNat)
def C8 (K:PySem.W.Frag):Sp:=λ vs H Q _=>∃ (a:Addr) (ns:List Int) (f:Int),vs=[.ref a, .int f]/\SqL K H a (ns.map V.int)/\ns.length<=63/\0<=f/\f<=1/\∀ H' p (ms:List Int),Same H H'->H p=none->H' p=some (.lst (ms.map V.int))->1<=ms.length->ms.length<=60/\ms.length<=ns.length+1/\ms.length=Hy ns.length f->Q (.ref p) H'
theorem TH {f:Int} {n:Nat} {i:Nat} (f0:0<=f) (h:i<(Builtin.Range.rangeSize f (n:Nat) 2).toNat):f+i*2<n:=by
  unfold Builtin.Range.rangeSize at h;rw [if_pos (by decide)] at h;split at h
  · omega
  · simp at h
noncomputable abbrev Dv:Stmt:=top 66
theorem sc__law_cells:FnScope ["_law_script","_law_first","_law_found"] ["_law_script","_law_first"] (Ah Dv):=⟨rfl,rfl,rfl,by decide +kernel,rfl,by decide +kernel,by decide +kernel⟩
theorem IJ {f:Addr} {fd:FuncData} (F:Fun K "_law_cells" "_law_cells" Dv f fd) (T:Txt K mg c):FnOk P w K mg base CX0 1 f fd ["_law_script","_law_first"] (C8 K):=by
  refine F.ok sc__law_cells (λ vs H Q E h=> ?_) (λ cdv A outer s H vs Q E hr h=> ?_)
  · obtain ⟨a,ns,f,rfl,_⟩:=h;rfl
  · obtain ⟨a,ns,f,rfl,sa,hn,f0,f1,k⟩:=h;have hu:=hr.units0;refine ⟨_,(Ac (Ay (i:=2) sc__law_cells.nd rfl (Or.inl rfl) (EB (X8 (K:=K)) (At (NK rfl (T.own _ (by decide)) (Aa (pv 1) (Aa (Ak (BW (K:=K)) rfl (T.own _ (by decide)) boot_len (Aa (pv 0) Ab)) (Aa Ae Ab)))) (λ _ _ _ _=>Ao) (λ _ _ _ _=>(AT (Dn (K:=K)) (pv 1) (pv 0) (λ _ _=>rfl)))) F4 (F6 Ae)))
      (Ag (Aj (Am (K4 (K:=K)) (pv 2) (Am Sm (AO (Aa (pv 1) Ab)) (Ax Tz rfl (T.own _ (by decide)) boot_int (Aa (DY (RP hu (K:=K)) (pv 2) (AO Ab) (AG _)) Ab))))))),?_⟩
    walk_at "w";refine Bm sa ?_;walk_at "w";refine ⟨_,_,_,rfl,⟨by omega,by omega⟩,⟨by omega,by rw [List.length_map];omega⟩,⟨by decide,by decide⟩,by decide,λ D hD=> ?_⟩;rw [List.length_map];have hb:∀ i:Nat,i<(Builtin.Range.rangeSize f (ns.length:Nat) 2).toNat->f+i*2<ns.length:=λ i hi=>TH f0 hi;have hsz:(Builtin.Range.rangeSize f (ns.length:Nat) 2).toNat<=63:=by
      have:=O8 f (ns.length:Nat) 2 (by decide);omega
    have hce:Hy ns.length f=max 1 (min 60 (Builtin.Range.rangeSize f (ns.length:Nat) 2).toNat):=rfl;generalize (Builtin.Range.rangeSize f (ns.length:Nat) 2).toNat=n at hb hsz hce ⊢;refine AQ (G:=λ i=>ns.getD (f+i*2).toNat 0) (LR rfl) hD (by omega) ?_ ?_
    · intro i H' R hi s kk;have:=hb i hi;walk_at "w";refine B5 (SqS.same (tp:=false) sa s) (Qx (by omega) (by omega)) ?_;exact kk H' (Same.refl _)
    intro H1 s1 hl1;have hn1:n<=ns.length:=by
      rcases Nat.eq_zero_or_pos n with z | z
      · omega
      · have:=hb (n - 1) (by omega);omega
    have lms:((List.range n).map λ i:Nat=>ns.getD (f+i*2).toNat 0).length<=ns.length/\((List.range n).map λ i:Nat=>ns.getD (f+i*2).toNat 0).length=n:=by simpa using hn1
    generalize (List.range n).map (λ i:Nat=>ns.getD (f+i*2).toNat 0)=ms at hl1 lms;walk_at "w";refine Tb (SqL.of hl1) λ q hq=> ?_;rw [Sz (by decide), <-List.map_take];have s2:=Ai (o:=HO.lst ((ms.take (60:Int).toNat).map V.int)) hq;have h2:upd H1 q (HO.lst ((ms.take (60:Int).toNat).map V.int)) q=_:=Af;have s12:=s1.trans s2;generalize upd H1 q (HO.lst ((ms.take (60:Int).toNat).map V.int))=H2 at s12 h2 ⊢;have hms:(ms.take (60:Int).toNat).length<=60/\(ms.take (60:Int).toNat).length<=ns.length/\(ms.take (60:Int).toNat).length=min 60 n:=by rw [List.length_take,lms.2];exact ⟨Nat.min_le_left _ _,Nat.le_trans (Nat.min_le_right _ _) hn1,rfl⟩
    generalize ms.take (60:Int).toNat=ts at h2 hms ⊢;walk_at "w";intro p hp;walk_at "w";have s3:=Ai (o:=HO.lst [V.int f]) hp;have h3:upd H2 p (HO.lst [V.int f]) p=some (.lst [V.int f]):=Af;have s13:=s12.trans s3;replace h2:=s3 _ _ h2;generalize upd H2 p (HO.lst [V.int f])=H3 at s13 h2 h3 ⊢;intro p4 hp4;walk_at "w";have s4:=Ai (o:=HO.lst []) hp4;have s14:=s13.trans s4;replace h2:=s4 _ _ h2;replace h3:=s4 _ _ h3;have h4:upd H3 p4 (HO.lst []) p4=_:=Af;generalize upd H3 p4 (HO.lst [])=H4 at s14 h2 h3 h4 ⊢;refine Nk (bs:=[]) (SqL.of h2) (SqL.of h4) ?_;walk_at "w";refine ⟨_,rfl,?_⟩;have hb2:(0:Int)<=(if decide (ts=[])=true then 1 else 0)/\(if decide (ts=[])=true then (1:Int) else 0)<=1:=by split <;> decide
    refine Td h3 hb2.1 (by omega) (by simp) λ p5 hp5=> ?_;walk_at "w";have e5:(List.replicate (if decide (ts=[])=true then (1:Int) else 0).toNat [V.int f]).flatten=(if ts=[] then [f] else []).map V.int:=by
      by_cases z:ts=[]
      · simp [z]
      · simp [z]
    rw [e5];have s5:=Ai (o:=HO.lst ((if ts=[] then [f] else []).map V.int)) hp5;have h5:upd H4 p5 (HO.lst ((if ts=[] then [f] else []).map V.int)) p5=_:=Af;replace h2:=s5 _ _ h2;have s15:=s14.trans s5;generalize upd H4 p5 (HO.lst ((if ts=[] then [f] else []).map V.int))=H5 at s15 h2 h5 ⊢;have hlen:1<=(ts++(if ts=[] then [f] else [])).length/\(ts++(if ts=[] then [f] else [])).length<=60/\(ts++(if ts=[] then [f] else [])).length<=ns.length+1/\(ts++(if ts=[] then [f] else [])).length=Hy ns.length f:=by
      by_cases z:ts=[]
      · rw [z] at hms;simp [z,hce];simp at hms;omega
      · have:1<=ts.length:=by
          cases ts with
          | nil=>exact absurd rfl z
          | cons _ _=>simp
        simp [z];omega
    refine Hf (SqL.of h2) (SqL.of h5) (by have:=hlen.2.1;rw [List.length_append] at this;simp only [List.length_map];omega) λ p6 hp6=> ?_;rw [<-List.map_append];exact k _ p6 _ (s15.trans (Ai hp6)) (s15.free hp6) Af hlen.1 hlen.2
noncomputable def Hj (m w:Nat):List Nat:=((List.range w).filter m.testBit).map (· + 1)
theorem Cf (p:Nat->Bool):∀ w,Rise w (((List.range w).filter p).map (· + 1)):=by
  intro w;have key:∀ w,(∀ n∈((List.range w).filter p).map (· + 1),1<=n/\n<=w)/\(((List.range w).filter p).map (· + 1)).Pairwise (· < ·):=by
    intro w;refine ⟨λ n hn=> ?_,?_⟩
    · obtain ⟨k,hk,rfl⟩:=List.mem_map.mp hn;have:=List.mem_range.mp (List.mem_filter.mp hk).1;omega
    · rw [List.pairwise_map];exact ((List.pairwise_lt_range).filter p).imp (λ h=>Nat.succ_lt_succ h)
  obtain ⟨k1,k2⟩:=key w;generalize ((List.range w).filter p).map (· + 1)=ns at k1 k2;intro i hi;have e:ns.getD i 0=ns[i]:=by simp [List.getD_eq_getElem?_getD,hi]
  have m1:=k1 _ (List.getElem_mem hi);rw [e];refine ⟨?_,m1.2⟩;cases i with
  | zero=>simpa using m1.1
  | succ i=>
    have e2:(0::ns).getD (i+1) 0=ns[i]:=by
      show ns.getD i 0=ns[i];simp [List.getD_eq_getElem?_getD,(show i<ns.length by omega)]
    rw [e2];exact (List.pairwise_iff_getElem.mp k2) i (i+1) (by omega) hi (by omega)
def Ee:Sp:=λ vs H Q _=>∃ m w:Nat,vs=[nV m,nV w]/\w<=100/\∀ H' p,Same H H'->H p=none->H' p=some (.lst ((Hj m w).map nV))->Q (.ref p) H'
theorem QM (m i:Nat):decide ((((m >>> i) &&& 1:Nat):Int)=1)=m.testBit i:=by
  have h:((m >>> i) &&& 1)=(m.testBit i).toNat:=by
    rw [Nat.and_one_is_mod,Nat.shiftRight_eq_div_pow,MM.bit_div]
  rw [h];cases m.testBit i <;> rfl
noncomputable abbrev CC:Stmt:=top 67
theorem G3:FnScope ["_law_mask","_law_most"] ["_law_mask","_law_most"] (Ah CC):=⟨rfl,rfl,rfl,by decide +kernel,rfl,by decide +kernel,by decide +kernel⟩
theorem GX {f:Addr} {fd:FuncData} (F:Fun K "_law_numbers" "_law_numbers" CC f fd) (T:Txt K mg c):FnOk P w K mg base CX0 1 f fd ["_law_mask","_law_most"] Ee:=by
  refine F.ok G3 (λ vs H Q E h=> ?_) (λ cdv A outer s H vs Q E hr h=> ?_)
  · obtain ⟨m,w,rfl,_⟩:=h;rfl
  · obtain ⟨m,w,rfl,hw,k⟩:=h;refine ⟨_,(Ag (Aj (At (Db rfl (T.own _ (by decide)) (Aa (pv 1) Ab)) (λ _ _ _ _=>(BH (Av Cp (Am OT (Am SX (pv 1) (pv 0)) Ae) Ae (AG _)))) (λ _ _ _ _=>(Am AR (pv 0) Ae))))),?_⟩;walk_at "w";refine ⟨_,rfl,by omega,by omega,λ D hD=> ?_⟩;rw [Int.toNat_natCast];refine A9 (p:=m.testBit) (G:=λ i=>(i:Int)+1) (HU rfl) hD (by omega) ?_ ?_ ?_
    · intro i H' R hi s kk;walk_at "w";refine AM (by show (0:Int)<=_;omega) ?_;walk_at "w";have e:((m:Nat):Int) / 2 ^ (((i:Nat):Int)).toNat=((m >>> i:Nat):Int):=by
        rw [Int.toNat_natCast,Nat.shiftRight_eq_div_pow];push_cast;rfl
      rw [e,show (1:Int)=((1:Nat):Int) from rfl,bA];walk_at "w";rw [show (((1:Nat):Int))=(1:Int) from rfl,QM];exact kk H' (Same.refl _)
    · intro i H' R hi hp s kk;walk_at "w";exact kk H' (Same.refl _)
    · intro H' s hl;refine k H' D s hD ?_;rw [hl];unfold Hj;rw [List.map_map,List.map_map];rfl
def BP:Nat->Sp
  | 0=>λ _ _ _ _=>False
  | n+1=>λ vs H Q _=>∃ v d,vs=[v]/\Rp H FT n v d/\∀ H' r,Same H H'->Rp H' (FN H) n r d->Q r H'
noncomputable abbrev Ca:Stmt:=top 69
theorem Iq:FnScope ["_law_thing"] ["_law_thing"] (Ah Ca):=⟨rfl,rfl,rfl,by decide +kernel,rfl,by decide +kernel,by decide +kernel⟩
theorem G4 {n:Nat} {f:Addr} {fd:FuncData} (F:Fun K "_law_copied" "_law_copied" Ca f fd) (T:Txt K mg c) (c__law_copied:CallF P w K mg base "_law_copied" (n+1) ["_law_thing"] (BP n)):FnOk P w K mg base CX0 (n+2) f fd ["_law_thing"] (BP (n+1)):=by
  refine F.ok Iq (λ vs H Q E h=> ?_) (λ cdv A outer s H vs Q E hr h=> ?_)
  · obtain ⟨v,d,rfl,_⟩:=h;rfl
  · obtain ⟨v,d,rfl,rv,k⟩:=h;refine ⟨_,(Ac (AV (Ba (Ak (BV (K:=K)) rfl (T.own _ (by decide)) boot_isinstance (Aa (pv 0) (Aa (Ch rfl (T.own _ (by decide)) Aw) Ab)))) (Ag (Aj (At (Bp (K:=K) (pv 0)) (λ _ _ _ _=>Ao) (λ _ _ _ _=>(Ad c__law_copied hr (Aa (pv 0) Ab)))))) Au)
      (Ac (AV (Ba (Ak (BV (K:=K)) rfl (T.own _ (by decide)) boot_isinstance (Aa (pv 0) (Aa (Ch rfl (T.own _ (by decide)) AH) Ab)))) (Ag (Aj (Ax (Ct (K:=K)) rfl (T.own _ (by decide)) AH (Aa (At (Fd (K:=K) (pv 0)) (λ _ _ _ _=>Ao) (λ _ _ _ _=>(Ad c__law_copied hr (Aa (pv 0) Ab)))) Ab)))) Au)
      (Ag (Aj (pv 0))))),?_⟩
    walk_at "w";refine Bc rv.ty (Hc d) ?_;walk_at "w";refine TZ (λ hc=> ?_) (λ hc=> ?_)
    · obtain ⟨m,a,xs,rfl,rfl,sa,la,ba,ea⟩:=rv.seq (K:=K) (by rw [hc];rfl);have ed:d= .lst (Be d):=by cases d <;> first | rfl | cases hc
      have et:Fb d=false:=by cases d <;> first | rfl | cases hc
      rw [et] at sa;walk_at "w";refine ⟨a,rfl,⟨_,sa⟩,λ D hD=> ?_⟩;refine AF (m:=m) (G:=λ i=>(Be d).getD i .non) (AJ sa rfl) hD ba ?_ ?_
      · intro i H' R hi s1 kk;walk_at "w";have hd:(Be d)[i]?=some ((Be d).getD i .non):=by
          rw [List.getD_eq_getElem?_getD,List.getElem?_eq_getElem (by omega)];rfl
        have hx:xs[i]?=some (xs.getD i .non):=by
          rw [List.getD_eq_getElem?_getD,List.getElem?_eq_getElem hi];rfl
        exact ⟨_,_,rfl,(ea i _ _ hx hd).same s1,kk⟩
      · intro H' ys s1 hl r;have e:(List.range xs.length).map (λ i=>(Be d).getD i .non)=Be d:=by
          rw [la];exact (Aq id (Be d) .non).trans (List.map_id _)
        rw [e, <-ed] at r;exact k H' _ s1 r
    · walk_at "w";refine Bc rv.ty (Gc d) ?_;walk_at "w";refine TZ (λ hc2=> ?_) (λ hc2=> ?_)
      · obtain ⟨m,a,xs,rfl,rfl,sa,la,ba,ea⟩:=rv.seq (K:=K) (by rw [hc2,Bool.or_true]);have ed:d= .tup (Be d):=by cases d <;> first | rfl | cases hc2
        rw [hc2] at sa;walk_at "w";refine ⟨a,rfl,⟨_,sa⟩,λ D hD=> ?_⟩;refine AF (m:=m) (G:=λ i=>(Be d).getD i .non) (B9 sa rfl) hD ba ?_ ?_
        · intro i H' R hi s1 kk;walk_at "w";have hd:(Be d)[i]?=some ((Be d).getD i .non):=by
            rw [List.getD_eq_getElem?_getD,List.getElem?_eq_getElem (by omega)];rfl
          have hx:xs[i]?=some (xs.getD i .non):=by
            rw [List.getD_eq_getElem?_getD,List.getElem?_eq_getElem hi];rfl
          exact ⟨_,_,rfl,(ea i _ _ hx hd).same s1,kk⟩
        · intro H' ys s1 hl r;have e:(List.range xs.length).map (λ i=>(Be d).getD i .non)=Be d:=by
            rw [la];exact (Aq id (Be d) .non).trans (List.map_id _)
          rw [e] at r;walk_at "w";refine BO (SqL.of hl) λ l hl2=> ?_;have r2:=r.tupd hl hl2;rw [<-ed] at r2;exact k _ _ (s1.trans (Ai hl2)) r2
      · walk_at "w";refine k H v (Same.refl H) ?_;have hs:(Jv d||Fb d)=false:=by rw [hc,hc2];rfl
        cases rv with
        | non=>exact .non
        | bl b=>exact .bl b
        | int i=>exact .int i
        | str z=>exact .str z
        | lst _ _ _ _ _=>cases hs
        | tup _ _ _ _=>cases hs
theorem EG {f:Addr} {fd:FuncData} (D:DefAt K mg "_law_copied" Ca ["_law_thing"] f fd) (T:Txt K mg c):∀ n,FnOk P w K mg base CX0 (n+1) f fd ["_law_thing"] (BP n)
  | 0=>⟨λ _ _ _ _ h=>h.elim,λ _ _ _ _ _ _ _ _ _ _ _ _ _ h=>h.elim⟩
  | n+1=>G4 D.fn T (D.call (EG D T n))
noncomputable abbrev SK (i:Int):Str:=⟨#[97+i.toNat]⟩
theorem SI:∀ j:Nat,j<26->("abcdefghijklmnopqrstuvwxyz":Str).cps.toList[j]?=some (97+j):=by decide +kernel
theorem M0 {i:Int} (h0:0<=i) (h1:i<26):atI ("abcdefghijklmnopqrstuvwxyz":Str).cps.toList i=some (97+i.toNat):=by
  obtain ⟨j,rfl⟩:∃ j:Nat,i=j:=⟨i.toNat,by omega⟩;rw [Int.toNat_natCast];exact Cw (SI j (by omega))
theorem QF:∀ j:Nat,j<26->((⟨#[97+j]⟩:Str).length == 1&& !(Builtin.Str.occurrences colS ⟨#[97+j]⟩ 0 colS.length 1).isEmpty)=true:=by decide +kernel
theorem PZ {i:Int} (h0:0<=i) (h1:i<26):KG (SK i):=by
  have h:=QF i.toNat (by omega);simp only [Bool.and_eq_true,beq_iff_eq] at h;exact ⟨h.1,h.2⟩
theorem Lf (s:Nat):(0:Int)<1*2 ^ ((s:Nat):Int).toNat:=by
  rw [Int.toNat_natCast,FM];have:=Nat.two_pow_pos s;omega
theorem M3 (x:Int) (s:Nat):x%(1*2 ^ ((s:Nat):Int).toNat)=(((x%(2 ^ s:Nat)).toNat:Nat):Int):=by
  rw [Int.toNat_natCast,FM];have hp:=Nat.two_pow_pos s;have:=Int.emod_nonneg x (show ((2 ^ s:Nat):Int)≠0 by omega);omega
def E6 (K:PySem.W.Frag):Sp:=λ vs H Q _=>∃ (a:Addr) (ns:List Int) (m:Nat),vs=[.ref a,nV m]/\SqL K H a (ns.map V.int)/\ns.length<=63/\1<=m/\m<=16/\∀ H' p d,Same H H'->H p=none->Rp H' (FN H) 3 (.ref p) (dDr d)->DrOk d->d.th.length=Hy ns.length 0->d.td.length=Hy ns.length 1->Q (.ref p) H'
noncomputable abbrev Ds:Stmt:=top 68
theorem sc__law_draft:FnScope ["_law_script","_law_most","_law_whole","_law_shafts","_law_treadles","_law_letters","_law_ends","_law_picks","_law_ties","_law_treading","_law_warp","_law_weft"] ["_law_script","_law_most"] (Ah Ds):=⟨rfl,rfl,rfl,by decide +kernel,rfl,by decide +kernel,by decide +kernel⟩
theorem IS {f:Addr} {fd:FuncData} (F:Fun K "_law_draft" "_law_draft" Ds f fd) (T:Txt K mg c) (c__law_mixed:CallF P w K mg base "_law_mixed" 1 ["_law_cell","_law_k"] C4) (c__law_cells:CallF P w K mg base "_law_cells" 1 ["_law_script","_law_first"] (C8 K)) (c__law_numbers:CallF P w K mg base "_law_numbers" 1 ["_law_mask","_law_most"] Ee):FnOk P w K mg base CX0 2 f fd ["_law_script","_law_most"] (E6 K):=by
  refine F.ok sc__law_draft (λ vs H Q E h=> ?_) (λ cdv A outer s H vs Q E hr h=> ?_)
  · obtain ⟨a,ns,m,rfl,_⟩:=h;rfl
  · obtain ⟨a,ns,m,rfl,sa,hn,m1,m2,k⟩:=h;refine ⟨_,(Ac (Ay (i:=2) sc__law_draft.nd rfl (Or.inr rfl) (Ak (R6 (K:=K)) rfl (T.own _ (by decide)) boot_sum (Aa (Dc (K:=K) (J7 (K:=K) rfl (T.own _ (by decide)) (Aa (pv 0) Ab)) (λ _ _ _ _=>Ao) (λ _ _ _ _=>(Am Kd (Am A5 (pv 1) Ae) (Am AR (pv 0) Ae)))) Ab)))
      (Ac (Ay (i:=3) sc__law_draft.nd rfl (Or.inr rfl) (Am AR Ae (Am A5 (Ad c__law_mixed hr (Aa (pv 2) (Aa Ae Ab))) (pv 1))))
      (Ac (Ay (i:=4) sc__law_draft.nd rfl (Or.inr rfl) (Am AR Ae (Am A5 (Ad c__law_mixed hr (Aa (pv 2) (Aa Ae Ab))) (pv 1))))
      (Ac (Ay (i:=5) sc__law_draft.nd rfl (Or.inr rfl) As)
      (Ac (Ay (i:=6) sc__law_draft.nd rfl (Or.inl rfl) (Ad c__law_cells hr (Aa (pv 0) (Aa Ae Ab))))
      (Ac (Ay (i:=7) sc__law_draft.nd rfl (Or.inl rfl) (Ad c__law_cells hr (Aa (pv 0) (Aa Ae Ab))))
      (Ac (Bk (i:=8) sc__law_draft.nd rfl (Or.inl rfl) (Db rfl (T.own _ (by decide)) (Aa (pv 4) Ab)) (λ _ _ _ _=>Ao) (λ _ _ _ _=>(Ad c__law_numbers hr (Aa (Am A5 (Ad c__law_mixed hr (Aa (pv 2) (Aa (Am AR Ae (pv 0)) Ab))) (Am KA Ae (pv 1))) (Aa (pv 1) Ab)))))
      (Ac (Bk (i:=9) sc__law_draft.nd rfl (Or.inl rfl) (Bp (K:=K) (pv 7)) (λ _ _ _ _=>Ao) (λ _ _ _ _=>(Ad c__law_numbers hr (Aa (Am A5 (pv 0) (Am KA Ae (pv 1))) (Aa (pv 1) Ab)))))
      (Ac (AV (Av Cp (Am A5 (Ad c__law_mixed hr (Aa (pv 2) (Aa Ae Ab))) Ae) Ae (AG _)) (Ag (Bk (i:=9) sc__law_draft.nd rfl (Or.inl rfl) (Bp (K:=K) (pv 7)) (λ _ _ _ _=>Ao) (λ _ _ _ _=>(AO (Aa (Am AR Ae (Am A5 (pv 0) (pv 1))) Ab))))) Au)
      (Ac (Bk (i:=10) sc__law_draft.nd rfl (Or.inl rfl) (Bp (K:=K) (pv 6)) (λ _ _ _ _=>Ao) (λ _ _ _ _=>(AT PH (pv 1) (Am A5 (Am Do (pv 0) Ae) (Am AR Ae (Am A5 (Ad c__law_mixed hr (Aa (pv 2) (Aa Ae Ab))) Ae))) (λ _ _=>rfl))))
      (Ac (Bk (i:=11) sc__law_draft.nd rfl (Or.inl rfl) (Bp (K:=K) (pv 7)) (λ _ _ _ _=>Ao) (λ _ _ _ _=>(AT PH (pv 1) (Am A5 (Am Do (pv 0) Ae) (Am AR Ae (Am A5 (Ad c__law_mixed hr (Aa (pv 2) (Aa Ae Ab))) Ae))) (λ _ _=>rfl))))
      (Ag (Aj (Bd (Aa (pv 3) (Aa (pv 4) (Aa (At (Bp (K:=K) (pv 6)) (λ _ _ _ _=>Ao) (λ _ _ _ _=>(Am A5 (pv 0) (Am AR (pv 1) Ae)))) (Aa (pv 8) (Aa (pv 9) (Aa (pv 10) (Aa (pv 11) Ab))))))))))))))))))))),?_⟩
    walk_at "w";refine ⟨a,rfl,⟨_,sa⟩,λ D0 hD0=> ?_⟩;refine AQ (G:=λ i=>ns.getD i 0%1000000007*((i:Int)+1)) (Hm sa rfl rfl) hD0 (by rw [List.length_map];omega) ?_ ?_
    · intro i H' R hi s kk;have b1:=Int.emod_nonneg (ns.getD i 0) (show (1000000007:Int)≠0 by decide);have b2:=Int.emod_lt_of_pos (ns.getD i 0) (show (0:Int)<1000000007 by decide);rw [Ci hi];walk_at "w";refine AM (by decide) ?_;walk_at "w";refine AM (.inl ⟨by omega,by omega⟩) ?_;exact kk H' (Same.refl _)
    intro H1 s1 hl1;walk_at "w";refine Pc (SqL.of hl1) ?_;generalize ((List.range (ns.map V.int).length).map λ i:Nat=>ns.getD i 0%1000000007*((i:Int)+1)).sum=W;walk_at "w";refine ⟨W,1,rfl,⟨by decide,by decide⟩,?_⟩;walk_at "w";refine AM (by show (0:Int)<(m:Nat);omega) ?_;walk_at "w";obtain ⟨sN,es,sN1,sN2⟩:∃ s:Nat,1+CD W 1%(m:Nat)=(s:Nat)/\1<=s/\s<=16:=by
      have h0:=Int.emod_nonneg (CD W 1) (show ((m:Nat):Int)≠0 by omega);have h1:=Int.emod_lt_of_pos (CD W 1) (show (0:Int)<(m:Nat) by omega);exact ⟨(1+CD W 1%(m:Nat)).toNat,by omega,by omega,by omega⟩
    rw [es];refine ⟨W,2,rfl,⟨by decide,by decide⟩,?_⟩;walk_at "w";refine AM (by show (0:Int)<(m:Nat);omega) ?_;walk_at "w";obtain ⟨tN,et,tN1,tN2⟩:∃ s:Nat,1+CD W 2%(m:Nat)=(s:Nat)/\1<=s/\s<=16:=by
      have h0:=Int.emod_nonneg (CD W 2) (show ((m:Nat):Int)≠0 by omega);have h1:=Int.emod_lt_of_pos (CD W 2) (show (0:Int)<(m:Nat) by omega);exact ⟨(1+CD W 2%(m:Nat)).toNat,by omega,by omega,by omega⟩
    rw [et];refine ⟨a,ns,0,rfl,s1.seq sa,hn,by decide,by decide,λ H2 pE eE s2 hpE hE lE1 lE2=> ?_⟩;walk_at "w";have s02:=s1.trans s2;refine ⟨a,ns,1,rfl,s02.seq sa,hn,by decide,by decide,λ H3 pP eP s3 hpP hP lP1 lP2=> ?_⟩;walk_at "w";have s03:=s02.trans s3;replace hE:=s3 _ _ hE;refine ⟨_,rfl,by omega,by omega,λ D4 hD4=> ?_⟩;rw [Int.toNat_natCast];refine AF (m:=1) (G:=λ i=>dL (Hj (CD W (3+(i:Int))%(2 ^ sN:Nat)).toNat sN)) (HU rfl) hD4 (by omega) ?_ ?_
    · intro i H' R hi s kk;walk_at "w";refine ⟨W,_,rfl,⟨by omega,by omega⟩,?_⟩;walk_at "w";refine AM ⟨by omega,by omega,by decide⟩ ?_;walk_at "w";refine AM (Lf sN) ?_;walk_at "w";rw [M3];exact ⟨_,sN,rfl,by omega,λ H4 p4 s4 hp4 h4=>kk H4 _ s4 (C9 h4 hp4 (by unfold Hj;rw [List.length_map];exact Nat.le_trans (List.length_filter_le _ _) (by simp;omega)))⟩
    intro H4 ys4 s4 hl4 r4;rw [FX] at r4;have s04:=s03.trans s4;replace r4:Rp H4 (FN H) 2 (.ref D4) _:=r4.imp λ a ha=>s03.free ha;replace hE:=s4 _ _ hE;replace hP:=s4 _ _ hP;generalize eTI:((List.range tN).map λ i:Nat=>Hj (CD W (3+(i:Int))%(2 ^ sN:Nat)).toNat sN)=TI at r4;have lTI:TI.length=tN:=by rw [<-eTI];simp
    have rTI:∀ l∈TI,Rise sN l:=λ l hl=>by
      rw [<-eTI] at hl;obtain ⟨i,_,rfl⟩:=List.mem_map.mp hl;exact Cf _ sN
    walk_at "w";refine ⟨pP,rfl,⟨_,SqL.of hP⟩,λ D5 hD5=> ?_⟩;refine AF (m:=1) (G:=λ i=>dL (Hj (eP.getD i 0%(2 ^ tN:Nat)).toNat tN)) (AJ (SqL.of hP) rfl) hD5 (by rw [List.length_map];omega) ?_ ?_
    · intro i H' R hi s kk;rw [Ci hi];walk_at "w";refine AM ⟨by omega,by omega,by decide⟩ ?_;walk_at "w";refine AM (Lf tN) ?_;walk_at "w";rw [M3];exact ⟨_,tN,rfl,by omega,λ H4 p4 s4 hp4 h4=>kk H4 _ s4 (C9 h4 hp4 (by unfold Hj;rw [List.length_map];exact Nat.le_trans (List.length_filter_le _ _) (by simp;omega)))⟩
    intro H5 ys5 s5 hl5 r5;rw [List.length_map,FX] at r5;have s05:=s04.trans s5;replace r5:Rp H5 (FN H) 2 (.ref D5) _:=r5.imp λ a ha=>s04.free ha;replace r4:=r4.same s5;replace hE:=s5 _ _ hE;replace hP:=s5 _ _ hP;walk_at "v";refine ifJ (λ σ' H6=>∃ v9 TD,σ'=[some (.ref a),some (nV m),some (.int W),some (nV sN),some (nV tN),some (.str "abcdefghijklmnopqrstuvwxyz"),some (.ref pE),some (.ref pP),some (.ref D4),some v9,none,none]/\Same H5 H6/\Rp H6 (FN H) 2 v9 (dLL TD)/\TD.length=eP.length/\∀ l∈TD,Rise tN l) ?_ (λ key=> ?_)
    · rintro σ' H6 ⟨v9,TD,rfl,s6,r9,lTD,rTD⟩;have s06:=s05.trans s6;replace r4:=r4.same s6;replace hE:=s6 _ _ hE;replace hP:=s6 _ _ hP;walk_at "w";refine ⟨pE,rfl,⟨_,SqL.of hE⟩,λ D7 hD7=> ?_⟩;have bm:∀ k:Int,(0:Int)<1+CD W k%26/\1+CD W k%26<=26:=λ k=>by
        have h0:=Int.emod_nonneg (CD W k) (show (26:Int)≠0 by decide);have h1:=Int.emod_lt_of_pos (CD W k) (show (0:Int)<26 by decide);omega
      have bq:∀ (x k:Int),0<=x%(1+CD W k%26)/\x%(1+CD W k%26)<26:=λ x k=>by
        have h:=bm k;have h0:=Int.emod_nonneg x (show (1+CD W k%26)≠0 by omega);have h1:=Int.emod_lt_of_pos x h.1;omega
      refine AF (m:=0) (G:=λ i=> .str (SK (eE.getD i 0 / 17%(1+CD W 41%26)))) (AJ (SqL.of hE) rfl) hD7 (by rw [List.length_map];omega) ?_ ?_
      · intro i H' R hi s kk;rw [Ci hi];walk_at "w";refine AM ⟨by decide,by decide⟩ ?_;walk_at "w";refine ⟨W,41,rfl,⟨by decide,by decide⟩,?_⟩;walk_at "w";refine AM (by decide) ?_;walk_at "w";refine AM (bm 41).1 ?_;have:=bq (eE.getD i 0 / 17) 41;refine Oo (by decide) (M0 this.1 this.2) ?_;exact kk H' _ (Same.refl _) (.str _)
      intro H7 ys7 s7 hl7 r7;rw [List.length_map,OH] at r7;have s07:=s06.trans s7;replace r7:Rp H7 (FN H) 2 (.ref D7) _:=(r7.imp λ a ha=>s06.free ha).up (by decide);replace r4:=r4.same s7;replace r9:=r9.same s7;replace hE:=s7 _ _ hE;replace hP:=s7 _ _ hP;walk_at "w";refine ⟨pP,rfl,⟨_,SqL.of hP⟩,λ D8 hD8=> ?_⟩;refine AF (m:=0) (G:=λ i=> .str (SK (eP.getD i 0 / 70000%(1+CD W 42%26)))) (AJ (SqL.of hP) rfl) hD8 (by rw [List.length_map];omega) ?_ ?_
      · intro i H' R hi s kk;rw [Ci hi];walk_at "w";refine AM ⟨by decide,by decide⟩ ?_;walk_at "w";refine ⟨W,42,rfl,⟨by decide,by decide⟩,?_⟩;walk_at "w";refine AM (by decide) ?_;walk_at "w";refine AM (bm 42).1 ?_;have:=bq (eP.getD i 0 / 70000) 42;refine Oo (by decide) (M0 this.1 this.2) ?_;exact kk H' _ (Same.refl _) (.str _)
      intro H8 ys8 s8 hl8 r8;rw [List.length_map,OH] at r8;have s08:=s07.trans s8;replace r8:Rp H8 (FN H) 2 (.ref D8) _:=(r8.imp λ a ha=>s07.free ha).up (by decide);replace r4:=r4.same s8;replace r9:=r9.same s8;replace r7:=r7.same s8;replace hE:=s8 _ _ hE;walk_at "w";refine ⟨pE,rfl,⟨_,SqL.of hE⟩,λ DA hDA=> ?_⟩;refine AF (m:=0) (G:=λ i=>dN (eE.getD i 0%((sN+1:Nat):Int)).toNat) (AJ (SqL.of hE) rfl) hDA (by rw [List.length_map];omega) ?_ ?_
      · intro i H' R hi s kk;rw [Ci hi];walk_at "w";refine AM (by show (0:Int)<_;omega) ?_;have h0:=Int.emod_nonneg (eE.getD i 0) (show ((sN:Nat):Int)+1≠0 by omega);have e:eE.getD i 0%(((sN:Nat):Int)+1)=(((eE.getD i 0%((sN+1:Nat):Int)).toNat:Nat):Int):=by
          rw [show ((sN+1:Nat):Int)=((sN:Nat):Int)+1 by omega];omega
        rw [e];exact kk H' _ (Same.refl _) (.int _)
      intro HA ysA sA hlA rA;rw [List.length_map,Tk] at rA;have s0A:=s08.trans sA;replace rA:Rp HA (FN H) 2 (.ref DA) _:=(rA.imp λ a ha=>s08.free ha).up (by decide);replace r4:=r4.same sA;replace r9:=r9.same sA;replace r7:=r7.same sA;replace r8:=r8.same sA;walk_at "w";intro p hp;have sB:=Ai (o:=HO.tup [nV sN,nV tN, .ref DA, .ref D4,v9, .ref D7, .ref D8]) hp;refine (λ z=>k _ p ⟨sN,tN,_,TI,TD,_,_⟩ (s0A.trans sB) (s0A.free hp) (DR Af (.int _) (.int _) (rA.same sB) (r4.same sB) (r9.same sB) (r7.same sB) (r8.same sB)) z (by simpa using lE2.2.2) (by show TD.length=_;omega)) ?_;exact {
        s1:=sN1,s2:=sN2,t1:=tN1,t2:=tN2
        h1:=by simpa using lE1
        h2:=by simpa using lE2.1
        hs:=λ n hn=>by
          obtain ⟨i,_,rfl⟩:=List.mem_map.mp hn;have h0:=Int.emod_nonneg (eE.getD i 0) (show ((sN+1:Nat):Int)≠0 by omega);have h1:=Int.emod_lt_of_pos (eE.getD i 0) (show (0:Int)<((sN+1:Nat):Int) by omega);show _<=sN;omega
        il:=lTI,ir:=rTI
        p1:=by show 1<=TD.length;omega
        p2:=by show TD.length<=60;omega
        pr:=rTD
        wl:=by simp
        wc:=λ z hz=>by
          obtain ⟨i,_,rfl⟩:=List.mem_map.mp hz;exact PZ (bq _ 41).1 (bq _ 41).2
        fl:=by simp [lTD]
        fc:=λ z hz=>by
          obtain ⟨i,_,rfl⟩:=List.mem_map.mp hz;exact PZ (bq _ 42).1 (bq _ 42).2 }
    · walk_at "w";refine ⟨W,40,rfl,⟨by decide,by decide⟩,?_⟩;walk_at "w";refine AM (by decide) ?_;walk_at "w";refine Gv (λ h0=> ?_) (λ h0=> ?_)
      · walk_at "w";refine ⟨pP,rfl,⟨_,SqL.of hP⟩,λ D6 hD6=> ?_⟩;refine AF (m:=1) (G:=λ i=>dL [(1+eP.getD i 0%(tN:Nat)).toNat]) (AJ (SqL.of hP) rfl) hD6 (by rw [List.length_map];omega) ?_ ?_
        · intro i H' R hi s kk;rw [Ci hi];walk_at "w";refine AM (by show (0:Int)<(tN:Nat);omega) ?_;walk_at "w";intro q hq;have h0:=Int.emod_nonneg (eP.getD i 0) (show ((tN:Nat):Int)≠0 by omega);refine kk _ _ (Ai hq) (C9 ?_ hq (by simp));rw [Af];show some (HO.lst [V.int (1+eP.getD i 0%(tN:Nat))])=some (HO.lst [V.int (((1+eP.getD i 0%(tN:Nat)).toNat:Nat):Int)]);congr 4;omega
        · intro H6 ys6 s6 hl6 r6;rw [List.length_map,FX (λ i=>[(1+eP.getD i 0%(tN:Nat)).toNat])] at r6;refine Nd ?_;refine key _ _ ⟨_,_,rfl,s6,r6.imp λ a ha=>s05.free ha,by simp,λ l hl=> ?_⟩;obtain ⟨i,_,rfl⟩:=List.mem_map.mp hl;have h0:=Int.emod_nonneg (eP.getD i 0) (show ((tN:Nat):Int)≠0 by omega);have h1:=Int.emod_lt_of_pos (eP.getD i 0) (show (0:Int)<(tN:Nat) by omega);intro j hj;have hj:j=0:=by simpa using hj
          subst hj;show 0+1<=(1+eP.getD i 0%(tN:Nat)).toNat/\(1+eP.getD i 0%(tN:Nat)).toNat<=tN;omega
      · refine Bz ?_;refine key _ _ ⟨_,_,rfl,Same.refl _,r5,by simp,λ l hl=> ?_⟩;obtain ⟨i,_,rfl⟩:=List.mem_map.mp hl;exact Cf _ tN
def Ga (c:Cs):Sp:=λ vs H Q _=>∃ v d,vs=[v]/\Rp H FT 3 v (dDr d)/\DrOk d/\∀ H' x,Same H H'->H x=none->DrAt c.Draft H' x d->Q (.ref x) H'
noncomputable abbrev ED:Stmt:=top 70
theorem sc__law_made:FnScope ["_law_due","_law_shafts","_law_treadles","_law_threading","_law_ties","_law_treading","_law_warp","_law_weft"] ["_law_due"] (Ah ED):=⟨rfl,rfl,rfl,by decide +kernel,rfl,by decide +kernel,by decide +kernel⟩
theorem J3 {f:Addr} {fd:FuncData} (F:Fun K "_law_made" "_law_made" ED f fd) (T:Txt K mg c) (c__law_copied:CallF P w K mg base "_law_copied" (4+1) ["_law_thing"] (BP 4)) (m_Draft:LI P w K mg base "Draft" c.Draft 6 ["self","shafts","treadles","threading","ties","treading","warp","weft"] (A6 c)):FnOk P w K mg base CX0 8 f fd ["_law_due"] (Ga c):=by
  refine F.ok sc__law_made (λ vs H Q E h=> ?_) (λ cdv A outer s H vs Q E hr h=> ?_)
  · obtain ⟨v,d,rfl,_⟩:=h;rfl
  · obtain ⟨v,d,rfl,rv,ok,k⟩:=h;refine ⟨_,(Ac (Ij (Ad c__law_copied (hr.mono (by decide)) (Aa (pv 0) Ab)) (JO (K:=K) rfl (AI (Az (i:=1) sc__law_made.nd rfl (Or.inl rfl)) (AI (Az (i:=2) sc__law_made.nd rfl (Or.inl rfl)) (AI (Az (i:=3) sc__law_made.nd rfl (Or.inl rfl)) (AI (Az (i:=4) sc__law_made.nd rfl (Or.inl rfl)) (AI (Az (i:=5) sc__law_made.nd rfl (Or.inl rfl)) (AI (Az (i:=6) sc__law_made.nd rfl (Or.inl rfl)) (AI (Az (i:=7) sc__law_made.nd rfl (Or.inl rfl)) FR)))))))))
      (Ag (Aj (Hd m_Draft hr (Aa (pv 1) (Aa (pv 2) (Aa (pv 3) (Aa (pv 4) (Aa (pv 5) (Aa (pv 6) (Aa (pv 7) Ab))))))))))),?_⟩
    walk_at "w";refine ⟨v,_,rfl,rv,λ H1 r s1 r1=> ?_⟩;obtain ⟨m,a,v0,v1,v2,v3,v4,v5,v6,em,rfl,ha,q0,q1,q2,q3,q4,q5,q6⟩:=Km r1;cases em;cases q0;cases q1;obtain ⟨b2,rfl,e2,_,_⟩:=Hz q2;obtain ⟨b5,rfl,e5,_,_⟩:=Hk q5;obtain ⟨b6,rfl,e6,_,_⟩:=Hk q6;walk_at "w";refine MQ (SqT.of ha) rfl ?_;walk_at "w";refine J8 ⟨_,_,_,_,_,rfl,e2,q3.any,q4.any,e5,e6⟩ ok λ H2 x s2 hx D2=> ?_;exact k H2 x (s1.trans s2) (s1.free hx) D2
noncomputable def isL (d:Dr) (p s:Nat):Bool:=(d.td.getD p []).any λ k=>decide (s∈d.ti.getD (k - 1) [])
theorem Fi {H:Hp} {F:Addr->Prop} {n:Nat} {v:V} {d:Dr} (r:Rp H F n v (dDr d)):∃ m a a2 v3 v4 a5 a6,n=m+1/\v= .ref a/\H a=some (.tup [nV d.sh,nV d.tr, .ref a2,v3,v4, .ref a5, .ref a6])/\H a2=some (.lst (d.th.map nV))/\Rp H F m v3 (dLL d.ti)/\Rp H F m v4 (dLL d.td)/\H a5=some (.lst (d.wa.map V.str))/\H a6=some (.lst (d.we.map V.str)):=by
  obtain ⟨m,a,v0,v1,v2,v3,v4,v5,v6,em,rfl,ha,q0,q1,q2,q3,q4,q5,q6⟩:=Km r;cases q0;cases q1;obtain ⟨b2,rfl,e2,_,_⟩:=Hz q2;obtain ⟨b5,rfl,e5,_,_⟩:=Hk q5;obtain ⟨b6,rfl,e6,_,_⟩:=Hk q6;exact ⟨m,a,b2,v3,v4,b5,b6,em,rfl,ha,e2,q3,q4,e5,e6⟩
theorem GL {H:Hp} {F:Addr->Prop} {n:Nat} {v:V} {ls:List (List Nat)} (r:Rp H F n v (dLL ls)):∃ a vs,v= .ref a/\H a=some (.lst vs)/\vs.length=ls.length/\vs.length<=100000/\∀ i,i<ls.length->∃ b,vs.getD i .non= .ref b/\H b=some (.lst ((ls.getD i []).map nV)):=by
  obtain ⟨m,a,vs,_,rfl,h,_,l,b,el⟩:=GC r;rw [List.length_map] at l;refine ⟨a,vs,rfl,h,l,b,λ i hi=> ?_⟩;have r:=el i (by simpa using hi);rw [AA dL ls i .non [] hi] at r;obtain ⟨b,eb,hb,_,_⟩:=Hz r;exact ⟨b,eb,hb⟩
theorem Rh {ns:List Nat} (h:∀ n∈ns,1<=n) (i:Nat):(MM.mOf ns).testBit i=decide (i+1∈ns):=by
  rw [MM.mOf_bit,Bool.eq_iff_iff,List.any_eq_true,decide_eq_true_eq];constructor
  · rintro ⟨n,hn,e⟩;have e:=of_decide_eq_true e;have:=h n hn;rw [show i+1=n by omega];exact hn
  · intro q;exact ⟨i+1,q,by simp⟩
theorem LP {α:Type} {l:List α} {f g:α->Bool} (h:∀ a∈l,f a=g a):l.any f=l.any g:=by
  induction l with
  | nil=>rfl
  | cons a l ih=>rw [List.any_cons,List.any_cons,h a (List.mem_cons_self ..),ih λ b hb=>h b (List.mem_cons_of_mem _ hb)]
theorem PD {d:Dr} (ok:DrOk d) {p:Nat} (hp:p<d.td.length) (i:Nat):(Eb d.ti (d.td.getD p [])).testBit i=isL d p (i+1):=by
  rw [Jt];unfold isL;refine LP λ k hk=> ?_;have hm:=(ok.pr _ (An (y:=[]) hp)).le k hk;have hk':k - 1<d.ti.length:=by have:=ok.il;omega
  rw [AA MM.mOf d.ti (k - 1) 0 [] hk'];exact Rh (λ n hn=>((ok.ir _ (An (y:=[]) hk')).le n hn).1) i
theorem OC {d:Dr} (ok:DrOk d) {p:Nat} (hp:p<d.td.length):isL d p 0=false:=by
  unfold isL;rw [List.any_eq_false];intro k hk;have hm:=(ok.pr _ (An (y:=[]) hp)).le k hk;have hk':k - 1<d.ti.length:=by have:=ok.il;omega
  simp only [decide_eq_true_eq];intro q;have:=((ok.ir _ (An (y:=[]) hk')).le 0 q).1;omega
theorem Qb {th:List Nat} {s l e:Nat} (hl:l<2 ^ s) (he:e<th.length):(Kl ((List.range s).map λ i=>ET th (i+1)) l).testBit e=(decide (0<th.getD e 0)&&l.testBit (th.getD e 0 - 1)):=by
  unfold Kl;rw [MM.uOf_bit,List.any_map,Bool.eq_iff_iff,List.any_eq_true];have hb:∀ k∈MM.nOf l,1<=k/\k - 1<s:=λ k hk=>by
    obtain ⟨m1,m2⟩:=(MM.nOf_mem l k).mp hk;refine ⟨m1,?_⟩;rcases Nat.lt_or_ge (k - 1) s with z | z
    · exact z
    · rw [Nat.testBit_lt_two_pow (Nat.lt_of_lt_of_le hl (Nat.pow_le_pow_right (by decide) z))] at m2;cases m2
  have hv:∀ k∈MM.nOf l,(((List.range s).map λ i=>ET th (i+1)).getD (k - 1) 0).testBit e=decide (th.getD e 0=k):=λ k hk=>by
    have h:=hb k hk;rw [EK (λ i=>ET th (i+1)) h.2];unfold ET;rw [MM.ofB_bit,show k - 1+1=k by omega];simp [he]
  constructor
  · rintro ⟨k,hk,q⟩;have q:(((List.range s).map λ i=>ET th (i+1)).getD (k - 1) 0).testBit e=true:=q;rw [hv k hk] at q;have q:=of_decide_eq_true q;obtain ⟨m1,m2⟩:=(MM.nOf_mem l k).mp hk;rw [q,decide_eq_true (by omega),m2];rfl
  · intro q;simp only [Bool.and_eq_true,decide_eq_true_eq] at q;have hk:th.getD e 0∈MM.nOf l:=(MM.nOf_mem l _).mpr ⟨q.1,q.2⟩;refine ⟨_,hk,?_⟩;show (((List.range s).map λ i=>ET th (i+1)).getD (th.getD e 0 - 1) 0).testBit e=true;rw [hv _ hk];simp
theorem Ki {d:Dr} (ok:DrOk d) {p e:Nat} (hp:p<d.td.length) (he:e<d.th.length):((F5 d).getD p 0).testBit e=isL d p (d.th.getD e 0):=by
  unfold F5;rw [AA (λ ks=>Kl ((List.range d.sh).map λ i=>ET d.th (i+1)) (Eb d.ti ks)) d.td p 0 [] hp,Qb (HV ok _) he];by_cases h:0<d.th.getD e 0
  · rw [PD ok hp,show d.th.getD e 0 - 1+1=d.th.getD e 0 by omega,decide_eq_true h];rfl
  · rw [decide_eq_false h,show d.th.getD e 0=0 by omega,OC ok hp];rfl
noncomputable def pK:List Key:=[.inr "shafts", .inr "treadles", .inr "threading", .inr "ties", .inr "treading", .inr "warp", .inr "weft"]
structure Turns (H:Hp) (d:Dr) (more:List (Key × V)) (d':Dr):Prop where
  few:more.length<=15
  to:∀ (H1:Hp) (w0 w1 w2 w3 w4 w5 w6:V),Same H H1->Parts H1 d [w0,w1,w2,w3,w4,w5,w6]->∃ u0 u1 u2 u3 u4 u5 u6,Parts H1 d' [u0,u1,u2,u3,u4,u5,u6]/\
    ∀ j u,[u0,u1,u2,u3,u4,u5,u6][j]?=some u->HS (AK (AK [] (pK.zip [w0,w1,w2,w3,w4,w5,w6])) more) (pK.getD j (.inr ""))=some u
def Bq (c:Cs):Sp:=λ vs H Q _=>∃ x d b more d',vs=[.ref x, .ref b]/\DrAt c.Draft H x d/\DrOk d/\H b=some (.dK more)/\Turns H d more d'/\DrOk d'/\∀ H' y,Same H H'->H y=none->DrAt c.Draft H' y d'->Q (.ref y) H'
noncomputable abbrev Ck:Stmt:=top 29
theorem sc_changed_draft:FnScope ["draft","changes","parts"] ["draft","changes"] (Ah Ck):=⟨rfl,rfl,rfl,by decide +kernel,rfl,by decide +kernel,by decide +kernel⟩
theorem GH {f:Addr} {fd:FuncData} (F:Fun K "changed_draft" "changed_draft" Ck f fd) (T:Txt K mg c) (d_Draft_told:Bu P w K mg base c.Draft "told" 1 ["self"] (Cd c)) (m_Draft:LI P w K mg base "Draft" c.Draft 6 ["self","shafts","treadles","threading","ties","treading","warp","weft"] (A6 c)):FnOk P w K mg base CX0 8 f fd ["draft","changes"] (Bq c):=by
  refine F.ok sc_changed_draft (λ vs H Q E h=> ?_) (λ cdv A outer s H vs Q E hr h=> ?_)
  · obtain ⟨x,d,b,more,d',rfl,_⟩:=h;rfl
  · obtain ⟨x,d,b,more,d',rfl,cx,ok,hb,tu,ok',k⟩:=h;obtain ⟨dx,v1,v2,v3,v4,v5,hx,_⟩:=id cx;have hu1:=hr.units1;have few:=tu.few;refine ⟨_,(Ac (Ay (i:=2) sc_changed_draft.nd rfl (Or.inl rfl) (L9 (K:=K) rfl (T.own _ (by decide)) rfl (T.own _ (by decide)) (Aa (Bv T.g_PARTS) (Aa (AW (pv 0) d_Draft_told (hr.mono (by decide))) Ab))))
      (Ac (AZ (RZ (K:=K) PySem.F.plainAttrs_dict PySem.F.slot_dict_update PySem.F.type_dict_update N7 (pv 2) (Aa (pv 1) Ab)))
      (Ag (Aj (Hd m_Draft hr (Aa (DV hu1 (pv 2) As (λ _ _=>rfl)) (Aa (DV hu1 (pv 2) As (λ _ _=>rfl)) (Aa (DV hu1 (pv 2) As (λ _ _=>rfl)) (Aa (DV hu1 (pv 2) As (λ _ _=>rfl)) (Aa (DV hu1 (pv 2) As (λ _ _=>rfl)) (Aa (DV hu1 (pv 2) As (λ _ _=>rfl)) (Aa (DV hu1 (pv 2) As (λ _ _=>rfl)) Ab)))))))))))),?_⟩
    walk_at "w";refine Mr ?_;walk_at "w";refine ⟨_,_,_,rfl,hx,rfl,?_⟩;walk_at "w";refine ⟨x,d,rfl,cx,λ H1 p s1 hp r1=> ?_⟩;obtain ⟨m,a,w0,w1,w2,w3,w4,w5,w6,em,ep,ha,q0,q1,q2,q3,q4,q5,q6⟩:=Km r1;cases em;cases ep;walk_at "w";refine ⟨true,true,c.PARTS,p,pK,[w0,w1,w2,w3,w4,w5,w6],rfl,T.t_PARTS _,SqT.of ha,rfl,by decide,λ H2 D s2 hD gD=> ?_⟩;cases q0;cases q1;obtain ⟨b2,rfl,e2,_,_⟩:=Hz q2;obtain ⟨b5,rfl,e5,_,_⟩:=Hk q5;obtain ⟨b6,rfl,e6,_,_⟩:=Hk q6;have P1:Parts H1 d [nV d.sh,nV d.tr, .ref b2,w3,w4, .ref b5, .ref b6]:=⟨_,_,_,_,_,rfl,e2,q3.any,q4.any,e5,e6⟩;obtain ⟨u0,u1,u2,u3,u4,u5,u6,P2,val⟩:=tu.to H1 _ _ _ _ _ _ _ s1 P1;have hb2:=s2 _ _ (s1 _ _ hb);have nDb:D≠b:=λ z=>by
      have:=s1 _ _ hb;rw [<-z,hD] at this;cases this
    walk_at "w";refine ⟨.inr (.inr (.inl ⟨rfl, .inl ⟨_,gD⟩⟩)),?_⟩;walk_at "w";refine S1 nDb gD hb2 (Nat.le_trans (Nat.add_le_add_right (Nat.le_trans (Bx _ []) (show _<=7 by simp [pK])) _) (by omega)) ?_;have s3:Same H1 (upd H2 D (.dK (AK (AK [] (pK.zip [nV d.sh,nV d.tr, .ref b2,w3,w4, .ref b5, .ref b6])) more))):=λ q o e=>by
      rw [Al (Ap e hD)];exact s2 _ _ e
    have g3:upd H2 D (.dK (AK (AK [] (pK.zip [nV d.sh,nV d.tr, .ref b2,w3,w4, .ref b5, .ref b6])) more)) D=_:=Af;generalize upd H2 D (.dK (AK (AK [] (pK.zip [nV d.sh,nV d.tr, .ref b2,w3,w4, .ref b5, .ref b6])) more))=H3 at s3 g3 ⊢;have get:∀ j u,[u0,u1,u2,u3,u4,u5,u6][j]?=some u->DGet H3 D (kV (pK.getD j (.inr ""))) (some u):=λ j u e=>by
      rw [<-val j u e];exact DGet.k g3
    walk_at "w";refine ⟨D,u0,rfl,get 0 u0 rfl,?_⟩;walk_at "w";refine ⟨D,u1,rfl,get 1 u1 rfl,?_⟩;walk_at "w";refine ⟨D,u2,rfl,get 2 u2 rfl,?_⟩;walk_at "w";refine ⟨D,u3,rfl,get 3 u3 rfl,?_⟩;walk_at "w";refine ⟨D,u4,rfl,get 4 u4 rfl,?_⟩;walk_at "w";refine ⟨D,u5,rfl,get 5 u5 rfl,?_⟩;walk_at "w";refine ⟨D,u6,rfl,get 6 u6 rfl,?_⟩;walk_at "w";refine J8 (P2.same s3) ok' λ H4 y s4 hy D4=> ?_;exact k H4 y (s1.trans (s3.trans s4)) (s1.free (s3.free hy)) D4
noncomputable def MK (rs:List Nat) (e:Nat):Nat:=MM.ofB (λ p=>(rs.getD p 0).testBit (e - 1)) rs.length
def CB (c:Cs):Sp:=λ vs H Q _=>∃ x n rs,∃ e:Nat,vs=[.ref x,nV e]/\ClAt c.Cloth H x n rs/\rs.length<=60/\1<=e/\e<=60/\∀ H',Same H H'->Q (nV (MK rs e)) H'
theorem Qc (f:Nat->Bool) (w:Nat):MM.mOf (((List.range w).filter f).map (· + 1))=MM.ofB f w:=by
  refine Nat.eq_of_testBit_eq λ i=> ?_;rw [MM.mOf_bit,MM.ofB_bit,Bool.eq_iff_iff,List.any_eq_true];constructor
  · rintro ⟨n,hn,e⟩;obtain ⟨k,hk,rfl⟩:=List.mem_map.mp hn;obtain ⟨h1,h2⟩:=List.mem_filter.mp hk;have e:k+1 - 1=i:=of_decide_eq_true e;have e:k=i:=by omega
    subst e;simp [List.mem_range.mp h1,h2]
  · intro h;simp only [Bool.and_eq_true,decide_eq_true_eq] at h;exact ⟨i+1,List.mem_map.mpr ⟨i,List.mem_filter.mpr ⟨List.mem_range.mpr h.1,h.2⟩,rfl⟩,by simp⟩
noncomputable abbrev BU:Stmt:=AD (top 49) 5
theorem Fk:FnScope ["self","end"] ["self","end"] (Ah BU):=⟨rfl,rfl,rfl,by decide +kernel,rfl,by decide +kernel,by decide +kernel⟩
theorem Fq {f:Addr} {fd:FuncData} (F:Fun K "column_at" "Cloth.column_at" BU f fd) (T:Txt K mg c) (c_mask_of:CallF P w K mg base "mask_of" 2 ["numbers"] (CK K)) (c_has_number:CallF P w K mg base "has_number" 2 ["mask","number"] B8):FnOk P w K mg base CX0 3 f fd ["self","end"] (CB c):=by
  refine F.ok Fk (λ vs H Q E h=> ?_) (λ cdv A outer s H vs Q E hr h=> ?_)
  · obtain ⟨x,n,rs,e,rfl,_⟩:=h;rfl
  · obtain ⟨x,n,rs,e,rfl,⟨dx,t,h1,h2⟩,hl,e1,e2,k⟩:=h;refine ⟨_,(Ag (Aj (Ad c_mask_of hr (Aa (Dc (K:=K) (EC (K:=K) rfl (T.own _ (by decide)) (Aa (AN (K:=K) (pv 0) rfl) Ab)) (λ _ _ _ _=>(BH (Ba (Ad c_has_number hr (Aa (pv 1) (Aa (pv 2) Ab)))))) (λ _ _ _ _=>(pv 0))) Ab)))),?_⟩;walk_at "w";refine ⟨_,_,_,_,_,rfl,h1,T.kd_Cloth.cl,T.na_Cloth_rows,rfl,?_⟩;walk_at "w";refine ⟨true,t,rfl,⟨_,SqT.of h2⟩,λ D hD=> ?_⟩;refine A9 (p:=λ i=>(rs.getD i 0).testBit (e - 1)) (G:=λ i=>((i+1:Nat):Int)) (GG (tp:=true) (SqT.of h2) rfl rfl) hD (by rw [List.length_map];omega) ?_ ?_ ?_
    · intro i H' R hi s kk;rw [AS hi];walk_at "w";refine ⟨rs.getD i 0,e,rfl,e1,by omega,?_⟩;exact ⟨_,rfl,kk H' (Same.refl _)⟩
    · intro i H' R hi hp s kk;walk_at "w";exact kk H' (Same.refl _)
    · intro H' s hl2;walk_at "w";have e:((((List.range (rs.map nV).length).filter λ i=>(rs.getD i 0).testBit (e - 1)).map λ i=>((i+1:Nat):Int)).map V.int)=(((List.range rs.length).filter λ i=>(rs.getD i 0).testBit (e - 1)).map (· + 1)).map nV:=by
        rw [List.length_map,List.map_map,List.map_map];rfl
      rw [e] at hl2;refine ⟨false,D,_,rfl,SqL.of hl2,λ n hn=> ?_,λ H2 s2=> ?_⟩
      · obtain ⟨j,hj,rfl⟩:=List.mem_map.mp hn;have:=List.mem_range.mp (List.mem_filter.mp hj).1;omega
      · rw [Qc];exact k H2 (s.trans s2)
theorem Jq (n:Nat) (G:Nat->Nat):((List.range n).map λ i=>((G i:Nat):Int)).map V.int=((List.range n).map G).map nV:=by
  rw [List.map_map,List.map_map];rfl
noncomputable def IB (rs:List Nat) (p e:Nat):Bool:=(rs.getD p 0).testBit e
noncomputable def mkR (N P:Nat) (f:Nat->Nat->Bool):List Nat:=(List.range P).map λ p=>MM.ofB (f p) N
theorem Kh {N P:Nat} {f:Nat->Nat->Bool}:(mkR N P f).length=P:=by unfold mkR;simp
theorem EN {N P:Nat} {f g:Nat->Nat->Bool} (h:∀ p e,p<P->e<N->f p e=g p e):mkR N P f=mkR N P g:=by
  unfold mkR;exact List.map_congr_left λ p hp=>MM.ofB_congr λ e he=>h p e (List.mem_range.mp hp) he
theorem HF {N P:Nat} {f:Nat->Nat->Bool} {rs:List Nat} (l:rs.length=P) (h:∀ p,p<P->rs.getD p 0=MM.ofB (f p) N):rs=mkR N P f:=by
  refine List.ext_getElem (by rw [l,Kh]) λ p h1 h2=> ?_;have:=h p (by omega);rw [List.getD_eq_getElem?_getD,List.getElem?_eq_getElem h1] at this;have e:rs[p]=MM.ofB (f p) N:=this;have e2:(mkR N P f)[p]=MM.ofB (f p) N:=by simp [mkR]
  rw [e,e2]
theorem J1 {N P:Nat} {f:Nat->Nat->Bool} (h1:1<=N) (h2:N<=60) (h3:1<=P) (h4:P<=60):ClOk N (mkR N P f) where
  n1:=h1
  n2:=h2
  p1:=by rw [Kh];exact h3
  p2:=by rw [Kh];exact h4
  lt:=λ r hr=>by
    unfold mkR at hr;obtain ⟨p,_,rfl⟩:=List.mem_map.mp hr;exact MM.ofB_lt _ _
noncomputable def tw (w n:Nat) (rs:List Nat):Nat × List Nat:=
  if w=0 then (n,mkR n rs.length λ p e=>IB rs p (n - 1 - e))
  else if w=1 then (n,mkR n rs.length λ p e=>IB rs (rs.length - 1 - p) e)
  else if w=2 then (n,mkR n rs.length λ p e=> !IB rs p e)
  else (rs.length,mkR rs.length n λ p e=> !IB rs e p)
theorem tw0 (n:Nat) (rs:List Nat):tw 0 n rs=(n,mkR n rs.length λ p e=>IB rs p (n - 1 - e)):=rfl
theorem tw1 (n:Nat) (rs:List Nat):tw 1 n rs=(n,mkR n rs.length λ p e=>IB rs (rs.length - 1 - p) e):=rfl
theorem tw2 (n:Nat) (rs:List Nat):tw 2 n rs=(n,mkR n rs.length λ p e=> !IB rs p e):=rfl
theorem tw3 (n:Nat) (rs:List Nat):tw 3 n rs=(rs.length,mkR rs.length n λ p e=> !IB rs e p):=rfl
theorem lt4 {w:Nat} (h:w<4):w=0\/w=1\/w=2\/w=3:=by omega
theorem Mz {w n:Nat} {rs:List Nat} (hw:w<4) (ok:ClOk n rs):ClOk (tw w n rs).1 (tw w n rs).2:=by
  have:=ok.n1;have:=ok.n2;have:=ok.p1;have:=ok.p2;rcases lt4 hw with rfl | rfl | rfl | rfl
  · rw [tw0];exact J1 (by omega) (by omega) (by omega) (by omega)
  · rw [tw1];exact J1 (by omega) (by omega) (by omega) (by omega)
  · rw [tw2];exact J1 (by omega) (by omega) (by omega) (by omega)
  · rw [tw3];exact J1 (by omega) (by omega) (by omega) (by omega)
def Cb (c:Cs) (w:Nat):Sp:=λ vs H Q _=>∃ x n rs,vs=[.ref x]/\ClAt c.Cloth H x n rs/\ClOk n rs/\∀ H' y,Same H H'->H y=none->ClAt c.Cloth H' y (tw w n rs).1 (tw w n rs).2->Q (.ref y) H'
theorem Tm {n:Nat} {rs:List Nat} (ok:ClOk n rs):((List.range rs.length).map λ i=>MM.tOf (rs.getD i 0) n)=(tw 0 n rs).2:=by
  rw [tw0];refine HF (by simp) λ p hp=> ?_;rw [EK _ hp];have lt:=ok.lt _ (An (y:=0) hp);exact MM.eq_ofB (MM.tOf_lt lt) λ i hi=>MM.tOf_bit lt hi
theorem TY {n:Nat} {rs:List Nat} (ok:ClOk n rs):((List.range rs.length).map λ i=>(2 ^ n - 1) ^^^ rs.getD i 0)=(tw 2 n rs).2:=by
  rw [tw2];refine HF (by simp) λ p hp=> ?_;rw [EK _ hp];have lt:=ok.lt _ (An (y:=0) hp);exact MM.eq_ofB (MM.other_lt lt) λ i hi=>MM.other_bit hi
theorem TK {n:Nat} {rs:List Nat} (ok:ClOk n rs):rs.reverse=(tw 1 n rs).2:=by
  rw [tw1];refine HF (by simp) λ p hp=> ?_;have e:rs.reverse.getD p 0=rs.getD (rs.length - 1 - p) 0:=by
    rw [List.getD_eq_getElem?_getD,List.getD_eq_getElem?_getD,List.getElem?_reverse hp]
  rw [e];exact (MM.ofB_self _ _ (ok.lt _ (An (by omega)))).symm
theorem Su {n:Nat} {rs:List Nat} (ok:ClOk n rs):((List.range n).map λ i=>(2 ^ rs.length - 1) ^^^ MK rs (i+1))=(tw 3 n rs).2:=by
  rw [tw3];refine HF (by simp) λ p hp=> ?_;rw [EK _ hp];refine MM.eq_ofB (MM.other_lt (MM.ofB_lt _ _)) λ i hi=> ?_;rw [MM.other_bit hi];unfold MK IB;rw [MM.ofB_bit];simp [hi]
noncomputable abbrev Ft:Stmt:=top 51
theorem KS:FnScope ["cloth"] ["cloth"] (Ah Ft):=⟨rfl,rfl,rfl,by decide +kernel,rfl,by decide +kernel,by decide +kernel⟩
theorem KR {f:Addr} {fd:FuncData} (F:Fun K "mirrored" "mirrored" Ft f fd) (T:Txt K mg c) (m_Cloth:Hu P w K mg base "Cloth" c.Cloth 4 ["self","ends","rows"] (AL K c)) (d_Cloth_ends:Bu P w K mg base c.Cloth "ends" 1 ["self"] (By c)) (c_turned_mask:CallF P w K mg base "turned_mask" 4 ["mask","most"] Ev):FnOk P w K mg base CX0 6 f fd ["cloth"] (Cb c 0):=by
  refine F.ok KS (λ vs H Q E h=> ?_) (λ cdv A outer s H vs Q E hr h=> ?_)
  · obtain ⟨x,n,rs,rfl,_⟩:=h;rfl
  · obtain ⟨x,n,rs,rfl,C0,ok,k⟩:=h;have C1:=C0;obtain ⟨dx,t,h1,h2⟩:=C0;have n2:=ok.n2;have p2:=ok.p2;refine ⟨_,(Ag (Aj (EH m_Cloth hr GN (Aa (AW (pv 0) d_Cloth_ends (hr.mono (by decide))) (Aa (At (Fd (K:=K) (AN (K:=K) (pv 0) rfl)) (λ _ _ _ _=>Ao) (λ _ _ _ _=>(Ad c_turned_mask (hr.mono (by decide)) (Aa (pv 0) (Aa (AW (pv 1) d_Cloth_ends (hr.mono (by decide))) Ab))))) Ab))))),?_⟩;walk_at "w";refine ⟨_,_,_,rfl,h1,rfl,?_⟩;walk_at "w";refine ⟨x,n,rs,rfl,C1,?_⟩;walk_at "w";refine ⟨_,_,_,_,_,rfl,h1,T.kd_Cloth.cl,T.na_Cloth_rows,rfl,?_⟩;walk_at "w";refine ⟨t,rfl,⟨_,SqT.of h2⟩,λ D hD=> ?_⟩;refine AQ (G:=λ i=>((MM.tOf (rs.getD i 0) n:Nat):Int)) (B9 (SqT.of h2) rfl) hD (by rw [List.length_map];omega) ?_ ?_
    · intro i H' R hi s kk;have hi':i<rs.length:=by simpa using hi
      rw [AS hi];walk_at "w";refine ⟨_,_,_,rfl,s _ _ h1,rfl,?_⟩;walk_at "w";refine ⟨x,n,rs,rfl,C1.same s,?_⟩;walk_at "w";exact ⟨_,n,rfl,by omega,ok.lt _ (An hi'),kk⟩
    · intro H1 s1 hl1;rw [Jq,List.length_map,Tm ok] at hl1;walk_at "w";refine F9 hl1 (Mz (w:=0) (by decide) ok) λ H2 y s2 hy C2=> ?_;exact k H2 y (s1.trans s2) (s1.free hy) C2
noncomputable abbrev Gi:Stmt:=top 52
theorem LM:FnScope ["cloth"] ["cloth"] (Ah Gi):=⟨rfl,rfl,rfl,by decide +kernel,rfl,by decide +kernel,by decide +kernel⟩
theorem Ms {f:Addr} {fd:FuncData} (F:Fun K "upended" "upended" Gi f fd) (T:Txt K mg c) (m_Cloth:Hu P w K mg base "Cloth" c.Cloth 4 ["self","ends","rows"] (AL K c)) (d_Cloth_ends:Bu P w K mg base c.Cloth "ends" 1 ["self"] (By c)):FnOk P w K mg base CX0 6 f fd ["cloth"] (Cb c 1):=by
  refine F.ok LM (λ vs H Q E h=> ?_) (λ cdv A outer s H vs Q E hr h=> ?_)
  · obtain ⟨x,n,rs,rfl,_⟩:=h;rfl
  · obtain ⟨x,n,rs,rfl,C0,ok,k⟩:=h;have C1:=C0;obtain ⟨dx,t,h1,h2⟩:=C0;refine ⟨_,(Ag (Aj (EH m_Cloth hr GN (Aa (AW (pv 0) d_Cloth_ends (hr.mono (by decide))) (Aa (CP (K:=K) rfl (T.own _ (by decide)) rfl (T.own _ (by decide)) (Aa (AN (K:=K) (pv 0) rfl) Ab)) Ab))))),?_⟩;walk_at "w";refine ⟨_,_,_,rfl,h1,rfl,?_⟩;walk_at "w";refine ⟨x,n,rs,rfl,C1,?_⟩;walk_at "w";refine ⟨_,_,_,_,_,rfl,h1,T.kd_Cloth.cl,T.na_Cloth_rows,rfl,?_⟩;walk_at "w";refine ⟨t,_,rfl,SqT.of h2,λ l hl=> ?_⟩;walk_at "w";rw [<-List.map_reverse,TK ok];have s1:=Ai (o:=HO.lst ((tw 1 n rs).2.map nV)) hl;refine F9 Af (Mz (w:=1) (by decide) ok) λ H2 y s2 hy C2=> ?_;exact k H2 y (s1.trans s2) (s1.free hy) C2
noncomputable abbrev Fn:Stmt:=top 53
theorem Lo:FnScope ["cloth"] ["cloth"] (Ah Fn):=⟨rfl,rfl,rfl,by decide +kernel,rfl,by decide +kernel,by decide +kernel⟩
theorem K5 {f:Addr} {fd:FuncData} (F:Fun K "inverted" "inverted" Fn f fd) (T:Txt K mg c) (m_Cloth:Hu P w K mg base "Cloth" c.Cloth 4 ["self","ends","rows"] (AL K c)) (d_Cloth_ends:Bu P w K mg base c.Cloth "ends" 1 ["self"] (By c)) (c_other_mask:CallF P w K mg base "other_mask" 2 ["mask","most"] CW):FnOk P w K mg base CX0 6 f fd ["cloth"] (Cb c 2):=by
  refine F.ok Lo (λ vs H Q E h=> ?_) (λ cdv A outer s H vs Q E hr h=> ?_)
  · obtain ⟨x,n,rs,rfl,_⟩:=h;rfl
  · obtain ⟨x,n,rs,rfl,C0,ok,k⟩:=h;have C1:=C0;obtain ⟨dx,t,h1,h2⟩:=C0;have n2:=ok.n2;have p2:=ok.p2;refine ⟨_,(Ag (Aj (EH m_Cloth hr GN (Aa (AW (pv 0) d_Cloth_ends (hr.mono (by decide))) (Aa (At (Fd (K:=K) (AN (K:=K) (pv 0) rfl)) (λ _ _ _ _=>Ao) (λ _ _ _ _=>(Ad c_other_mask (hr.mono (by decide)) (Aa (pv 0) (Aa (AW (pv 1) d_Cloth_ends (hr.mono (by decide))) Ab))))) Ab))))),?_⟩;walk_at "w";refine ⟨_,_,_,rfl,h1,rfl,?_⟩;walk_at "w";refine ⟨x,n,rs,rfl,C1,?_⟩;walk_at "w";refine ⟨_,_,_,_,_,rfl,h1,T.kd_Cloth.cl,T.na_Cloth_rows,rfl,?_⟩;walk_at "w";refine ⟨t,rfl,⟨_,SqT.of h2⟩,λ D hD=> ?_⟩;refine AQ (G:=λ i=>(((2 ^ n - 1) ^^^ rs.getD i 0:Nat):Int)) (B9 (SqT.of h2) rfl) hD (by rw [List.length_map];omega) ?_ ?_
    · intro i H' R hi s kk;rw [AS hi];walk_at "w";refine ⟨_,_,_,rfl,s _ _ h1,rfl,?_⟩;walk_at "w";refine ⟨x,n,rs,rfl,C1.same s,?_⟩;walk_at "w";exact ⟨_,n,rfl,by omega,kk H' (Same.refl _)⟩
    · intro H1 s1 hl1;rw [Jq,List.length_map,TY ok] at hl1;walk_at "w";refine F9 hl1 (Mz (w:=2) (by decide) ok) λ H2 y s2 hy C2=> ?_;exact k H2 y (s1.trans s2) (s1.free hy) C2
noncomputable abbrev Eh:Stmt:=top 54
theorem sc_quartered:FnScope ["cloth","picks"] ["cloth"] (Ah Eh):=⟨rfl,rfl,rfl,by decide +kernel,rfl,by decide +kernel,by decide +kernel⟩
theorem Ka {f:Addr} {fd:FuncData} (F:Fun K "quartered" "quartered" Eh f fd) (T:Txt K mg c) (m_Cloth:Hu P w K mg base "Cloth" c.Cloth 4 ["self","ends","rows"] (AL K c)) (d_Cloth_ends:Bu P w K mg base c.Cloth "ends" 1 ["self"] (By c)) (d_Cloth_picks:Bu P w K mg base c.Cloth "picks" 1 ["self"] (Et c)) (d_Cloth_column_at:Bu P w K mg base c.Cloth "column_at" 3 ["self","end"] (CB c)) (c_other_mask:CallF P w K mg base "other_mask" 2 ["mask","most"] CW):FnOk P w K mg base CX0 6 f fd ["cloth"] (Cb c 3):=by
  refine F.ok sc_quartered (λ vs H Q E h=> ?_) (λ cdv A outer s H vs Q E hr h=> ?_)
  · obtain ⟨x,n,rs,rfl,_⟩:=h;rfl
  · obtain ⟨x,n,rs,rfl,C0,ok,k⟩:=h;have C1:=C0;obtain ⟨dx,t,h1,h2⟩:=C0;have n2:=ok.n2;have p2:=ok.p2;refine ⟨_,(Ac (Ay (i:=1) sc_quartered.nd rfl (Or.inr rfl) (AW (pv 0) d_Cloth_picks (hr.mono (by decide))))
      (Ag (Aj (EH m_Cloth hr GN (Aa (pv 1) (Aa (At (BG rfl (T.own _ (by decide)) (Aa Ae (Aa (Am AR (AW (pv 0) d_Cloth_ends (hr.mono (by decide))) Ae) Ab))) (λ _ _ _ _=>Ao) (λ _ _ _ _=>(Ad c_other_mask (hr.mono (by decide)) (Aa (Lb (pv 1) d_Cloth_column_at (hr.mono (by decide)) (Aa (pv 0) Ab)) (Aa (pv 2) Ab))))) Ab)))))),?_⟩
    walk_at "w";refine ⟨_,_,_,rfl,h1,rfl,?_⟩;walk_at "w";refine ⟨x,n,rs,rfl,C1,?_⟩;walk_at "w";refine ⟨_,_,_,rfl,h1,rfl,?_⟩;walk_at "w";refine ⟨x,n,rs,rfl,C1,?_⟩;walk_at "w";refine ⟨_,_,rfl,⟨by decide,by decide,by omega,by omega⟩,λ D hD=> ?_⟩;rw [show ((n:Int)+1 - 1).toNat=n by omega];refine AQ (G:=λ i=>(((2 ^ rs.length - 1) ^^^ MK rs (i+1):Nat):Int)) (BE rfl) hD (by omega) ?_ ?_
    · intro i H' R hi s kk;rw [show (1:Int)+(i:Nat)=((i+1:Nat):Int) by omega];walk_at "w";refine ⟨_,_,_,rfl,s _ _ h1,rfl,?_⟩;walk_at "w";refine ⟨x,n,rs,i+1,rfl,C1.same s,p2,by omega,by omega,λ H2 s2=> ?_⟩;walk_at "w";exact ⟨_,rs.length,rfl,by omega,kk H2 s2⟩
    · intro H1 s1 hl1;rw [Jq,Su ok] at hl1;walk_at "w";refine F9 hl1 (Mz (w:=3) (by decide) ok) λ H2 y s2 hy C2=> ?_;exact k H2 y (s1.trans s2) (s1.free hy) C2
noncomputable def Cl (lo hi:Nat) (ns:List Nat):List Nat:=((List.range (hi+1 - lo)).map (lo+ ·)).filter λ s=> !decide (s∈ns)
theorem EM {H:Hp} {Q:VK} {tp:Bool} {p:Addr} {s:Nat} {ns:List Nat} (c:SqS tp K H p (ns.map nV)) (h:Q (.bl (!decide (s∈ns))) H):rIn K true (nV s) (.ref p) H Q:=by
  refine ⟨p,_,rfl,?_,rfl,LG ns,by rw [MZ];exact h⟩;cases tp with
  | false=>exact .inl c
  | true=>exact .inr c
def E9 (K:PySem.W.Frag):Sp:=λ vs H Q _=>∃ tp a,∃ ns:List Nat,∃ lo hi:Nat,vs=[.ref a,nV lo,nV hi]/\SqS tp K H a (ns.map nV)/\lo<=1/\hi<=16/\∀ H' p,Same H H'->H p=none->H' p=some (.lst ((Cl lo hi ns).map nV))->Q (.ref p) H'
noncomputable abbrev DH:Stmt:=top 30
theorem Iw:FnScope ["left_out","least","most"] ["left_out","least","most"] (Ah DH):=⟨rfl,rfl,rfl,by decide +kernel,rfl,by decide +kernel,by decide +kernel⟩
theorem ID {f:Addr} {fd:FuncData} (F:Fun K "shafts_but" "shafts_but" DH f fd) (T:Txt K mg c):FnOk P w K mg base CX0 1 f fd ["left_out","least","most"] (E9 K):=by
  refine F.ok Iw (λ vs H Q E h=> ?_) (λ cdv A outer s H vs Q E hr h=> ?_)
  · obtain ⟨tp,a,ns,lo,hi,rfl,_⟩:=h;rfl
  · obtain ⟨tp,a,ns,lo,hi,rfl,sa,h1,h2,k⟩:=h;refine ⟨_,(Ag (Aj (At (BG rfl (T.own _ (by decide)) (Aa (pv 1) (Aa (Am AR (pv 2) Ae) Ab))) (λ _ _ _ _=>(BH (Av (Hb (K:=K)) (pv 0) (pv 1) (by with_unfolding_all rfl)))) (λ _ _ _ _=>(pv 0))))),?_⟩;walk_at "w";refine ⟨_,_,rfl,⟨by omega,by omega,by omega,by omega⟩,λ D hD=> ?_⟩;rw [show (((hi:Nat):Int)+1 - (lo:Nat)).toNat=hi+1 - lo by omega];refine A9 (p:=λ i=> !decide (lo+i∈ns)) (G:=λ i=>((lo+i:Nat):Int)) (BE rfl) hD (by omega) ?_ ?_ ?_
    · intro i H' R hi' s kk;rw [show ((lo:Nat):Int)+(i:Nat)=((lo+i:Nat):Int) by omega];walk_at "w";refine EM (tp:=tp) (SqS.same sa s) ?_;exact ⟨_,rfl,kk H' (Same.refl _)⟩
    · intro i H' R hi' hp s kk;rw [show ((lo:Nat):Int)+(i:Nat)=((lo+i:Nat):Int) by omega];walk_at "w";exact kk H' (Same.refl _)
    · intro H' s hl;refine k H' D s hD ?_;rw [hl];unfold Cl;rw [List.filter_map,List.map_map,List.map_map];rfl
theorem HN (m:Nat) (ns:List Nat):Rise m (Cl 1 m ns):=by
  have:=Cf (λ s=> !decide (s+1∈ns)) m;unfold Cl;rw [Nat.add_sub_cancel,List.filter_map];have e:((List.range m).filter ((λ s=> !decide (s∈ns))∘(1+ ·))).map (1+ ·)=((List.range m).filter λ s=> !decide (s+1∈ns)).map (· + 1):=by
    have e1:((λ s=> !decide (s∈ns))∘(1+ ·))=λ s=> !decide (s+1∈ns):=funext λ s=>by show (!decide (1+s∈ns))=_;rw [Nat.add_comm]
    rw [e1];exact List.map_congr_left λ s _=>Nat.add_comm 1 s
  rw [e];exact this
noncomputable def KC (d:Dr):Dr:={ d with th:=d.th.reverse,wa:=d.wa.reverse }
noncomputable def K7 (d:Dr):Dr:={ d with td:=d.td.reverse,we:=d.we.reverse }
noncomputable def Gp (d:Dr):Dr:={ d with ti:=d.ti.map (Cl 1 d.sh) }
noncomputable def GI (d:Dr):Dr:=⟨d.tr,d.sh,d.td.map (·.getD 0 0),(List.range d.sh).map λ s=>((List.range d.tr).filter λ t=> !decide (s+1∈d.ti.getD t [])).map (· + 1),d.th.map λ s=>[s],d.we,d.wa⟩
theorem MU {d:Dr} (ok:DrOk d):DrOk (KC d) where
  s1:=ok.s1
  s2:=ok.s2
  t1:=ok.t1
  t2:=ok.t2
  h1:=by show 1<=d.th.reverse.length;rw [List.length_reverse];exact ok.h1
  h2:=by show d.th.reverse.length<=60;rw [List.length_reverse];exact ok.h2
  hs:=λ n hn=>ok.hs n (List.mem_reverse.mp hn)
  il:=ok.il
  ir:=ok.ir
  p1:=ok.p1
  p2:=ok.p2
  pr:=ok.pr
  wl:=by show d.wa.reverse.length=d.th.reverse.length;rw [List.length_reverse,List.length_reverse];exact ok.wl
  wc:=λ z hz=>ok.wc z (List.mem_reverse.mp hz)
  fl:=ok.fl
  fc:=ok.fc
theorem Nh {d:Dr} (ok:DrOk d):DrOk (K7 d) where
  s1:=ok.s1
  s2:=ok.s2
  t1:=ok.t1
  t2:=ok.t2
  h1:=ok.h1
  h2:=ok.h2
  hs:=ok.hs
  il:=ok.il
  ir:=ok.ir
  p1:=by show 1<=d.td.reverse.length;rw [List.length_reverse];exact ok.p1
  p2:=by show d.td.reverse.length<=60;rw [List.length_reverse];exact ok.p2
  pr:=λ l hl=>ok.pr l (List.mem_reverse.mp hl)
  wl:=ok.wl
  wc:=ok.wc
  fl:=by show d.we.reverse.length=d.td.reverse.length;rw [List.length_reverse,List.length_reverse];exact ok.fl
  fc:=λ z hz=>ok.fc z (List.mem_reverse.mp hz)
theorem Np {d:Dr} (ok:DrOk d):DrOk (Gp d) where
  s1:=ok.s1
  s2:=ok.s2
  t1:=ok.t1
  t2:=ok.t2
  h1:=ok.h1
  h2:=ok.h2
  hs:=ok.hs
  il:=by show (d.ti.map (Cl 1 d.sh)).length=d.tr;rw [List.length_map];exact ok.il
  ir:=λ l hl=>by
    obtain ⟨t,_,rfl⟩:=List.mem_map.mp (show l∈d.ti.map (Cl 1 d.sh) from hl);exact HN d.sh t
  p1:=ok.p1
  p2:=ok.p2
  pr:=ok.pr
  wl:=ok.wl
  wc:=ok.wc
  fl:=ok.fl
  fc:=ok.fc
structure Plain (d:Dr):Prop where
  e:∀ s∈d.th,s≠0
  p:∀ l∈d.td,l.length=1
theorem Mw {l:List Nat} (h:l.length=1):l=[l.getD 0 0]:=by
  match l,h with
  | [x],_=>rfl
theorem M5 {d:Dr} (ok:DrOk d) (pl:Plain d):DrOk (GI d) where
  s1:=ok.t1
  s2:=ok.t2
  t1:=ok.s1
  t2:=ok.s2
  h1:=by show 1<=(d.td.map _).length;rw [List.length_map];exact ok.p1
  h2:=by show (d.td.map _).length<=60;rw [List.length_map];exact ok.p2
  hs:=λ n hn=>by
    obtain ⟨l,hl,rfl⟩:=List.mem_map.mp (show n∈d.td.map (·.getD 0 0) from hn);exact ((ok.pr l hl).le _ (An (by rw [pl.p l hl];decide))).2
  il:=by show ((List.range d.sh).map _).length=d.sh;simp
  ir:=λ l hl=>by
    obtain ⟨s,_,rfl⟩:=List.mem_map.mp (show l∈(List.range d.sh).map (λ s=>((List.range d.tr).filter λ t=> !decide (s+1∈d.ti.getD t [])).map (· + 1)) from hl);exact Cf _ d.tr
  p1:=by show 1<=(d.th.map _).length;rw [List.length_map];exact ok.h1
  p2:=by show (d.th.map _).length<=60;rw [List.length_map];exact ok.h2
  pr:=λ l hl=>by
    obtain ⟨s,hs,rfl⟩:=List.mem_map.mp (show l∈d.th.map (λ s=>[s]) from hl);have h1:=pl.e s hs;have h2:=ok.hs s hs;intro j hj;have hj:j=0:=by simpa using hj
    subst hj;show 0+1<=s/\s<=d.sh;omega
  wl:=by show d.we.length=(d.td.map _).length;rw [List.length_map];exact ok.fl
  wc:=ok.fc
  fl:=by show d.wa.length=(d.th.map _).length;rw [List.length_map];exact ok.wl
  fc:=ok.wc
def Cy (c:Cs) (f:Dr->Dr):Sp:=λ vs H Q _=>∃ x d,vs=[.ref x]/\DrAt c.Draft H x d/\DrOk d/\∀ H' y,Same H H'->H y=none->DrAt c.Draft H' y (f d)->Q (.ref y) H'
theorem SD (v1 v2:V):AK [] [((.inr "threading":Key),v1),(.inr "warp",v2)]=[((.inr "threading":Key),v1),(.inr "warp",v2)]:=by kernel_rfl
theorem T1 {H:Hp} {d:Dr} {l1 l2:Addr} (g1:H l1=some (.lst (d.th.reverse.map nV))) (g2:H l2=some (.lst (d.wa.reverse.map V.str))):
    Turns H d [((.inr "threading":Key), .ref l1),(.inr "warp", .ref l2)] (KC d):=by
  refine ⟨(show 2<=15 by decide),λ H1 w0 w1 w2 w3 w4 w5 w6 s P=> ?_⟩;obtain ⟨a1,v2,v3,a4,a5,e,h1,h2,h3,h4,h5⟩:=P.ex;injection e with e0 e;injection e with e1 e;injection e with e2 e;injection e with e3 e;injection e with e4 e;injection e with e5 e;injection e with e6 e;subst e0 e1 e3 e4 e6;refine ⟨_,_, .ref l1,_,_, .ref l2,_,⟨_,_,_,_,_,rfl,s _ _ g1,h2,h3,s _ _ g2,h5⟩,λ j u e=> ?_⟩
  match j,e with
  | 0,e=>cases e;kernel_rfl
  | 1,e=>cases e;kernel_rfl
  | 2,e=>cases e;kernel_rfl
  | 3,e=>cases e;kernel_rfl
  | 4,e=>cases e;kernel_rfl
  | 5,e=>cases e;kernel_rfl
  | 6,e=>cases e;kernel_rfl
noncomputable abbrev B4:Stmt:=top 32
theorem FE:FnScope ["draft"] ["draft"] (Ah B4):=⟨rfl,rfl,rfl,by decide +kernel,rfl,by decide +kernel,by decide +kernel⟩
theorem FQ {f:Addr} {fd:FuncData} (F:Fun K "mirrored_draft" "mirrored_draft" B4 f fd) (T:Txt K mg c) (c_changed_draft:CallF P w K mg base "changed_draft" 8 ["draft","changes"] (Bq c)):FnOk P w K mg base CX0 9 f fd ["draft"] (Cy c KC):=by
  refine F.ok FE (λ vs H Q E h=> ?_) (λ cdv A outer s H vs Q E hr h=> ?_)
  · obtain ⟨x,d,rfl,_⟩:=h;rfl
  · obtain ⟨x,d,rfl,cx,ok,k⟩:=h;obtain ⟨dx,v1,v2,v3,v4,v5,h0,h1,h2,h3,h4,h5⟩:=id cx;obtain ⟨b1,rfl,e1,bb1⟩:=CH h1;obtain ⟨b4,rfl,e4,bb4⟩:=Gw h4;refine ⟨_,(Ag (Aj (Ad c_changed_draft hr (Aa (pv 0) (Aa (JP (Ej As (CP (K:=K) rfl (T.own _ (by decide)) rfl (T.own _ (by decide)) (Aa (AN (K:=K) (pv 0) rfl) Ab)) (Ej As (CP (K:=K) rfl (T.own _ (by decide)) rfl (T.own _ (by decide)) (Aa (AN (K:=K) (pv 0) rfl) Ab)) Ks)) rfl rfl (by simp) (by decide)) Ab))))),?_⟩;walk_at "w";row_lines H x0;walk_at "w";refine ⟨_,_,_,_,_,rfl,s0 _ _ h0,T.kd_Draft.cl,T.na_Draft_threading,rfl,?_⟩;walk_at "w";refine ⟨b1,_,rfl,SqT.of (s0 _ _ e1),λ p1 n1=> ?_⟩;wrow_has H0 x1;rw [<-List.map_reverse] at g1;have s01:=s0.trans s1;walk_at "w";refine ⟨_,_,_,_,_,rfl,s01 _ _ h0,T.kd_Draft.cl,T.na_Draft_warp,rfl,?_⟩;walk_at "w";refine ⟨b4,_,rfl,SqT.of (s01 _ _ e4),λ p2 n2=> ?_⟩;wrow_has H1 x2;rw [<-List.map_reverse] at g2;walk_at "w";have gp:=s2 _ _ (s1 _ _ g0);refine ⟨gp,[((.inr "threading":Key), .ref p1),(.inr "warp", .ref p2)],rfl,by simp,?_⟩;rw [SD];generalize eu:upd H2 p0 _=H3;have s3:Same H H3:=λ q o e=>by
      rw [<-eu,Al (Ap e n0)];exact s2 _ _ (s01 _ _ e)
    have g3:H3 p0=_:=(congrFun eu p0).symm.trans Af;have k3:∀ q xs,H2 q=some (.lst xs)->H3 q=some (.lst xs):=λ q xs e=>by
      rw [<-eu,Al λ z=>by rw [z,gp] at e;cases e];exact e
    clear eu;walk_at "w";refine ⟨x,d,p0,_,KC d,rfl,cx.same s3,ok,g3,T1 (k3 _ _ (s2 _ _ g1)) (k3 _ _ g2),MU ok,λ H4 y s4 hy D4=> ?_⟩;exact k H4 y (s3.trans s4) (s3.free hy) D4
theorem SB (v1 v2:V):AK [] [((.inr "treading":Key),v1),(.inr "weft",v2)]=[((.inr "treading":Key),v1),(.inr "weft",v2)]:=by kernel_rfl
theorem S3 {H:Hp} {d:Dr} {l1 l2:Addr} (g1:Rp H FT 2 (.ref l1) (dLL d.td.reverse)) (g2:H l2=some (.lst (d.we.reverse.map V.str))):
    Turns H d [((.inr "treading":Key), .ref l1),(.inr "weft", .ref l2)] (K7 d):=by
  refine ⟨(show 2<=15 by decide),λ H1 w0 w1 w2 w3 w4 w5 w6 s P=> ?_⟩;obtain ⟨a1,v2,v3,a4,a5,e,h1,h2,h3,h4,h5⟩:=P.ex;injection e with e0 e;injection e with e1 e;injection e with e2 e;injection e with e3 e;injection e with e4 e;injection e with e5 e;subst e0 e1 e2 e3 e5;refine ⟨_,_,_,_, .ref l1,_, .ref l2,⟨_,_,_,_,_,rfl,h1,h2,g1.same s,h4,s _ _ g2⟩,λ j u e=> ?_⟩
  match j,e with
  | 0,e=>cases e;kernel_rfl
  | 1,e=>cases e;kernel_rfl
  | 2,e=>cases e;kernel_rfl
  | 3,e=>cases e;kernel_rfl
  | 4,e=>cases e;kernel_rfl
  | 5,e=>cases e;kernel_rfl
  | 6,e=>cases e;kernel_rfl
theorem SQ (v1:V):AK [] [((.inr "ties":Key),v1)]=[((.inr "ties":Key),v1)]:=by kernel_rfl
theorem Sw {H:Hp} {d:Dr} {l1:Addr} (g1:Rp H FT 2 (.ref l1) (dLL (d.ti.map (Cl 1 d.sh)))):Turns H d [((.inr "ties":Key), .ref l1)] (Gp d):=by
  refine ⟨(show 1<=15 by decide),λ H1 w0 w1 w2 w3 w4 w5 w6 s P=> ?_⟩;obtain ⟨a1,v2,v3,a4,a5,e,h1,h2,h3,h4,h5⟩:=P.ex;injection e with e0 e;injection e with e1 e;injection e with e2 e;injection e with e3 e;injection e with e4 e;injection e with e5 e;injection e with e6 e;subst e0 e1 e2 e4 e5 e6;refine ⟨_,_,_, .ref l1,_,_,_,⟨_,_,_,_,_,rfl,h1,g1.same s,h3,h4,h5⟩,λ j u e=> ?_⟩
  match j,e with
  | 0,e=>cases e;kernel_rfl
  | 1,e=>cases e;kernel_rfl
  | 2,e=>cases e;kernel_rfl
  | 3,e=>cases e;kernel_rfl
  | 4,e=>cases e;kernel_rfl
  | 5,e=>cases e;kernel_rfl
  | 6,e=>cases e;kernel_rfl
theorem MR {H H':Hp} {F:Addr->Prop} {n:Nat} {v:V} {d:Dt} (r:Rp H F n v d) (k:∀ a xs,(H a=some (.lst xs)->H' a=some (.lst xs))/\(H a=some (.tup xs)->H' a=some (.tup xs))):Rp H' F n v d:=by
  induction r with
  | non=>exact .non
  | bl b=>exact .bl b
  | int i=>exact .int i
  | str z=>exact .str z
  | lst h f b l e ih=>exact .lst ((k _ _).1 h) f b l ih
  | tup h b l e ih=>exact .tup ((k _ _).2 h) b l ih
theorem KP {H2:Hp} {p0:Addr} {kv:List (Key × V)} {o:HO} (gp:H2 p0=some (.dK kv)):(∀ q o',H2 q=some o'->q≠p0->upd H2 p0 o q=some o')/\(∀ q xs,(H2 q=some (.lst xs)->upd H2 p0 o q=some (.lst xs))/\(H2 q=some (.tup xs)->upd H2 p0 o q=some (.tup xs))):=
  ⟨λ q o' e n=>by rw [Al n];exact e,λ q xs=>⟨λ e=>by rw [Al λ z=>by rw [z,gp] at e;cases e];exact e,λ e=>by rw [Al λ z=>by rw [z,gp] at e;cases e];exact e⟩⟩
theorem Ii {α:Type} (l:List α) (y:α) {i:Nat} (h:i<l.length):l.reverse.getD i y=l.getD (l.length - 1 - i) y:=by
  rw [List.getD_eq_getElem?_getD,List.getD_eq_getElem?_getD,List.getElem?_reverse h]
noncomputable abbrev Cn:Stmt:=top 33
theorem sc_upended_draft:FnScope ["draft","treading"] ["draft"] (Ah Cn):=⟨rfl,rfl,rfl,by decide +kernel,rfl,by decide +kernel,by decide +kernel⟩
theorem Gn {f:Addr} {fd:FuncData} (F:Fun K "upended_draft" "upended_draft" Cn f fd) (T:Txt K mg c) (c_changed_draft:CallF P w K mg base "changed_draft" 8 ["draft","changes"] (Bq c)):FnOk P w K mg base CX0 9 f fd ["draft"] (Cy c K7):=by
  refine F.ok sc_upended_draft (λ vs H Q E h=> ?_) (λ cdv A outer s H vs Q E hr h=> ?_)
  · obtain ⟨x,d,rfl,_⟩:=h;rfl
  · obtain ⟨x,d,rfl,cx,ok,k⟩:=h;obtain ⟨dx,v1,v2,v3,v4,v5,h0,h1,h2,h3,h4,h5⟩:=id cx;obtain ⟨m3,b3,vs3,em3,rfl,e3,l3,bb3,el3⟩:=DB h3;cases em3;obtain ⟨b5,rfl,e5,bb5⟩:=Gw h5;rw [List.length_map] at l3;refine ⟨_,(Ac (Bk (i:=1) sc_upended_draft.nd rfl (Or.inl rfl) (Rc (K:=K) rfl (T.own _ (by decide)) (Aa (AN (K:=K) (pv 0) rfl) Ab)) (λ _ _ _ _=>Ao) (λ _ _ _ _=>(Ax (CI (K:=K)) rfl (T.own _ (by decide)) Aw (Aa (pv 0) Ab))))
      (Ag (Aj (Ad c_changed_draft hr (Aa (pv 0) (Aa (JP (Ej As (pv 1) (Ej As (CP (K:=K) rfl (T.own _ (by decide)) rfl (T.own _ (by decide)) (Aa (AN (K:=K) (pv 0) rfl) Ab)) Ks)) rfl rfl (by simp) (by decide)) Ab)))))),?_⟩
    walk_at "w";refine Ze ?_;walk_at "w";refine ⟨_,_,_,_,_,rfl,h0,T.kd_Draft.cl,T.na_Draft_treading,rfl,?_⟩;walk_at "w";refine ⟨b3,_,rfl,SqT.of e3,λ D hD=> ?_⟩;refine AF (m:=1) (G:=λ i=>dL (d.td.reverse.getD i [])) (Qe (SqT.of e3) rfl) hD bb3 ?_ ?_
    · intro i H' R hi s kk;have r:=el3 (vs3.length - 1 - i) (by rw [List.length_map];omega);rw [AA dT d.td _ .non [] (by omega)] at r;obtain ⟨b,eb,hb3,hb4⟩:=CH r;rw [eb];walk_at "w";rw [Ii d.td [] (show i<d.td.length by omega), <-l3] at kk;exact Bh (SqT.of (s _ _ hb3)) λ q hq=>kk _ _ (Ai hq) (C9 Af hq hb4)
    intro H1 ys1 s1 hl1 r1;have e1:(List.range vs3.length).map (λ i=>dL (d.td.reverse.getD i []))=d.td.reverse.map dL:=by
      rw [l3, <-List.length_reverse];exact Aq dL d.td.reverse []
    rw [e1] at r1;have r1:Rp H1 FT 2 (.ref D) (dLL d.td.reverse):=r1.any;walk_at "w";row_lines H1 x2;have s12:=s1.trans s2;walk_at "w";refine ⟨_,_,_,_,_,rfl,s12 _ _ h0,T.kd_Draft.cl,T.na_Draft_weft,rfl,?_⟩;walk_at "w";refine ⟨b5,_,rfl,SqT.of (s12 _ _ e5),λ p4 n4=> ?_⟩;wrow_has H2 x4;rw [<-List.map_reverse] at g4;walk_at "w";have gp:=s4 _ _ g2;refine ⟨gp,[((.inr "treading":Key), .ref D),(.inr "weft", .ref p4)],rfl,by simp,?_⟩;rw [SB];obtain ⟨w1,w2⟩:=KP (o:= .dK [((.inr "treading":Key), .ref D),(.inr "weft", .ref p4)]) gp;have s5:Same H (upd H4 p2 (.dK [((.inr "treading":Key), .ref D),(.inr "weft", .ref p4)])):=λ q o e=>w1 q o (s4 _ _ (s12 _ _ e)) (Ap (s1 _ _ e) n2);walk_at "w";refine ⟨x,d,p2,_,K7 d,rfl,cx.same s5,ok,Af,S3 (MR (r1.same (s2.trans s4)) w2) ((w2 _ _).1 g4),Nh ok,λ H6 y s6 hy D6=> ?_⟩;exact k H6 y (s5.trans s6) (s5.free hy) D6
def Eg (c:Cs):Sp:=λ vs H Q _=>∃ (a:Addr) (z:Str) (m:Nat),vs=[.ref a, .str z,nV m]/\H a=some (xnO a c.NotPlain none)/\z.length<1000/\m<1000/\
  ∀ dx H',H dx=none->(∀ b o,H b=some o->b≠a->H' b=some o)->H' a=some (xnO a c.NotPlain (some dx))->H' dx=some (xdO dx [("what", .str z),("number",nV m)])->Q .non H'
theorem N8 {n:Nat} (h:n<1000):((n:Nat):Int).natAbs.log2<1920:=by
  have:Nat.log2 n<=n:=Nat.log2_le_self n;show Nat.log2 n<1920;omega
noncomputable abbrev Bt:Stmt:=AD (top 10) 0
theorem Es:FnScope ["self","what","number"] ["self","what","number"] (Ah Bt):=⟨rfl,rfl,rfl,by decide +kernel,rfl,by decide +kernel,by decide +kernel⟩
theorem EF {f:Addr} {fd:FuncData} (F:Fun K "__init__" "NotPlain.__init__" Bt f fd) (T:Txt K mg c):FnOk P w K mg base CX0 1 f fd ["self","what","number"] (Eg c):=by
  refine F.ok Es (λ vs H Q E h=> ?_) (λ cdv A outer s H vs Q E hr h=> ?_)
  · obtain ⟨a,r,m,rfl,_⟩:=h;rfl
  · obtain ⟨a,z,m,rfl,ha,hr1,hm1,k⟩:=h;refine ⟨_,(Ac (AZ (O5 (K:=K) T.g_LoomError T.xb_LoomError (Aa (pv 0) (Aa (NQ (FS (OS (pv 1)) (FS As (FS (OS (pv 2)) (FS As Rq))))) Ab))))
      (Ac (M7 (K:=K) (pv 0) (pv 1) rfl)
      (Ag (M7 (K:=K) (pv 0) (pv 2) rfl)))),?_⟩
    walk_at "w";refine Pk ?_;walk_at "w";refine G9 ?_;refine P3 ?_;walk_at "w";have hl2:=MN.num_len (i:=((m:Nat):Int)) (by omega) (by omega);have h0:(Str.empty).length=0:=by decide +kernel
    have h2:(Str.ofString " ").length=1:=by decide +kernel
    have h3:(Str.ofString " isn't plain").length=12:=by decide +kernel
    refine .inr ⟨_,rfl,by omega,_,rfl,?_,?_⟩
    · rw [strLen_append];omega
    refine G9 ?_;walk_at "w";refine ⟨_,rfl,?_,?_⟩
    · rw [strLen_append,strLen_append];omega
    refine G9 ?_;refine P3 ?_;walk_at "w";refine .inl ⟨_,rfl,N8 hm1,_,rfl,?_,?_⟩
    · rw [strLen_append,strLen_append,strLen_append];omega
    refine G9 ?_;walk_at "w";refine ⟨_,rfl,?_,?_⟩
    · rw [strLen_append,strLen_append,strLen_append,strLen_append];omega
    refine Oe ?_;walk_at "w";obtain ⟨fi,hfi⟩:=T.xj_NotPlain;refine ⟨a,_,_,fi,_,rfl,ha,hfi,?_⟩;dsimp only;refine Pt ?_;refine MC ?_;walk_at "w";refine ⟨a,_,_,rfl,ha,T.xs_NotPlain,Ia T.xf_NotPlain_what, .inl ⟨rfl,λ dx hdx=> ?_⟩⟩;dsimp only;refine MC ?_;walk_at "w";have nd:dx≠a:=λ z=>by rw [z,ha] at hdx;cases hdx
    refine ⟨a,_,_,rfl,Af,T.xs_NotPlain,Ia T.xf_NotPlain_number, .inr ⟨dx,_,rfl,by rw [Al nd,Af],by show 1<1000;decide,?_⟩⟩;refine k dx _ hdx (λ b o e nb=> ?_) ?_ Af
    · have n2:b≠dx:=λ z=>by rw [z,hdx] at e;cases e
      rw [Al n2,Al nb,Al n2];exact e
    · rw [Al (Ne.symm nd),Af]
theorem Oz {a b:Addr} {H:Hp} (h:b≠a):bar a H b=H b:=if_neg h
theorem FP {c:Cs} {H:Hp} {E:XK} {z:Str} {m:Nat} (hr:z.length<1000) (hm:m<1000) (h:∀ H' dx,Same H H'->H' dx=some (xdO dx [("what", .str z),("number",nV m)])->E (.ref c.NotPlain) (some dx) H'):
    ([.str z,nV m]:List V).length<=900/\∀ a,H a=none->Eg c (.ref a::[.str z,nV m]) (upd H a (xnO a c.NotPlain none)) (λ v H2=>v= .non/\∃ od,H2 a=some (xnO a c.NotPlain od)/\E (.ref c.NotPlain) od (bar a H2)) E0:=by
  refine ⟨by simp,λ a ha=>⟨a,z,m,rfl,Af,hr,hm,λ dx H' hdx kp ea ed=>⟨rfl,some dx,ea,?_⟩⟩⟩;have nd:dx≠a:=λ z=>by rw [z,Af] at hdx;cases hdx
  refine h _ dx (λ b o e=> ?_) ?_
  · have nb:b≠a:=λ z=>by rw [z,ha] at e;cases e
    rw [Oz nb];exact kp b o (by rw [Al nb];exact e) nb
  · rw [Oz nd];exact ed
inductive Lack (d:Dr):Option (Str × Nat)->Prop
  | ends (i:Nat) (hi:i<d.th.length) (h0:d.th.getD i 0=0) (be:∀ j,j<i->d.th.getD j 0≠0):Lack d (some ("end",i+1))
  | pick (i:Nat) (he:∀ j,j<d.th.length->d.th.getD j 0≠0) (hi:i<d.td.length) (h0:(d.td.getD i []).length≠1) (be:∀ j,j<i->(d.td.getD j []).length=1):Lack d (some ("pick",i+1))
  | none (he:∀ j,j<d.th.length->d.th.getD j 0≠0) (hp:∀ j,j<d.td.length->(d.td.getD j []).length=1):Lack d none
theorem Lack.plain {d:Dr} (h:Lack d .none):Plain d:=by
  cases h with
  | none he hp=>
    refine ⟨λ s hs=> ?_,λ l hl=> ?_⟩
    · obtain ⟨j,hj,rfl⟩:=List.getElem_of_mem hs;have:=he j hj;rw [List.getD_eq_getElem?_getD,List.getElem?_eq_getElem hj] at this;exact this
    · obtain ⟨j,hj,rfl⟩:=List.getElem_of_mem hl;have:=hp j hj;rw [List.getD_eq_getElem?_getD,List.getElem?_eq_getElem hj] at this;exact this
def AU (c:Cs) (q:Dr->VK->Hp->Prop):Sp:=λ vs H Q E=>∃ x d o,vs=[.ref x]/\DrAt c.Draft H x d/\DrOk d/\Lack d o/\(o=none->q d Q H)/\
  (∀ z m,o=some (z,m)->∀ H' dx,Same H H'->H' dx=some (xdO dx [("what", .str z),("number",nV m)])->E (.ref c.NotPlain) (some dx) H')
def NF (_:Dr) (Q:VK) (H:Hp):Prop:=∀ H',Same H H'->Q .non H'
def qDr (c:Cs) (f:Dr->Dr) (d:Dr) (Q:VK) (H:Hp):Prop:=∀ H' y,Same H H'->H y=none->DrAt c.Draft H' y (f d)->Q (.ref y) H'
noncomputable abbrev DP:Stmt:=top 34
theorem sc_need_plain:FnScope ["draft","end","shaft","pick","treadles"] ["draft"] (Ah DP):=⟨rfl,rfl,rfl,by decide +kernel,rfl,by decide +kernel,by decide +kernel⟩
theorem IM {f:Addr} {fd:FuncData} (F:Fun K "need_plain" "need_plain" DP f fd) (T:Txt K mg c) (m_NotPlain:Mx P w K mg base "NotPlain" c.NotPlain 1 ["self","what","number"] (Eg c)):FnOk P w K mg base (CXE P w) 3 f fd ["draft"] (AU c NF):=by
  refine Fun.okE F sc_need_plain (λ vs H Q E h=> ?_) (λ cdv A outer s H vs Q E hr h=> ?_)
  · obtain ⟨x,d,o,rfl,_⟩:=h;rfl
  · obtain ⟨x,d,o,rfl,cx,ok,lk,kq,ke⟩:=h;obtain ⟨dx,v1,v2,v3,v4,v5,h0,h1,h2,h3,h4,h5⟩:=id cx;obtain ⟨b1,rfl,e1,bb1⟩:=CH h1;obtain ⟨m3,b3,vs3,em3,rfl,e3,l3,bb3,el3⟩:=DB h3;cases em3;rw [List.length_map] at l3;have t2:=ok.h2;have q2:=ok.p2;have l4:∀ z:Str,z="end"\/z="pick"->z.length<1000:=by rintro z (rfl | rfl) <;> decide +kernel
    refine ⟨_,(Ac (C6 PassesOwn.leaving rfl (EC (K:=K) rfl (T.own _ (by decide)) (Aa (AN (K:=K) (pv 0) rfl) Ab)) (JO (K:=K) rfl (AI (Az (i:=1) sc_need_plain.nd rfl (Or.inl rfl)) (AI (Az (i:=2) sc_need_plain.nd rfl (Or.inl rfl)) FR))) (Ag (AV (Av Cp (pv 2) Ae (AG _)) (Ag (Jx m_NotPlain hr (Aa As (Aa (pv 1) Ab)))) Au)))
      (Ag (C6 PassesOwn.leaving rfl (EC (K:=K) rfl (T.own _ (by decide)) (Aa (AN (K:=K) (pv 0) rfl) Ab)) (JO (K:=K) rfl (AI (Az (i:=3) sc_need_plain.nd rfl (Or.inl rfl)) (AI (Az (i:=4) sc_need_plain.nd rfl (Or.inl rfl)) FR))) (Ag (AV (Av JK (Ak (BW (K:=K)) rfl (T.own _ (by decide)) boot_len (Aa (pv 4) Ab)) Ae (AG _)) (Ag (Jx m_NotPlain hr (Aa As (Aa (pv 3) Ab)))) Au))))),?_⟩
    walk_at "w";refine ⟨_,_,_,_,_,rfl,h0,T.kd_Draft.cl,T.na_Draft_threading,rfl,?_⟩;walk_at "w";refine ⟨true,b1,rfl,⟨_,SqT.of e1⟩,Cu (HZ (tp:=true) (SqT.of e1)) (λ i σ H3=>∃ u1 u2,σ=[some (.ref x),u1,u2,none,none]/\Same H H3/\(∀ j,o=some (("end":Str),j+1)->i<=j)) ⟨_,_,rfl,Same.refl _,λ j _=>Nat.zero_le j⟩ (λ i σ H3 ⟨_,_,_,s,_⟩=>s) ?_ ?_⟩
    · rintro i σ H' H3 hi ⟨u1,u2,rfl,s',no⟩ s3;have hi':i<d.th.length:=by simpa using hi
      rw [AS hi];walk_at "w";by_cases hz:d.th.getD i 0=0
      · refine Gv (λ _=> ?_) (λ z=>by omega);refine Ji ?_;walk_at "w";have ho:o=some (("end":Str),i+1):=by
          cases lk with
          | ends j hj hj0 be=>
            have h1:=no j rfl;rcases Nat.lt_or_ge i j with z | z
            · exact absurd hz (be i z)
            · rw [show j=i by omega]
          | pick j he _ _ _=>exact absurd hz (he i hi')
          | none he _=>exact absurd hz (he i hi')
        exact FP (l4 _ (.inl rfl)) (by omega) λ H4 dx s4 g4=>ke _ _ ho H4 dx (s'.trans (s3.trans s4)) g4
      · refine Gv (λ z=>by omega) (λ _=> ?_);refine Bz ?_;refine ⟨_,_,rfl,s'.trans s3,λ j hj=> ?_⟩;have h1:=no j hj;rcases Nat.lt_or_ge i j with z | z
        · exact z
        · have e:j=i:=by omega
          subst e;exfalso;cases lk with
          | ends k hk hk0 be=>
            have:k=j:=by injection hj with hj;injection hj with _ hj;omega
            subst this;exact hz hk0
          | pick k _ _ _ _=>
            injection hj with hj;injection hj with hj _;exact absurd hj (by decide +kernel)
          | none _ _=>cases hj
    rintro σ H3 ⟨u1,u2,rfl,s3,no⟩;have hnend:∀ j,d.th.length<=j->o≠some (("end":Str),j+1):=λ j hj=>by
      intro z;cases lk with
      | ends k hk hk0 be=>
        have:k=j:=by injection z with z;injection z with _ z;omega
        omega
      | pick k _ _ _ _=>
        injection z with z;injection z with z _;exact absurd z (by decide +kernel)
      | none _ _=>cases z
    have lk2:(∃ i,o=some (("pick":Str),i+1)/\i<d.td.length/\(d.td.getD i []).length≠1/\∀ j,j<i->(d.td.getD j []).length=1)\/(o=none/\∀ j,j<d.td.length->(d.td.getD j []).length=1):=by
      cases lk with
      | ends j hj hj0 be=>
        have:=no j rfl;rw [List.length_map] at this;omega
      | pick j he hj h0 be=>exact .inl ⟨j,rfl,hj,h0,be⟩
      | none he hp=>exact .inr ⟨rfl,hp⟩
    walk_at "w";refine ⟨_,_,_,_,_,rfl,s3 _ _ h0,T.kd_Draft.cl,T.na_Draft_treading,rfl,?_⟩;walk_at "w";refine ⟨true,b3,rfl,⟨_,SqT.of (s3 _ _ e3)⟩,Cu (HZ (tp:=true) (SqT.of (s3 _ _ e3))) (λ i σ H4=>∃ u3 u4,σ=[some (.ref x),u1,u2,u3,u4]/\Same H3 H4/\(∀ j,o=some (("pick":Str),j+1)->i<=j)) ⟨_,_,rfl,Same.refl _,λ j _=>Nat.zero_le j⟩ (λ i σ H4 ⟨_,_,_,s,_⟩=>s) ?_ ?_⟩
    · rintro i σ H' H4 hi ⟨u3,u4,rfl,s',no2⟩ s4;have hi':i<d.td.length:=by omega
      have r:=el3 i (by simpa using hi');rw [AA dT d.td i .non [] hi'] at r;obtain ⟨b,eb,hb3,hb4⟩:=CH r;rw [eb];have s34:=s'.trans s4;walk_at "w";refine G7 (SqT.of (s34 _ _ (s3 _ _ hb3))) ?_;rw [List.length_map];walk_at "w";by_cases hz:(d.td.getD i []).length=1
      · refine Iy (λ z=>by omega) (λ _=> ?_);refine Bz ?_;refine ⟨_,_,rfl,s34,λ j hj=> ?_⟩;have h1:=no2 j hj;rcases lk2 with ⟨k,ek,hk,hk1,be⟩ | ⟨ek,hk⟩
        · have:k=j:=by rw [ek] at hj;injection hj with hj;injection hj with _ hj;omega
          subst this;rcases Nat.lt_or_ge i k with z | z
          · exact z
          · rw [show k=i by omega] at hk1;exact absurd hz hk1
        · rw [ek] at hj;cases hj
      · refine Iy (λ _=> ?_) (λ z=>by omega);refine Ji ?_;walk_at "w";have ho:o=some (("pick":Str),i+1):=by
          rcases lk2 with ⟨k,ek,hk,hk1,be⟩ | ⟨ek,hk⟩
          · have h1:=no2 k ek;rcases Nat.lt_or_ge i k with z | z
            · exact absurd (be i z) hz
            · rw [ek,show k=i by omega]
          · exact absurd (hk i hi') hz
        exact FP (l4 _ (.inr rfl)) (by omega) λ H5 dx s5 g5=>ke _ _ ho H5 dx (s3.trans (s34.trans s5)) g5
    · rintro σ H4 ⟨u3,u4,rfl,s4,no2⟩;rcases lk2 with ⟨k,ek,hk,hk1,be⟩ | ⟨ek,hk⟩
      · have:=no2 k ek;omega
      walk_at "w";exact kq ek H4 (s3.trans s4)
noncomputable abbrev B1:Stmt:=top 35
theorem FU:FnScope ["draft"] ["draft"] (Ah B1):=⟨rfl,rfl,rfl,by decide +kernel,rfl,by decide +kernel,by decide +kernel⟩
theorem FW {f:Addr} {fd:FuncData} (F:Fun K "inverted_draft" "inverted_draft" B1 f fd) (T:Txt K mg c) (c_need_plain:CallE P w K mg base "need_plain" 3 ["draft"] (AU c NF)) (c_changed_draft:CallF P w K mg base "changed_draft" 8 ["draft","changes"] (Bq c)) (c_shafts_but:CallF P w K mg base "shafts_but" 1 ["left_out","least","most"] (E9 K)):FnOk P w K mg base (CXE P w) 9 f fd ["draft"] (AU c (qDr c Gp)):=by
  refine Fun.okE F FU (λ vs H Q E h=> ?_) (λ cdv A outer s H vs Q E hr h=> ?_)
  · obtain ⟨x,d,o,rfl,_⟩:=h;rfl
  · obtain ⟨x,d,o,rfl,cx,ok,lk,kq,ke⟩:=h;have t2:=ok.s2;refine ⟨_,(Ac (AZ (F2 c_need_plain (hr.mono (by decide)) O2 (Aa (pv 0) Ab)))
      (Ag (Aj (Ad c_changed_draft hr (Aa (pv 0) (Aa (JP (Ej As (At (Fd (K:=K) (AN (K:=K) (pv 0) rfl)) (λ _ _ _ _=>Ao) (λ _ _ _ _=>(Ad c_shafts_but (hr.mono (by decide)) (Aa (pv 0) (Aa Ae (Aa (AN (K:=K) (pv 1) rfl) Ab)))))) Ks) rfl rfl (by simp) (by decide)) Ab)))))),?_⟩
    walk_at "w";refine ⟨x,d,o,rfl,cx,ok,lk,λ ho H1 s1=> ?_,λ z m ho H1 dx s1 g1=>ke z m ho H1 dx s1 g1⟩;replace cx:=cx.same s1;obtain ⟨dx,v1,v2,v3,v4,v5,h0,h1,h2,h3,h4,h5⟩:=id cx;obtain ⟨m2,b2,vs2,em2,rfl,e2,l2,bb2,el2⟩:=DB h2;cases em2;rw [List.length_map] at l2;walk_at "w";row_lines H1 x2;walk_at "w";refine ⟨_,_,_,_,_,rfl,s2 _ _ h0,T.kd_Draft.cl,T.na_Draft_ties,rfl,?_⟩;walk_at "w";refine ⟨b2,rfl,⟨_,SqT.of (s2 _ _ e2)⟩,λ D hD=> ?_⟩;refine AF (m:=1) (G:=λ i=>dL (Cl 1 d.sh (d.ti.getD i []))) (B9 (SqT.of (s2 _ _ e2)) rfl) hD bb2 ?_ ?_
    · intro i H' R hi s kk;have r:=el2 i (by rw [List.length_map];omega);rw [AA dT d.ti _ .non [] (by omega)] at r;obtain ⟨b,eb,hb3,hb4⟩:=CH r;rw [eb];have s2':=s2.trans s;walk_at "w";refine ⟨_,_,_,_,_,rfl,s2' _ _ h0,T.kd_Draft.cl,T.na_Draft_shafts,rfl,?_⟩;walk_at "w";refine ⟨true,b,_,1,d.sh,rfl,SqT.of (s2' _ _ hb3),by decide,t2,λ H4 q s4 hq g4=> ?_⟩;exact kk H4 _ s4 (C9 g4 hq (by have:=(HN d.sh (d.ti.getD i [])).len;omega))
    intro H3 ys3 s3 hl3 r3;have e3:(List.range vs2.length).map (λ i=>dL (Cl 1 d.sh (d.ti.getD i [])))=(d.ti.map (Cl 1 d.sh)).map dL:=by
      rw [l2,List.map_map];exact Aq (λ t=>dL (Cl 1 d.sh t)) d.ti []
    rw [e3] at r3;have r3:Rp H3 FT 2 (.ref D) (dLL (d.ti.map (Cl 1 d.sh))):=r3.any;have gp:=s3 _ _ g2;walk_at "w";refine ⟨gp,[((.inr "ties":Key), .ref D)],rfl,by simp,?_⟩;rw [SQ];obtain ⟨w1,w2⟩:=KP (o:= .dK [((.inr "ties":Key), .ref D)]) gp;have s5:Same H1 (upd H3 p2 (.dK [((.inr "ties":Key), .ref D)])):=λ q o e=>w1 q o (s3 _ _ (s2 _ _ e)) (Ap e n2);walk_at "w";refine ⟨x,d,p2,_,Gp d,rfl,cx.same s5,ok,Af,Sw (MR r3 w2),Np ok,λ H6 y s6 hy D6=> ?_⟩;have s16:=s1.trans s5;exact kq ho H6 y (s16.trans s6) (s16.free hy) D6
def Co:Sp:=λ vs H Q _=>∃ (v:V) (ti:List (List Nat)) (s:Nat),vs=[v,nV s]/\Rp H FT 2 v (dTT ti)/\∀ H' p,Same H H'->H p=none->H' p=some (.lst ((((List.range ti.length).filter λ t=> !decide (s∈ti.getD t [])).map (· + 1)).map nV))->Q (.ref p) H'
noncomputable abbrev BD:Stmt:=top 36
theorem EQ:FnScope ["ties","shaft"] ["ties","shaft"] (Ah BD):=⟨rfl,rfl,rfl,by decide +kernel,rfl,by decide +kernel,by decide +kernel⟩
theorem EU {f:Addr} {fd:FuncData} (F:Fun K "treadles_without" "treadles_without" BD f fd) (T:Txt K mg c):FnOk P w K mg base CX0 1 f fd ["ties","shaft"] Co:=by
  refine F.ok EQ (λ vs H Q E h=> ?_) (λ cdv A outer s H vs Q E hr h=> ?_)
  · obtain ⟨v,ti,s,rfl,_⟩:=h;rfl
  · obtain ⟨v,ti,s0,rfl,rv,k⟩:=h;obtain ⟨m2,b2,vs2,em2,rfl,e2,l2,bb2,el2⟩:=DB rv;cases em2;rw [List.length_map] at l2;refine ⟨_,(Ag (Aj (Dc (K:=K) (EC (K:=K) rfl (T.own _ (by decide)) (Aa (pv 0) Ab)) (λ _ _ _ _=>(BH (Av (Hb (K:=K)) (pv 2) (pv 1) (by with_unfolding_all rfl)))) (λ _ _ _ _=>(pv 0))))),?_⟩;walk_at "w";refine ⟨true,b2,rfl,⟨_,SqT.of e2⟩,λ D hD=> ?_⟩;refine A9 (p:=λ i=> !decide (s0∈ti.getD i [])) (G:=λ i=>((i+1:Nat):Int)) (GG (tp:=true) (SqT.of e2) rfl rfl) hD bb2 ?_ ?_ ?_
    · intro i H' R hi s kk;have r:=el2 i (by rw [List.length_map];omega);rw [AA dT ti _ .non [] (by omega)] at r;obtain ⟨b,eb,hb3,hb4⟩:=CH r;rw [eb];walk_at "w";refine EM (tp:=true) (SqT.of (s _ _ hb3)) ?_;exact ⟨_,rfl,kk H' (Same.refl _)⟩
    · intro i H' R hi hp s kk;walk_at "w";exact kk H' (Same.refl _)
    · intro H' s hl;refine k H' D s hD ?_;rw [hl,l2,List.map_map,List.map_map];rfl
noncomputable abbrev BS:Stmt:=top 37
theorem sc_quartered_draft:FnScope ["draft","threading","ties","treading"] ["draft"] (Ah BS):=⟨rfl,rfl,rfl,by decide +kernel,rfl,by decide +kernel,by decide +kernel⟩
theorem Fu {f:Addr} {fd:FuncData} (F:Fun K "quartered_draft" "quartered_draft" BS f fd) (T:Txt K mg c) (c_need_plain:CallE P w K mg base "need_plain" 3 ["draft"] (AU c NF)) (c_treadles_without:CallF P w K mg base "treadles_without" 1 ["ties","shaft"] Co) (m_Draft:LI P w K mg base "Draft" c.Draft 6 ["self","shafts","treadles","threading","ties","treading","warp","weft"] (A6 c)):FnOk P w K mg base (CXE P w) 8 f fd ["draft"] (AU c (qDr c GI)):=by
  refine Fun.okE F sc_quartered_draft (λ vs H Q E h=> ?_) (λ cdv A outer s H vs Q E hr h=> ?_)
  · obtain ⟨x,d,o,rfl,_⟩:=h;rfl
  · obtain ⟨x,d,o,rfl,cx,ok,lk,kq,ke⟩:=h;refine ⟨_,(Ac (AZ (F2 c_need_plain (hr.mono (by decide)) O2 (Aa (pv 0) Ab)))
      (Ac (Bk (i:=1) sc_quartered_draft.nd rfl (Or.inl rfl) (Fd (K:=K) (AN (K:=K) (pv 0) rfl)) (λ _ _ _ _=>Ao) (λ _ _ _ _=>(AT (BQ (K:=K)) (pv 0) Ae (λ _ _=>rfl))))
      (Ac (Bk (i:=2) sc_quartered_draft.nd rfl (Or.inl rfl) (BG rfl (T.own _ (by decide)) (Aa Ae (Aa (Am AR (AN (K:=K) (pv 0) rfl) Ae) Ab))) (λ _ _ _ _=>Ao) (λ _ _ _ _=>(Ad c_treadles_without (hr.mono (by decide)) (Aa (AN (K:=K) (pv 1) rfl) (Aa (pv 0) Ab)))))
      (Ac (Bk (i:=3) sc_quartered_draft.nd rfl (Or.inl rfl) (Fd (K:=K) (AN (K:=K) (pv 0) rfl)) (λ _ _ _ _=>Ao) (λ _ _ _ _=>(AO (Aa (pv 0) Ab))))
      (Ag (Aj (Hd m_Draft hr (Aa (AN (K:=K) (pv 0) rfl) (Aa (AN (K:=K) (pv 0) rfl) (Aa (pv 1) (Aa (pv 2) (Aa (pv 3) (Aa (Ax (CI (K:=K)) rfl (T.own _ (by decide)) Aw (Aa (AN (K:=K) (pv 0) rfl) Ab)) (Aa (Ax (CI (K:=K)) rfl (T.own _ (by decide)) Aw (Aa (AN (K:=K) (pv 0) rfl) Ab)) Ab)))))))))))))),?_⟩
    walk_at "w";refine ⟨x,d,o,rfl,cx,ok,lk,λ ho H1 s1=> ?_,λ z m ho H1 dx s1 g1=>ke z m ho H1 dx s1 g1⟩;subst ho;have pl:=lk.plain;have t2:=ok.s2;have t3:=ok.t2;have il:=ok.il;replace cx:=cx.same s1;obtain ⟨dx,v1,v2,v3,v4,v5,h0,h1,h2,h3,h4,h5⟩:=id cx;obtain ⟨b1,rfl,e1,bb1⟩:=CH h1;obtain ⟨m3,b3,vs3,em3,rfl,e3,l3,bb3,el3⟩:=DB h3;cases em3;obtain ⟨b4,rfl,e4,bb4⟩:=Gw h4;obtain ⟨b5,rfl,e5,bb5⟩:=Gw h5;rw [List.length_map] at l3;walk_at "w";refine ⟨_,_,_,_,_,rfl,h0,T.kd_Draft.cl,T.na_Draft_treading,rfl,?_⟩;walk_at "w";refine ⟨b3,rfl,⟨_,SqT.of e3⟩,λ D2 hD2=> ?_⟩;refine AQ (G:=λ i=>(((d.td.getD i []).getD 0 0:Nat):Int)) (B9 (SqT.of e3) rfl) hD2 bb3 ?_ ?_
    · intro i H' R hi s kk;have hi':i<d.td.length:=by omega
      have r:=el3 i (by rw [List.length_map];omega);rw [AA dT d.td _ .non [] hi'] at r;obtain ⟨b,eb,hb3,hb4⟩:=CH r;rw [eb];walk_at "w";refine Bf (SqT.of (s _ _ hb3)) (Df (by decide) (by rw [pl.p _ (An hi')];decide)) ?_;exact kk H' (Same.refl _)
    intro H2 s2 g2;rw [Jq,l3,Aq (λ l=>l.getD 0 0) d.td []] at g2;walk_at "w";refine ⟨_,_,_,_,_,rfl,s2 _ _ h0,T.kd_Draft.cl,T.na_Draft_shafts,rfl,?_⟩;walk_at "w";refine ⟨_,_,rfl,⟨by decide,by decide,by omega,by omega⟩,λ D3 hD3=> ?_⟩;rw [show (((d.sh:Nat):Int)+1 - 1).toNat=d.sh by omega];refine AF (m:=1) (G:=λ i=>dL (((List.range d.tr).filter λ t=> !decide (i+1∈d.ti.getD t [])).map (· + 1))) (BE rfl) hD3 (by omega) ?_ ?_
    · intro i H' R hi s kk;have s2':=s2.trans s;rw [show (1:Int)+(i:Nat)=((i+1:Nat):Int) by omega];walk_at "w";refine ⟨_,_,_,_,_,rfl,s2' _ _ h0,T.kd_Draft.cl,T.na_Draft_ties,rfl,?_⟩;walk_at "w";refine ⟨_,d.ti,i+1,rfl,h2.same s2',λ H4 q s4 hq g4=> ?_⟩;rw [il] at g4;exact kk H4 _ s4 (C9 g4 hq (by rw [List.length_map];have:=List.length_filter_le (λ t=> !decide (i+1∈d.ti.getD t [])) (List.range d.tr);rw [List.length_range] at this;omega))
    intro H3 ys3 s3 hl3 r3;rw [FX] at r3;have r3:Rp H3 FT 2 (.ref D3) _:=r3.any;have s23:=s2.trans s3;walk_at "w";refine ⟨_,_,_,_,_,rfl,s23 _ _ h0,T.kd_Draft.cl,T.na_Draft_threading,rfl,?_⟩;walk_at "w";refine ⟨b1,rfl,⟨_,SqT.of (s23 _ _ e1)⟩,λ D4 hD4=> ?_⟩;refine AF (m:=1) (G:=λ i=>dL [d.th.getD i 0]) (B9 (SqT.of (s23 _ _ e1)) rfl) hD4 (by rw [List.length_map];exact bb1) ?_ ?_
    · intro i H' R hi s kk;rw [AS hi];walk_at "w";intro q hq;exact kk _ _ (Ai hq) (C9 (ns:=[d.th.getD i 0]) Af hq (by simp))
    intro H4 ys4 s4 hl4 r4;have e4':(List.range (d.th.map nV).length).map (λ i=>dL [d.th.getD i 0])=(d.th.map λ s=>[s]).map dL:=by
      rw [List.length_map,List.map_map];exact Aq (λ s=>dL [s]) d.th 0
    rw [e4'] at r4;have r4:Rp H4 FT 2 (.ref D4) (dLL (d.th.map λ s=>[s])):=r4.any;have s24:=s23.trans s4;walk_at "w";refine ⟨_,_,_,_,_,rfl,s24 _ _ h0,T.kd_Draft.cl,T.na_Draft_treadles,rfl,?_⟩;walk_at "w";refine ⟨_,_,_,_,_,rfl,s24 _ _ h0,T.kd_Draft.cl,T.na_Draft_shafts,rfl,?_⟩;walk_at "w";refine ⟨_,_,_,_,_,rfl,s24 _ _ h0,T.kd_Draft.cl,T.na_Draft_weft,rfl,?_⟩;walk_at "w";refine Bh (SqT.of (s24 _ _ e5)) λ p5 n5=> ?_;wrow_has H4 x5;have s25:=s24.trans s5;walk_at "w";refine ⟨_,_,_,_,_,rfl,s25 _ _ h0,T.kd_Draft.cl,T.na_Draft_warp,rfl,?_⟩;walk_at "w";refine Bh (SqT.of (s25 _ _ e4)) λ p6 n6=> ?_;wrow_has H5 x6;have s56:=s5.trans s6;walk_at "w";have s26:=s25.trans s6;refine J8 (d:=GI d) ⟨_,_,_,_,_,rfl,s56 _ _ (s4 _ _ (s3 _ _ g2)),r3.same (s4.trans s56),r4.same s56,s6 _ _ g5,g6⟩ (M5 ok pl) λ H7 y s7 hy D7=> ?_;have s16:=s1.trans s26;exact kq rfl H7 y (s16.trans s7) (s16.free hy) D7
def CS:Sp:=λ vs H Q _=>∃ v d,∃ e p:Nat,vs=[v,nV e,nV p]/\Rp H FT 3 v (dDr d)/\DrOk d/\p<d.td.length/\e<d.th.length/\∀ H',Same H H'->Q (.bl (isL d p (d.th.getD e 0))) H'
noncomputable abbrev DQ:Stmt:=top 71
theorem sc__law_is_up:FnScope ["_law_due","_law_end","_law_pick","_law_treadle"] ["_law_due","_law_end","_law_pick"] (Ah DQ):=⟨rfl,rfl,rfl,by decide +kernel,rfl,by decide +kernel,by decide +kernel⟩
theorem Jc {f:Addr} {fd:FuncData} (F:Fun K "_law_is_up" "_law_is_up" DQ f fd) (T:Txt K mg c):FnOk P w K mg base CX0 1 f fd ["_law_due","_law_end","_law_pick"] CS:=by
  refine F.ok sc__law_is_up (λ vs H Q E h=> ?_) (λ cdv A outer s H vs Q E hr h=> ?_)
  · obtain ⟨v,d,e,p,rfl,_⟩:=h;rfl
  · obtain ⟨v,d,e,p,rfl,rv,ok,hp,he,k⟩:=h;obtain ⟨m,a,a2,v3,v4,a5,a6,em,rfl,ha,e2,r3,r4,e5,e6⟩:=Fi rv;obtain ⟨a3,vs3,rfl,e3,l3,b3,el3⟩:=GL r3;obtain ⟨a4,vs4,rfl,e4,l4,b4,el4⟩:=GL r4;obtain ⟨b,eb,hb⟩:=el4 p hp;refine ⟨_,(Ac (C6 PassesOwn.never rfl (Bp (K:=K) (AT (Dn (K:=K)) (AT (BQ (K:=K)) (pv 0) Ae (λ _ _=>rfl)) (pv 2) (λ _ _=>rfl))) (Az (i:=3) sc__law_is_up.nd rfl (Or.inl rfl)) (Ag (AV (Av (ZX (K:=K)) (AT (Dn (K:=K)) (AT (BQ (K:=K)) (pv 0) Ae (λ _ _=>rfl)) (pv 1) (λ _ _=>rfl)) (AT (Dn (K:=K)) (AT (BQ (K:=K)) (pv 0) Ae (λ _ _=>rfl)) (Am Cm (pv 3) Ae) (λ _ _=>rfl)) (by with_unfolding_all rfl)) (Ag (Aj Ek)) Au)))
      (Ag (Aj Ek))),?_⟩
    walk_at "w";refine Bf (v:= .ref a4) (SqT.of ha) (Cw (j:=4) rfl) ?_;walk_at "w";refine B5 (SqL.of e4) (HR rfl (by omega)) ?_;rw [eb];refine ⟨b,rfl,⟨_,SqL.of hb⟩,Cu (MD (SqL.of hb)) (λ i σ H3=>∃ x,σ=[some (.ref a),some (nV e),some (nV p),x]/\Same H H3/\∀ j,j<i->¬ d.th.getD e 0∈d.ti.getD ((d.td.getD p []).getD j 0 - 1) []) ⟨_,rfl,Same.refl _,λ j hj=>by omega⟩ (λ i σ H3 ⟨_,_,s,_⟩=>s) ?_ ?_⟩
    · rintro i σ H' H3 hi ⟨x,rfl,s',no⟩ s3;have hi':i<(d.td.getD p []).length:=by simpa using hi
      have sH:=s'.trans s3;have hm:=(ok.pr _ (An (y:=[]) hp)).le _ (An (y:=0) hi');have hk:(d.td.getD p []).getD i 0 - 1<d.ti.length:=by have:=ok.il;omega
      obtain ⟨b',eb',hb'⟩:=el3 _ hk;rw [AS hi];walk_at "w";refine Bf (v:= .ref a2) (SqT.of (sH _ _ ha)) (Cw (j:=2) rfl) ?_;walk_at "w";refine B5 (SqL.of (sH _ _ e2)) (Df (by omega) (by omega)) ?_;walk_at "w";refine Bf (v:= .ref a3) (SqT.of (sH _ _ ha)) (Cw (j:=3) rfl) ?_;walk_at "w";refine B5 (SqL.of (sH _ _ e3)) (HR (j:=(d.td.getD p []).getD i 0 - 1) (by omega) (by omega)) ?_;rw [eb',Int.toNat_natCast];refine Pb (tp:=false) (SqL.of (sH _ _ hb')) ?_;walk_at "w";refine Gv (λ hs=> ?_) (λ hs=> ?_)
      · walk_at "w";refine E4 ?_ (k H3 sH);unfold isL;symm;rw [List.any_eq_true];exact ⟨_,An (y:=0) hi',by simpa using hs⟩
      · walk_at "w";refine ⟨_,rfl,sH,λ j hj=> ?_⟩;rcases Nat.lt_or_ge j i with z | z
        · exact no j z
        · have:j=i:=by omega
          subst this;exact hs
    · rintro σ H3 ⟨x,rfl,s3,no⟩;walk_at "w";refine E4 ?_ (k H3 s3);unfold isL;symm;rw [List.any_eq_false];intro k hk;obtain ⟨j,hj,rfl⟩:=List.getElem_of_mem hk;have:=no j (by simpa using hj);rw [G6 hj] at this;simpa using this
def Ei (c:Cs):Sp:=λ vs H Q _=>∃ x n rs,∃ e p:Nat,vs=[.ref x,nV e,nV p]/\ClAt c.Cloth H x n rs/\1<=e/\e<=100/\1<=p/\p<=rs.length/\Q (.bl ((rs.getD (p - 1) 0).testBit (e - 1))) H
noncomputable abbrev CZ:Stmt:=AD (top 49) 6
theorem Ie:FnScope ["self","end","pick"] ["self","end","pick"] (Ah CZ):=⟨rfl,rfl,rfl,by decide +kernel,rfl,by decide +kernel,by decide +kernel⟩
theorem He {f:Addr} {fd:FuncData} (F:Fun K "is_up" "Cloth.is_up" CZ f fd) (T:Txt K mg c) (c_has_number:CallF P w K mg base "has_number" 2 ["mask","number"] B8):FnOk P w K mg base CX0 3 f fd ["self","end","pick"] (Ei c):=by
  refine F.ok Ie (λ vs H Q E h=> ?_) (λ cdv A outer s H vs Q E hr h=> ?_)
  · obtain ⟨x,n,rs,e,p,rfl,_⟩:=h;rfl
  · obtain ⟨x,n,rs,e,p,rfl,⟨dx,t,h1,h2⟩,e1,e2,p1,p2,k⟩:=h;refine ⟨_,(Ag (Aj (Ad c_has_number hr (Aa (AT (BQ (K:=K)) (AN (K:=K) (pv 0) rfl) (Am Cm (pv 2) Ae) (λ _ _=>rfl)) (Aa (pv 1) Ab))))),?_⟩;walk_at "w";refine ⟨_,_,_,_,_,rfl,h1,T.kd_Cloth.cl,T.na_Cloth_rows,rfl,?_⟩;walk_at "w";rw [show ((p:Nat):Int) - 1=((p - 1:Nat):Int) by omega];refine Bf (SqT.of h2) (Df (by omega) (by omega)) ?_;rw [Int.toNat_natCast];walk_at "w";exact ⟨_,e,rfl,e1,by omega,k⟩
theorem Mo (G:Nat->List Nat) {n j:Nat} (h:j<n):((List.range n).map G).getD j []=G j:=by
  rw [List.getD_eq_getElem?_getD,List.getElem?_map,List.getElem?_range h];rfl
noncomputable def Bo (w:Nat) (d:Dr):Dr:=if w=0 then KC d else if w=1 then K7 d else if w=2 then Gp d else GI d
theorem KL {d:Dr} {w:Nat} (ok:DrOk d) (hw:w<4) (pl:2<=w->Plain d):DrOk (Bo w d):=by
  rcases lt4 hw with rfl | rfl | rfl | rfl
  · exact MU ok
  · exact Nh ok
  · exact Np ok
  · exact M5 ok (pl (by decide))
noncomputable def DT (d:Dr) (p e:Nat):Bool:=isL d p (d.th.getD e 0)
theorem G5 {d:Dr} {p s:Nat} (h:(d.td.getD p []).length=1):isL d p s=decide (s∈d.ti.getD ((d.td.getD p []).getD 0 0 - 1) []):=by
  unfold isL;generalize d.td.getD p []=l at h;rw [Mw h];simp
theorem Rj {m s:Nat} {ns:List Nat} (h1:1<=s) (h2:s<=m):(s∈Cl 1 m ns)↔¬ s∈ns:=by
  unfold Cl;rw [List.mem_filter,List.mem_map];constructor
  · rintro ⟨_,h⟩;simpa using h
  · intro h;exact ⟨⟨s - 1,List.mem_range.mpr (by omega),by omega⟩,by simpa using h⟩
theorem up0 {d:Dr} {p e:Nat} (he:e<d.th.length):DT (KC d) p e=DT d p (d.th.length - 1 - e):=by
  unfold DT;show isL (KC d) p (d.th.reverse.getD e 0)=_;rw [Ii d.th 0 he];rfl
theorem up1 {d:Dr} {p e:Nat} (hp:p<d.td.length):DT (K7 d) p e=DT d (d.td.length - 1 - p) e:=by
  unfold DT isL;show (d.td.reverse.getD p []).any _=_;rw [Ii d.td [] hp];rfl
theorem up2 {d:Dr} (ok:DrOk d) (pl:Plain d) {p e:Nat} (hp:p<d.td.length) (he:e<d.th.length):DT (Gp d) p e= !DT d p e:=by
  have h1:=pl.p _ (An (y:=[]) hp);have hm:=(ok.pr _ (An (y:=[]) hp)).le _ (An (y:=0) (show 0<(d.td.getD p []).length by omega));have il:=ok.il;have e1:=pl.e _ (An (y:=0) he);have e2:=ok.hs _ (An (y:=0) he);unfold DT;rw [G5 h1];have:isL (Gp d) p ((Gp d).th.getD e 0)=decide (d.th.getD e 0∈(d.ti.map (Cl 1 d.sh)).getD ((d.td.getD p []).getD 0 0 - 1) []):=G5 (d:=Gp d) h1;rw [this,AA (Cl 1 d.sh) d.ti _ [] [] (by omega), <-decide_not];exact decide_eq_decide.mpr (Rj (by omega) e2)
theorem up3 {d:Dr} (ok:DrOk d) (pl:Plain d) {p e:Nat} (hp:p<d.th.length) (he:e<d.td.length):DT (GI d) p e= !DT d e p:=by
  have h1:=pl.p _ (An (y:=[]) he);have hm:=(ok.pr _ (An (y:=[]) he)).le _ (An (y:=0) (show 0<(d.td.getD e []).length by omega));have e1:=pl.e _ (An (y:=0) hp);have e2:=ok.hs _ (An (y:=0) hp);have q1:(GI d).td.getD p []=[d.th.getD p 0]:=AA (λ s=>[s]) d.th p [] 0 hp;have q2:(GI d).th.getD e 0=(d.td.getD e []).getD 0 0:=AA (λ l:List Nat=>l.getD 0 0) d.td e 0 [] he;unfold DT;rw [G5 (d:=GI d) (by rw [q1];rfl),G5 h1,q1,q2];have q3:(GI d).ti.getD ([d.th.getD p 0].getD 0 0 - 1) []=((List.range d.tr).filter λ t=> !decide (d.th.getD p 0 - 1+1∈d.ti.getD t [])).map (· + 1):=Mo (λ s=>((List.range d.tr).filter λ t=> !decide (s+1∈d.ti.getD t [])).map (· + 1)) (show d.th.getD p 0 - 1<d.sh by omega);rw [q3, <-decide_not];refine decide_eq_decide.mpr ?_;rw [List.mem_map,show d.th.getD p 0 - 1+1=d.th.getD p 0 by omega];generalize (d.td.getD e []).getD 0 0=t at hm;constructor
  · rintro ⟨k,hk,rfl⟩;simpa using (List.mem_filter.mp hk).2
  · intro h;exact ⟨t - 1,List.mem_filter.mpr ⟨List.mem_range.mpr (by omega),by simpa using h⟩,by omega⟩
noncomputable def atT (w:Nat) (d:Dr) (p e:Nat):Bool:=if w=0 then DT d p (d.th.length - 1 - e) else if w=1 then DT d (d.td.length - 1 - p) e else if w=2 then !DT d p e else !DT d e p
theorem EJ {d:Dr} {w:Nat} (ok:DrOk d) (hw:w<4) (pl:2<=w->Plain d) {p e:Nat} (hp:p<(Bo w d).td.length) (he:e<(Bo w d).th.length):DT (Bo w d) p e=atT w d p e:=by
  rcases lt4 hw with rfl | rfl | rfl | rfl
  · exact up0 (by have:e<d.th.reverse.length:=he;rwa [List.length_reverse] at this)
  · exact up1 (by have:p<d.td.reverse.length:=hp;rwa [List.length_reverse] at this)
  · exact up2 ok (pl (by decide)) hp he
  · exact up3 ok (pl (by decide)) (by have:p<(d.th.map λ s=>[s]).length:=hp;rwa [List.length_map] at this) (by have:e<(d.td.map (·.getD 0 0)).length:=he;rwa [List.length_map] at this)
theorem DE (d:Dr):(F5 d).length=d.td.length:=by unfold F5;rw [List.length_map]
theorem J9 {d:Dr} (ok:DrOk d) {p e:Nat} (hp:p<d.td.length) (he:e<d.th.length):IB (F5 d) p e=DT d p e:=Ki ok hp he
theorem SS {d:Dr} (ok:DrOk d):F5 d=mkR d.th.length d.td.length (DT d):=by
  refine HF (DE d) λ p hp=> ?_;refine MM.eq_ofB ((Kv ok).lt _ (An (by rw [DE];exact hp))) λ e he=> ?_;exact Ki ok hp he
theorem Pm {d:Dr} {w:Nat} (ok:DrOk d) (hw:w<4) (pl:2<=w->Plain d):(Bo w d).th.length=(tw w d.th.length (F5 d)).1/\F5 (Bo w d)=(tw w d.th.length (F5 d)).2:=by
  rw [SS (KL ok hw pl)];rcases lt4 hw with rfl | rfl | rfl | rfl
  · have l1:(Bo 0 d).th.length=d.th.length:=List.length_reverse;have l2:(Bo 0 d).td.length=d.td.length:=rfl;rw [tw0,DE];refine ⟨l1,?_⟩;rw [l1,l2];refine EN λ p e hp he=> ?_;rw [EJ ok hw pl (by omega) (by omega),J9 ok hp (by omega)];rfl
  · have l1:(Bo 1 d).th.length=d.th.length:=rfl;have l2:(Bo 1 d).td.length=d.td.length:=List.length_reverse;rw [tw1,DE];refine ⟨l1,?_⟩;rw [l1,l2];refine EN λ p e hp he=> ?_;rw [EJ ok hw pl (by omega) (by omega),J9 ok (by omega) he];rfl
  · have l1:(Bo 2 d).th.length=d.th.length:=rfl;have l2:(Bo 2 d).td.length=d.td.length:=rfl;rw [tw2,DE];refine ⟨l1,?_⟩;rw [l1,l2];refine EN λ p e hp he=> ?_;rw [EJ ok hw pl (by omega) (by omega),J9 ok hp he];rfl
  · have l1:(Bo 3 d).th.length=d.td.length:=List.length_map _;have l2:(Bo 3 d).td.length=d.th.length:=List.length_map _;rw [tw3,DE];refine ⟨l1,?_⟩;rw [l1,l2];refine EN λ p e hp he=> ?_;rw [EJ ok hw pl (by omega) (by omega),J9 ok he hp];rfl
noncomputable def Lh (d:Dr) (th:List Nat) (td:List (List Nat)):Dr:={ d with th:=th,td:=td }
theorem KK {d:Dr} (ok:DrOk d) {th:List Nat} {td:List (List Nat)} (l1:th.length=d.th.length) (l2:td.length=d.td.length) (h1:∀ n∈th,n<=d.sh) (h2:∀ l∈td,Rise d.tr l):DrOk (Lh d th td) where
  s1:=ok.s1
  s2:=ok.s2
  t1:=ok.t1
  t2:=ok.t2
  h1:=by show 1<=th.length;rw [l1];exact ok.h1
  h2:=by show th.length<=60;rw [l1];exact ok.h2
  hs:=h1
  il:=ok.il
  ir:=ok.ir
  p1:=by show 1<=td.length;rw [l2];exact ok.p1
  p2:=by show td.length<=60;rw [l2];exact ok.p2
  pr:=h2
  wl:=by show d.wa.length=th.length;rw [l1];exact ok.wl
  wc:=ok.wc
  fl:=by show d.we.length=td.length;rw [l2];exact ok.fl
  fc:=ok.fc
theorem U0 {m t:Nat} (h1:1<=t) (h2:t<=m):Rise m [t]:=λ j hj=>by
  have hj:j=0:=by simpa using hj
  subst hj;show 0+1<=t/\t<=m;omega
theorem MY {H:Hp} {d:Dr} {p a2 a5 a6:Addr} {v3 v4:V} {th:List Nat} {td:List (List Nat)} (g:H p=some (.tup [nV d.sh,nV d.tr, .ref a2,v3,v4, .ref a5, .ref a6])) (g2:H a2=some (.lst (th.map nV))) (r3:Rp H FT 2 v3 (dLL d.ti)) (r4:Rp H FT 2 v4 (dLL td))
    (g5:H a5=some (.lst (d.wa.map V.str))) (g6:H a6=some (.lst (d.we.map V.str))) (ok:DrOk (Lh d th td)):Rp H FT 3 (.ref p) (dDr (Lh d th td)):=by
  have h1:th.length<=60:=ok.h2;have h2:td.length<=60:=ok.p2;have h3:d.wa.length=th.length:=ok.wl;have h4:d.we.length=td.length:=ok.fl;exact DR g (.int _) (.int _) (C9 (ns:=th) g2 trivial (by omega)) r3 r4 (GY (zs:=d.wa) g5 trivial (by omega)) (GY (zs:=d.we) g6 trivial (by omega))
def CA (K:PySem.W.Frag):Sp:=λ vs H Q _=>∃ (v:V) (d:Dr) (a:Addr) (ns:List Int),vs=[v, .ref a]/\Rp H FT 3 v (dDr d)/\DrOk d/\SqL K H a (ns.map V.int)/\ns.length<=63/\d.th.length=Hy ns.length 0/\d.td.length=Hy ns.length 1/\∀ H' p d',Same H H'->Rp H' FT 3 (.ref p) (dDr d')->DrOk d'->Q (.ref p) H'
noncomputable abbrev BJ:Stmt:=top 72
theorem sc__law_made_plain:FnScope ["_law_due","_law_script","_law_threading","_law_treading"] ["_law_due","_law_script"] (Ah BJ):=⟨rfl,rfl,rfl,by decide +kernel,rfl,by decide +kernel,by decide +kernel⟩
theorem Fo {f:Addr} {fd:FuncData} (F:Fun K "_law_made_plain" "_law_made_plain" BJ f fd) (T:Txt K mg c) (c__law_cells:CallF P w K mg base "_law_cells" 1 ["_law_script","_law_first"] (C8 K)):FnOk P w K mg base CX0 2 f fd ["_law_due","_law_script"] (CA K):=by
  refine F.ok sc__law_made_plain (λ vs H Q E h=> ?_) (λ cdv A outer s H vs Q E hr h=> ?_)
  · obtain ⟨v,d,a,ns,rfl,_⟩:=h;rfl
  · obtain ⟨v,d,a,ns,rfl,rv,ok,sa,hn,c1,c2,k⟩:=h;have t1:=ok.s1;have t3:=ok.t1;obtain ⟨m,t,a2,v3,v4,a5,a6,em,rfl,gt,y2,r3,r4,y5,y6⟩:=Fi rv;cases em;refine ⟨_,(Ac (Bk (i:=2) sc__law_made_plain.nd rfl (Or.inl rfl) (Bp (K:=K) (Ad c__law_cells hr (Aa (pv 1) (Aa Ae Ab)))) (λ _ _ _ _=>Ao) (λ _ _ _ _=>(Am AR Ae (Am A5 (pv 0) (AT (BQ (K:=K)) (pv 1) Ae (λ _ _=>rfl))))))
      (Ac (Bk (i:=3) sc__law_made_plain.nd rfl (Or.inl rfl) (Bp (K:=K) (Ad c__law_cells hr (Aa (pv 1) (Aa Ae Ab)))) (λ _ _ _ _=>Ao) (λ _ _ _ _=>(AO (Aa (Am AR Ae (Am A5 (Am Do (pv 0) Ae) (AT (BQ (K:=K)) (pv 1) Ae (λ _ _=>rfl)))) Ab))))
      (Ag (Aj (Am (Kx (K:=K)) (Am (Kx (K:=K)) (EB (Ng (K:=K)) (pv 0) F4 (F6 Ae)) (Bd (Aa (pv 2) (Aa (AT (BQ (K:=K)) (pv 0) Ae (λ _ _=>rfl)) (Aa (pv 3) Ab))))) (EB (Ng (K:=K)) (pv 0) (F6 Ae) F4)))))),?_⟩
    walk_at "w";refine ⟨a,ns,0,rfl,sa,hn,by decide,by decide,λ H1 pE eE s1 hpE hE lE1 lE2=> ?_⟩;walk_at "w";refine ⟨pE,rfl,⟨_,SqL.of hE⟩,λ D2 hD2=> ?_⟩;refine AQ (G:=λ i=>(((1+eE.getD i 0%(d.sh:Nat)).toNat:Nat):Int)) (AJ (SqL.of hE) rfl) hD2 (by rw [List.length_map];omega) ?_ ?_
    · intro i H' R hi s kk;rw [Ci hi];walk_at "w";refine Bf (SqT.of (s _ _ (s1 _ _ gt))) rfl ?_;refine AM (show (0:Int)<(d.sh:Nat) by omega) ?_;have h0:=Int.emod_nonneg (eE.getD i 0) (show ((d.sh:Nat):Int)≠0 by omega);walk_at "w";rw [show 1+eE.getD i 0%(d.sh:Nat)=(((1+eE.getD i 0%(d.sh:Nat)).toNat:Nat):Int) by omega];exact kk H' (Same.refl _)
    intro H2 s2 h2;rw [Jq,List.length_map] at h2;have b2:∀ n∈(List.range eE.length).map (λ i=>(1+eE.getD i 0%(d.sh:Nat)).toNat),n<=d.sh:=λ n hn=>by
      obtain ⟨i,_,rfl⟩:=List.mem_map.mp hn;have:=Int.emod_lt_of_pos (eE.getD i 0) (show (0:Int)<(d.sh:Nat) by omega);omega
    have l2:((List.range eE.length).map (λ i=>(1+eE.getD i 0%(d.sh:Nat)).toNat)).length=d.th.length:=by rw [List.length_map,List.length_range,c1];exact lE2.2.2
    generalize (List.range eE.length).map (λ i=>(1+eE.getD i 0%(d.sh:Nat)).toNat)=th at h2 b2 l2;have s02:=s1.trans s2;walk_at "w";refine ⟨a,ns,1,rfl,s02.seq sa,hn,by decide,by decide,λ H3 pF eF s3 hpF hF lF1 lF2=> ?_⟩;walk_at "w";refine ⟨pF,rfl,⟨_,SqL.of hF⟩,λ D4 hD4=> ?_⟩;have s03:=s02.trans s3;refine AF (m:=1) (G:=λ i=>dL [(1+eF.getD i 0 / 7%(d.tr:Nat)).toNat]) (AJ (SqL.of hF) rfl) hD4 (by rw [List.length_map];omega) ?_ ?_
    · intro i H' R hi s kk;rw [Ci hi];walk_at "w";refine AM ⟨by decide,by decide⟩ ?_;walk_at "w";refine Bf (SqT.of (s _ _ (s03 _ _ gt))) rfl ?_;refine AM (show (0:Int)<(d.tr:Nat) by omega) ?_;have h0:=Int.emod_nonneg (eF.getD i 0 / 7) (show ((d.tr:Nat):Int)≠0 by omega);walk_at "w";intro q hq;refine kk _ _ (Ai hq) (C9 (ns:=[(1+eF.getD i 0 / 7%(d.tr:Nat)).toNat]) ?_ hq (by simp));rw [Af];show some (HO.lst [V.int (1+eF.getD i 0 / 7%(d.tr:Nat))])=some (HO.lst [V.int (((1+eF.getD i 0 / 7%(d.tr:Nat)).toNat:Nat):Int)]);congr 4;omega
    intro H4 ys4 s4 hl4 r4';rw [List.length_map,FX (λ i=>[(1+eF.getD i 0 / 7%(d.tr:Nat)).toNat])] at r4';have q4:Rp H4 FT 2 (.ref D4) _:=r4'.any;have b4:∀ l∈(List.range eF.length).map (λ i=>[(1+eF.getD i 0 / 7%(d.tr:Nat)).toNat]),Rise d.tr l:=λ l hl=>by
      obtain ⟨i,_,rfl⟩:=List.mem_map.mp hl;have:=Int.emod_lt_of_pos (eF.getD i 0 / 7) (show (0:Int)<(d.tr:Nat) by omega);have:=Int.emod_nonneg (eF.getD i 0 / 7) (show ((d.tr:Nat):Int)≠0 by omega);exact U0 (by omega) (by omega)
    have l4:((List.range eF.length).map (λ i=>[(1+eF.getD i 0 / 7%(d.tr:Nat)).toNat])).length=d.td.length:=by rw [List.length_map,List.length_range,c2];exact lF2.2.2
    generalize (List.range eF.length).map (λ i=>[(1+eF.getD i 0 / 7%(d.tr:Nat)).toNat])=td at q4 b4 l4;have s04:=s03.trans s4;replace h2:=s4 _ _ (s3 _ _ h2);walk_at "w";refine Kz (SqT.of (s04 _ _ gt)) λ H5 e5 s5 h5=> ?_;have h5:SqT K H5 e5 [nV d.sh,nV d.tr]:=h5;have s05:=s04.trans s5;walk_at "w";refine Bf (SqT.of (s05 _ _ gt)) rfl ?_;walk_at "w";row_lines H5 x6;walk_at "w";refine G8 (SqS.same (tp:=true) h5 s6) (SqT.of g6) (by simp) (by simp) (by simp) λ p7 n7=> ?_;wrow_has H6 x7;have s07:=s05.trans (s6.trans s7);walk_at "w";refine Kz (SqT.of (s07 _ _ gt)) λ H8 e8 s8 h8=> ?_;have h8:SqT K H8 e8 [.ref a5, .ref a6]:=h8;walk_at "w";refine G8 (SqT.of (s8 _ _ g7)) h8 (by simp) (by simp) (by simp) λ p9 n9=> ?_;wrow_has H8 x9;have s49:=s5.trans (s6.trans (s7.trans (s8.trans s9)));have s09:=s04.trans s49;have okw:=KK ok l2 l4 b2 b4;exact k H9 p9 (Lh d th td) s09 (MY g9 (s49 _ _ h2) (r3.same s09) (q4.same s49) (s09 _ _ y5) (s09 _ _ y6) okw) okw
structure SpA (d:Dr) (H H':Hp) (p1 p2:Addr) (th:List Nat) (us:List V) (td:List (List Nat)):Prop where
  sm:Same H H'
  a:H' p1=some (.lst (th.map nV))
  al:th.length=d.th.length
  ab:∀ n∈th,n<=d.sh
  b:H' p2=some (.lst us)
  ul:us.length=td.length
  el:∀ i,i<td.length->∃ q,us.getD i .non= .ref q/\q≠p1/\q≠p2/\H' q=some (.lst ((td.getD i []).map nV))
  tl:td.length=d.td.length
  tb:∀ l∈td,Rise d.tr l
theorem SpA.same {d:Dr} {H H' H2:Hp} {p1 p2:Addr} {th:List Nat} {us:List V} {td:List (List Nat)} (h:SpA d H H' p1 p2 th us td) (s:Same H' H2):SpA d H H2 p1 p2 th us td:=
  ⟨h.sm.trans s,s _ _ h.a,h.al,h.ab,s _ _ h.b,h.ul,λ i hi=>let ⟨q,e,n1,n2,g⟩:=h.el i hi;⟨q,e,n1,n2,s _ _ g⟩,h.tl,h.tb⟩
theorem SpA.setA {d:Dr} {H H':Hp} {p1 p2:Addr} {th:List Nat} {us:List V} {td:List (List Nat)} (h:SpA d H H' p1 p2 th us td) (f1:H p1=none) (ne:p1≠p2) (j x:Nat) (hx:x<=d.sh):SpA d H (upd H' p1 (.lst ((th.map nV).set j (nV x)))) p1 p2 (th.set j x) us td where
  sm:=λ q o e=>by rw [Al (Ap e f1)];exact h.sm _ _ e
  a:=by rw [Af,List.map_set]
  al:=by rw [List.length_set];exact h.al
  ab:=λ n hn=>by
    rcases List.mem_or_eq_of_mem_set hn with z | z
    · exact h.ab n z
    · rw [z];exact hx
  b:=by rw [Al (Ne.symm ne)];exact h.b
  ul:=h.ul
  el:=λ i hi=>let ⟨q,e,n1,n2,g⟩:=h.el i hi;⟨q,e,n1,n2,by rw [Al n1];exact g⟩
  tl:=h.tl
  tb:=h.tb
theorem SpA.setB {d:Dr} {H H':Hp} {p1 p2:Addr} {th:List Nat} {us:List V} {td:List (List Nat)} (h:SpA d H H' p1 p2 th us td) (f2:H p2=none) (ne:p1≠p2) (j:Nat) (hj:j<td.length) {q:Addr} {l:List Nat} (n1:q≠p1) (n2:q≠p2) (g:H' q=some (.lst (l.map nV))) (hl:Rise d.tr l):SpA d H (upd H' p2 (.lst (us.set j (.ref q)))) p1 p2 th (us.set j (.ref q)) (td.set j l) where
  sm:=λ q o e=>by rw [Al (Ap e f2)];exact h.sm _ _ e
  a:=by rw [Al ne];exact h.a
  al:=h.al
  ab:=h.ab
  b:=Af
  ul:=by rw [List.length_set,List.length_set];exact h.ul
  el:=λ i hi=>by
    rw [List.length_set] at hi;by_cases z:i=j
    · subst z;refine ⟨q,?_,n1,n2,?_⟩
      · rw [List.getD_eq_getElem?_getD,List.getElem?_set_self (by have:=h.ul;omega)];rfl
      · rw [Al n2,List.getD_eq_getElem?_getD,List.getElem?_set_self hj];exact g
    · obtain ⟨q',e,m1,m2,g'⟩:=h.el i hi;refine ⟨q',?_,m1,m2,?_⟩
      · rw [List.getD_eq_getElem?_getD,List.getElem?_set_ne (Ne.symm z), <-List.getD_eq_getElem?_getD];exact e
      · rw [Al m2,List.getD_eq_getElem?_getD,List.getElem?_set_ne (Ne.symm z), <-List.getD_eq_getElem?_getD];exact g'
  tl:=by rw [List.length_set];exact h.tl
  tb:=λ x hx=>by
    rcases List.mem_or_eq_of_mem_set hx with z | z
    · exact h.tb x z
    · rw [z];exact hl
theorem Zb {m:Nat}:Rise m []:=λ j hj=>absurd hj (by simp)
theorem Yn {m:Nat} (h:1<m):Rise m [1,m]:=λ j hj=>by
  have hj:j<2:=hj
  match j,hj with
  | 0,_=>exact ⟨by show 0+1<=1;decide,by show 1<=m;omega⟩
  | 1,_=>exact ⟨by show 1+1<=m;omega,Nat.le_refl _⟩
def Ez:Sp:=λ vs H Q _=>∃ (v:V) (d:Dr) (m:Nat),vs=[v,nV m]/\Rp H FT 3 v (dDr d)/\DrOk d/\∀ H' p d',Same H H'->Rp H' FT 3 (.ref p) (dDr d')->DrOk d'->Q (.ref p) H'
noncomputable abbrev CQ:Stmt:=top 73
theorem sc__law_spoilt:FnScope ["_law_due","_law_number","_law_threading","_law_treading","_law_at"] ["_law_due","_law_number"] (Ah CQ):=⟨rfl,rfl,rfl,by decide +kernel,rfl,by decide +kernel,by decide +kernel⟩
theorem HJ {f:Addr} {fd:FuncData} (F:Fun K "_law_spoilt" "_law_spoilt" CQ f fd) (T:Txt K mg c):FnOk P w K mg base CX0 1 f fd ["_law_due","_law_number"] Ez:=by
  refine F.ok sc__law_spoilt (λ vs H Q E h=> ?_) (λ cdv A outer s H vs Q E hr h=> ?_)
  · obtain ⟨v,d,m,rfl,_⟩:=h;rfl
  · obtain ⟨v,d,m,rfl,rv,ok,k⟩:=h;have t1:=ok.h1;have t2:=ok.h2;have q1:=ok.p1;have q2:=ok.p2;obtain ⟨m',t,a2,v3,v4,a5,a6,em,rfl,gt,y2,r3,r4,y5,y6⟩:=Fi rv;cases em;obtain ⟨b4,us4,rfl,gb4,l4,bb4,el4⟩:=GL r4;have hu1:=hr.units1;refine ⟨_,(Ac (Ay (i:=2) sc__law_spoilt.nd rfl (Or.inl rfl) (Ax (CI (K:=K)) rfl (T.own _ (by decide)) Aw (Aa (AT (BQ (K:=K)) (pv 0) Ae (λ _ _=>rfl)) Ab)))
      (Ac (Ay (i:=3) sc__law_spoilt.nd rfl (Or.inl rfl) (Ax (CI (K:=K)) rfl (T.own _ (by decide)) Aw (Aa (AT (BQ (K:=K)) (pv 0) Ae (λ _ _=>rfl)) Ab)))
      (Ac (AV (Av (ZX (K:=K)) (Am A5 (pv 1) Ae) (Bd (Aa Ae (Aa Ae Ab))) (by with_unfolding_all rfl)) (Ag (Ij Ae (L5 (pv 2) (Am A5 (Am Do (pv 1) Ae) (Ak (BW (K:=K)) rfl (T.own _ (by decide)) boot_len (Aa (pv 2) Ab))) HP))) Au)
      (Ac (AV (Av R4 (Am A5 (pv 1) Ae) Ae (AG _)) (Ac (Ay (i:=4) sc__law_spoilt.nd rfl (Or.inl rfl) (Am A5 (Am Do (pv 1) Ae) (Ak (BW (K:=K)) rfl (T.own _ (by decide)) boot_len (Aa (pv 3) Ab))))
      (Ac (Ij (AO Ab) (L5 (pv 3) (pv 4) HP))
      (Ag (AV (PW.pt (TF (Av R4 (AT (BQ (K:=K)) (pv 0) Ae (λ _ _=>rfl)) Ae (AG _)) (Qn (Av Cp (Am A5 (Am Do (pv 1) Ae) Ae) Ae (AG _))))) (Ag (Ij (AO (Aa Ae (Aa (AT (BQ (K:=K)) (pv 0) Ae (λ _ _=>rfl)) Ab))) (L5 (pv 3) (pv 4) HP))) Au)))) Au)
      (Ag (Aj (Am (Kx (K:=K)) (Am (Kx (K:=K)) (EB (Ng (K:=K)) (pv 0) F4 (F6 Ae)) (Bd (Aa (pv 2) (Aa (AT (BQ (K:=K)) (pv 0) Ae (λ _ _=>rfl)) (Aa (pv 3) Ab))))) (EB (Ng (K:=K)) (pv 0) (F6 Ae) F4)))))))),?_⟩
    walk_at "w";refine Bf (SqT.of gt) rfl ?_;walk_at "w";refine JA (SqL.of y2) λ p1 n1=> ?_;wrow_has H x1;walk_at "w";refine Bf (SqT.of (s1 _ _ gt)) rfl ?_;walk_at "w";refine JA (SqL.of (s1 _ _ gb4)) λ p2 n2=> ?_;wrow_has H1 x2;have f2:H p2=none:=s1.free n2;have ne:p1≠p2:=λ z=>by rw [z,n2] at g1;cases g1
    have A0:SpA d H H2 p1 p2 d.th us4 d.td:=⟨s1.trans s2,s2 _ _ g1,rfl,ok.hs,g2,l4,λ i hi=>by
      obtain ⟨q,e,g⟩:=el4 i hi;exact ⟨q,e,Ap g n1,Ap g f2,s2 _ _ (s1 _ _ g)⟩,rfl,ok.pr⟩
    clear s1 s2 g1 g2 n2 el4 gb4;walk_at "v";refine ifJ (λ σ' H3=>∃ th,σ'=[some (.ref t),some (nV m),some (.ref p1),some (.ref p2),none]/\SpA d H H3 p1 p2 th us4 d.td) ?_ (λ key=> ?_);rotate_left
    · walk_at "w";refine AM (by decide) ?_;walk_at "w";row_lines H2 x3;walk_at "w";rw [show ((m:Nat):Int)%4=((m%4:Nat):Int) by push_cast;rfl];refine Pb (tp:=true) (ns:=[1,3]) (SqT.of g3) ?_;have A1:=A0.same s3;walk_at "w";refine Gv (λ _=> ?_) (λ _=> ?_)
      · walk_at "w";refine Ky ?_;walk_at "w";refine AM ⟨by decide,by decide⟩ ?_;walk_at "w";refine Bm (SqL.of A1.a) ?_;rw [List.length_map];walk_at "w";refine AM (show (0:Int)<(d.th.length:Nat) by omega) ?_;rw [show ((m:Nat):Int) / 4%((d.th.length:Nat):Int)=((m / 4%d.th.length:Nat):Int) by push_cast;rfl];refine ⟨p1,_,_,_,rfl,rfl,A1.a,Mg (by rw [List.length_map];exact Nat.mod_lt _ t1),?_⟩;exact key _ _ ⟨_,rfl,A1.setA n1 ne _ 0 (Nat.zero_le _)⟩
      · refine Bz ?_;exact key _ _ ⟨_,rfl,A1⟩
    rintro σ' H3 ⟨th,rfl,A1⟩;clear A0;walk_at "v";refine ifJ (λ σ' H4=>∃ us td u,σ'=[some (.ref t),some (nV m),some (.ref p1),some (.ref p2),u]/\SpA d H H4 p1 p2 th us td) ?_ (λ key=> ?_)
    · rintro σ' H4 ⟨us,td,u,rfl,A2⟩;have s04:=A2.sm;walk_at "w";refine Kz (SqT.of (s04 _ _ gt)) λ H5 e5 s5 h5=> ?_;have h5:SqT K H5 e5 [nV d.sh,nV d.tr]:=h5;have s05:=s04.trans s5;walk_at "w";refine Bf (SqT.of (s05 _ _ gt)) rfl ?_;walk_at "w";row_lines H5 x6;walk_at "w";refine G8 (SqS.same (tp:=true) h5 s6) (SqT.of g6) (by simp) (by simp) (by simp) λ p7 n7=> ?_;wrow_has H6 x7;have s07:=s05.trans (s6.trans s7);walk_at "w";refine Kz (SqT.of (s07 _ _ gt)) λ H8 e8 s8 h8=> ?_;have h8:SqT K H8 e8 [.ref a5, .ref a6]:=h8;walk_at "w";refine G8 (SqT.of (s8 _ _ g7)) h8 (by simp) (by simp) (by simp) λ p9 n9=> ?_;wrow_has H8 x9;have s49:=s5.trans (s6.trans (s7.trans (s8.trans s9)));have A3:=A2.same s49;have s09:=A3.sm;have okw:=KK ok A3.al A3.tl A3.ab A3.tb;have q4:Rp H9 FT 2 (.ref p2) (dLL td):=by
        refine .lst A3.b trivial (by have:=A3.ul;have:=A3.tl;omega) (by rw [A3.ul,List.length_map]) λ i v e hv he=> ?_;have hi:i<td.length:=by have:=(List.getElem?_eq_some_iff.mp hv).1;have:=A3.ul;omega
        obtain ⟨q,eq,_,_,g⟩:=A3.el i hi;rw [List.getD_eq_getElem?_getD,hv] at eq;rw [List.getElem?_map,List.getElem?_eq_getElem hi] at he;cases he;have eq:v= .ref q:=eq;rw [eq];rw [List.getD_eq_getElem?_getD,List.getElem?_eq_getElem hi] at g;exact C9 g trivial (by have:=(A3.tb _ (List.getElem_mem hi)).len;have:=ok.t2;omega)
      exact k H9 p9 (Lh d th td) s09 (MY g9 A3.a (r3.same s09) q4 (s09 _ _ y5) (s09 _ _ y6) okw) okw
    · walk_at "w";refine AM (by decide) ?_;walk_at "w";refine Gv (λ _=> ?_) (λ _=> ?_)
      · walk_at "w";refine AM ⟨by decide,by decide⟩ ?_;walk_at "w";refine Bm (SqL.of A1.b) ?_;rw [l4];walk_at "w";refine AM (show (0:Int)<(d.td.length:Nat) by omega) ?_;rw [show ((m:Nat):Int) / 300%((d.td.length:Nat):Int)=((m / 300%d.td.length:Nat):Int) by push_cast;rfl];have hj:m / 300%d.td.length<d.td.length:=Nat.mod_lt _ q1;generalize m / 300%d.td.length=j at hj;walk_at "w";row_lines H3 x4;walk_at "w";refine Ky ?_;walk_at "w";have A2:=A1.same s4;refine ⟨p2,_,_,j,rfl,rfl,A2.b,Mg (by omega),?_⟩;have A3:=A2.setB f2 ne j (by omega) (q:=p4) (l:=[]) (λ z=>by rw [z,A1.a] at n4;cases n4) (λ z=>by rw [z,A1.b] at n4;cases n4) g4 Zb;generalize upd H4 p2 (.lst (us4.set j (.ref p4)))=H5 at A3 ⊢;walk_at "w";refine Bf (SqT.of (A3.sm _ _ gt)) rfl ?_;walk_at "w";refine Gv (λ h1=> ?_) (λ h1=> ?_)
        · walk_at "w";refine AM ⟨by decide,by decide⟩ ?_;walk_at "w";refine AM (by decide) ?_;walk_at "w";refine Gv (λ _=> ?_) (λ _=> ?_)
          · walk_at "w";refine Bf (SqT.of (A3.sm _ _ gt)) rfl ?_;walk_at "w";row_lines H5 x6;walk_at "w";refine Ky ?_;walk_at "w";have A4:=A3.same s6;refine ⟨p2,_,_,j,rfl,rfl,A4.b,Mg (by rw [List.length_set];omega),?_⟩;exact key _ _ ⟨_,_,_,rfl,A4.setB f2 ne j (by rw [List.length_set];omega) (q:=p6) (l:=[1,d.tr]) (λ z=>by rw [z,A3.a] at n6;cases n6) (λ z=>by rw [z,A3.b] at n6;cases n6) g6 (Yn (by omega))⟩
          · refine Bz ?_;exact key _ _ ⟨_,_,_,rfl,A3⟩
        · refine Bz ?_;exact key _ _ ⟨_,_,_,rfl,A3⟩
      · refine Bz ?_;exact key _ _ ⟨_,_,_,rfl,A1⟩
noncomputable def Nb:Option (Str × Nat)->List V
  | none=>[]
  | some (z,m)=>[.str z,nV m]
theorem JN {p:Nat->Bool} {n j:Nat} {r:List Nat} (h:(List.range n).filter p=j::r):j<n/\p j=true/\∀ i,i<j->p i=false:=by
  have hm:j∈(List.range n).filter p:=by rw [h];exact List.mem_cons_self ..
  obtain ⟨h1,h2⟩:=List.mem_filter.mp hm;have h1:=List.mem_range.mp h1;refine ⟨h1,h2,λ i hi=> ?_⟩;cases hp:p i with
  | false=>rfl
  | true=>
    exfalso;have hi2:i∈(List.range n).filter p:=List.mem_filter.mpr ⟨List.mem_range.mpr (by omega),hp⟩;have pw:((List.range n).filter p).Pairwise (· < ·):=List.pairwise_lt_range.filter p;rw [h] at hi2 pw;rcases List.mem_cons.mp hi2 with z | z
    · omega
    · have:=(List.pairwise_cons.mp pw).1 i z;omega
theorem Lr {p:Nat->Bool} {n:Nat} (h:(List.range n).filter p=[]):∀ i,i<n->p i=false:=λ i hi=>by
  cases hp:p i with
  | false=>rfl
  | true=>
    have:i∈(List.range n).filter p:=List.mem_filter.mpr ⟨List.mem_range.mpr hi,hp⟩;rw [h] at this;cases this
def Cq:Sp:=λ vs H Q _=>∃ (v:V) (d:Dr),vs=[v]/\Rp H FT 3 v (dDr d)/\DrOk d/\∀ H' l o,Same H H'->Lack d o->H' l=some (.lst (Nb o))->Q (.ref l) H'
noncomputable abbrev BB:Stmt:=top 74
theorem sc__law_lacks_plain:FnScope ["_law_due","_law_ends","_law_picks"] ["_law_due"] (Ah BB):=⟨rfl,rfl,rfl,by decide +kernel,rfl,by decide +kernel,by decide +kernel⟩
theorem ER {f:Addr} {fd:FuncData} (F:Fun K "_law_lacks_plain" "_law_lacks_plain" BB f fd) (T:Txt K mg c):FnOk P w K mg base CX0 1 f fd ["_law_due"] Cq:=by
  refine F.ok sc__law_lacks_plain (λ vs H Q E h=> ?_) (λ cdv A outer s H vs Q E hr h=> ?_)
  · obtain ⟨v,d,rfl,_⟩:=h;rfl
  · obtain ⟨v,d,rfl,rv,ok,k⟩:=h;have hu:=hr.units0;have t2:=ok.h2;have q2:=ok.p2;obtain ⟨m',t,a2,v3,v4,a5,a6,em,rfl,gt,y2,r3,r4,y5,y6⟩:=Fi rv;cases em;obtain ⟨b4,us4,rfl,gb4,l4,bb4,el4⟩:=GL r4;refine ⟨_,(Ac (K1 (K:=K) (i:=1) sc__law_lacks_plain.nd rfl (Or.inl rfl) (J7 (K:=K) rfl (T.own _ (by decide)) (Aa (AT (BQ (K:=K)) (pv 0) Ae (λ _ _=>rfl)) Ab)) (λ _ _ _ _=>(BH (Av Cp (pv 1) Ae (AG _)))) (λ _ _ _ _=>(Am AR (pv 0) Ae)))
      (Ac (K1 (K:=K) (i:=2) sc__law_lacks_plain.nd rfl (Or.inl rfl) (J7 (K:=K) rfl (T.own _ (by decide)) (Aa (AT (BQ (K:=K)) (pv 0) Ae (λ _ _=>rfl)) Ab)) (λ _ _ _ _=>(BH (Av JK (Ak (BW (K:=K)) rfl (T.own _ (by decide)) boot_len (Aa (pv 1) Ab)) Ae (AG _)))) (λ _ _ _ _=>(Am AR (pv 0) Ae)))
      (Ac (AV (Av (Pr hu (K:=K)) (pv 1) (AO Ab) (AG _)) (Ag (Aj (AO (Aa As (Aa (AT (Dn (K:=K)) (pv 1) Ae (λ _ _=>rfl)) Ab))))) Au)
      (Ag (Aj (PV (Av (Pr hu (K:=K)) (pv 2) (AO Ab) (AG _)) (AO (Aa As (Aa (AT (Dn (K:=K)) (pv 2) Ae (λ _ _=>rfl)) Ab))) (AO Ab))))))),?_⟩
    walk_at "w";refine Bf (SqT.of gt) rfl ?_;walk_at "w";refine ⟨a2,rfl,⟨_,SqL.of y2⟩,λ D1 hD1=> ?_⟩;refine A9 (p:=λ i=>decide (d.th.getD i 0=0)) (G:=λ i=>(i:Int)+1) (Hm (SqL.of y2) rfl rfl) hD1 (by rw [List.length_map];omega) ?_ ?_ ?_
    · intro i H' R hi s kk;rw [AS hi];walk_at "w";rw [show decide (((d.th.getD i 0:Nat):Int)=0)=decide (d.th.getD i 0=0) from decide_eq_decide.mpr (by omega)];exact kk H' (Same.refl _)
    · intro i H' R hi hp s kk;walk_at "w";exact kk H' (Same.refl _)
    intro H1 s1 g1;rw [List.length_map] at g1;walk_at "w";refine Bf (SqT.of (s1 _ _ gt)) rfl ?_;walk_at "w";refine ⟨b4,rfl,⟨_,SqL.of (s1 _ _ gb4)⟩,λ D2 hD2=> ?_⟩;refine A9 (p:=λ i=> !decide ((d.td.getD i []).length=1)) (G:=λ i=>(i:Int)+1) (Hm (SqL.of (s1 _ _ gb4)) rfl rfl) hD2 bb4 ?_ ?_ ?_
    · intro i H' R hi s kk;obtain ⟨b,eb,gb⟩:=el4 i (by omega);rw [eb];walk_at "w";refine Bm (SqL.of (s _ _ (s1 _ _ gb))) ?_;rw [List.length_map];walk_at "w";rw [show decide ((((d.td.getD i []).length:Nat):Int)=1)=decide ((d.td.getD i []).length=1) from decide_eq_decide.mpr (by omega)];exact kk H' (Same.refl _)
    · intro i H' R hi hp s kk;walk_at "w";exact kk H' (Same.refl _)
    intro H2 s2 g2;rw [l4] at g2;have s02:=s1.trans s2;replace g1:=s2 _ _ g1;walk_at "w";row_lines H2 x3;walk_at "w";refine M9 (bs:=[]) (SqL.of (s3 _ _ g1)) (SqL.of g3) ?_;walk_at "w";have s03:=s02.trans s3;rcases e1:(List.range d.th.length).filter (λ i=>decide (d.th.getD i 0=0)) with _ | ⟨j,r⟩;rotate_left
    · rw [e1] at g1;obtain ⟨j1,j2,j3⟩:=JN e1;refine Iy (λ _=> ?_) (λ q=>by cases q);walk_at "w";refine B5 (SqL.of (s3 _ _ g1)) (Cw (j:=0) rfl) ?_;walk_at "w";row_lines H3 x4;exact k H4 p4 (some ("end",j+1)) (s03.trans s4) (.ends j j1 (of_decide_eq_true j2) λ i hi=>of_decide_eq_false (j3 i hi)) g4
    have he:∀ i,i<d.th.length->d.th.getD i 0≠0:=λ i hi=>of_decide_eq_false (Lr e1 i hi);refine Iy (λ q=>absurd rfl q) (λ _=> ?_);walk_at "w";row_lines H3 x4;walk_at "w";refine M9 (bs:=[]) (SqL.of (s4 _ _ (s3 _ _ g2))) (SqL.of g4) ?_;walk_at "w";have s04:=s03.trans s4;rcases e2:(List.range d.td.length).filter (λ i=> !decide ((d.td.getD i []).length=1)) with _ | ⟨j,r⟩
    · have hp:∀ i,i<d.td.length->(d.td.getD i []).length=1:=λ i hi=>by have:=Lr e2 i hi;simpa using this
      refine Iy (λ q=>absurd rfl q) (λ _=> ?_);walk_at "w";row_lines H4 x5;exact k H5 p5 none (s04.trans s5) (.none he hp) g5
    · rw [e2] at g2;obtain ⟨j1,j2,j3⟩:=JN e2;refine Iy (λ _=> ?_) (λ q=>by cases q);walk_at "w";refine B5 (SqL.of (s4 _ _ (s3 _ _ g2))) (Cw (j:=0) rfl) ?_;walk_at "w";row_lines H4 x5;exact k H5 p5 (some ("pick",j+1)) (s04.trans s5) (.pick j he j1 (by simpa using j2) λ i hi=>by have:=j3 i hi;simpa using this) g5
def CN:Sp:=λ vs H Q _=>∃ (w:Nat) (v:V) (d:Dr) (e p:Nat),vs=[nV w,v,nV e,nV p]/\w<4/\Rp H FT 3 v (dDr d)/\DrOk d/\p<(Bo w d).td.length/\e<(Bo w d).th.length/\∀ H',Same H H'->Q (.bl (atT w d p e)) H'
noncomputable abbrev B2:Stmt:=top 76
theorem FG:FnScope ["_law_way","_law_due","_law_end","_law_pick"] ["_law_way","_law_due","_law_end","_law_pick"] (Ah B2):=⟨rfl,rfl,rfl,by decide +kernel,rfl,by decide +kernel,by decide +kernel⟩
theorem Gb {f:Addr} {fd:FuncData} (F:Fun K "_law_at_turned" "_law_at_turned" B2 f fd) (T:Txt K mg c) (c__law_is_up:CallF P w K mg base "_law_is_up" 1 ["_law_due","_law_end","_law_pick"] CS):FnOk P w K mg base CX0 2 f fd ["_law_way","_law_due","_law_end","_law_pick"] CN:=by
  refine F.ok FG (λ vs H Q E h=> ?_) (λ cdv A outer s H vs Q E hr h=> ?_)
  · obtain ⟨w',v,d,e,p,rfl,_⟩:=h;rfl
  · obtain ⟨w',v,d,e,p,rfl,hw,rv,ok,hp,he,k⟩:=h;obtain ⟨m',t,a2,v3,v4,a5,a6,em,rfl,gt,y2,r3,r4,y5,y6⟩:=Fi rv;cases em;obtain ⟨b4,us4,rfl,gb4,l4,bb4,el4⟩:=GL r4;refine ⟨_,(Ac (AV (Av Cp (pv 0) Ae (AG _)) (Ag (Aj (Ad c__law_is_up hr (Aa (pv 1) (Aa (Am Cm (Am Cm (Ak (BW (K:=K)) rfl (T.own _ (by decide)) boot_len (Aa (AT (BQ (K:=K)) (pv 1) Ae (λ _ _=>rfl)) Ab)) Ae) (pv 2)) (Aa (pv 3) Ab)))))) Au)
      (Ac (AV (Av Cp (pv 0) Ae (AG _)) (Ag (Aj (Ad c__law_is_up hr (Aa (pv 1) (Aa (pv 2) (Aa (Am Cm (Am Cm (Ak (BW (K:=K)) rfl (T.own _ (by decide)) boot_len (Aa (AT (BQ (K:=K)) (pv 1) Ae (λ _ _=>rfl)) Ab)) Ae) (pv 3)) Ab)))))) Au)
      (Ac (AV (Av Cp (pv 0) Ae (AG _)) (Ag (Aj (JS (Ad c__law_is_up hr (Aa (pv 1) (Aa (pv 2) (Aa (pv 3) Ab))))))) Au)
      (Ag (Aj (JS (Ad c__law_is_up hr (Aa (pv 1) (Aa (pv 3) (Aa (pv 2) Ab)))))))))),?_⟩
    walk_at "w";rcases lt4 hw with rfl | rfl | rfl | rfl
    · have he:e<d.th.length:=by have:e<d.th.reverse.length:=he;rwa [List.length_reverse] at this
      rw [decide_eq_true (by decide)];refine ES ?_;walk_at "w";refine Bf (SqT.of gt) rfl ?_;walk_at "w";refine Bm (SqL.of y2) ?_;rw [List.length_map];walk_at "w";rw [show ((d.th.length:Nat):Int) - 1 - ((e:Nat):Int)=((d.th.length - 1 - e:Nat):Int) by omega];exact ⟨_,d,_,p,rfl,rv,ok,hp,by omega,λ H1 s1=>k H1 s1⟩
    · have hp:p<d.td.length:=by have:p<d.td.reverse.length:=hp;rwa [List.length_reverse] at this
      rw [decide_eq_false (by decide)];refine BN ?_;walk_at "w";rw [decide_eq_true (by decide)];refine ES ?_;walk_at "w";refine Bf (SqT.of gt) rfl ?_;walk_at "w";refine Bm (SqL.of gb4) ?_;rw [l4];walk_at "w";rw [show ((d.td.length:Nat):Int) - 1 - ((p:Nat):Int)=((d.td.length - 1 - p:Nat):Int) by omega];exact ⟨_,d,e,_,rfl,rv,ok,by omega,he,λ H1 s1=>k H1 s1⟩
    · rw [decide_eq_false (by decide)];refine BN ?_;walk_at "w";rw [decide_eq_false (by decide)];refine BN ?_;walk_at "w";rw [decide_eq_true (by decide)];refine ES ?_;walk_at "w";refine ⟨_,d,e,p,rfl,rv,ok,hp,he,λ H1 s1=> ?_⟩;exact ⟨_,rfl,k H1 s1⟩
    · have hp:p<d.th.length:=by have:p<(d.th.map λ s=>[s]).length:=hp;rwa [List.length_map] at this
      have he:e<d.td.length:=by have:e<(d.td.map (·.getD 0 0)).length:=he;rwa [List.length_map] at this
      rw [decide_eq_false (by decide)];refine BN ?_;walk_at "w";rw [decide_eq_false (by decide)];refine BN ?_;walk_at "w";rw [decide_eq_false (by decide)];refine BN ?_;walk_at "w";refine ⟨_,d,p,e,rfl,rv,ok,he,hp,λ H1 s1=> ?_⟩;exact ⟨_,rfl,k H1 s1⟩
theorem SN {H H':Hp} {a b:Addr} {n:Nat} {vs:List V} {ds:List Dt} (r:Rp H FT (n+1) (.ref a) (.lst ds)) (ha:H a=some (.lst vs)) (s:Same H H') (hb:H' b=some (.lst vs.reverse)):Rp H' FT (n+1) (.ref b) (.lst ds.reverse):=by
  cases r with
  | lst h f bb l e=>
    rw [ha] at h;cases h;refine .lst hb trivial (by rw [List.length_reverse];exact bb) (by rw [List.length_reverse,List.length_reverse,l]) λ i v d hv hd=> ?_;have hi:i<vs.length:=by have:=(List.getElem?_eq_some_iff.mp hv).1;rwa [List.length_reverse] at this
    rw [List.getElem?_reverse hi] at hv;rw [List.getElem?_reverse (by omega)] at hd;exact (e _ v d hv (by rw [l];exact hd)).same s
structure LLat (H:Hp) (q:Addr) (us:List V) (ls:List (List Nat)):Prop where
  l:us.length=ls.length
  el:∀ i,i<ls.length->∃ b,us.getD i .non= .ref b/\b≠q/\H b=some (.lst ((ls.getD i []).map nV))
theorem LLat.same {H H':Hp} {q:Addr} {us:List V} {ls:List (List Nat)} (h:LLat H q us ls) (s:Same H H'):LLat H' q us ls:=⟨h.l,λ i hi=>let ⟨b,e,n,g⟩:=h.el i hi;⟨b,e,n,s _ _ g⟩⟩
theorem LLat.app {H:Hp} {q x:Addr} {us:List V} {ls:List (List Nat)} {l:List Nat} {o:HO} (h:LLat H q us ls) (n:x≠q) (g:H x=some (.lst (l.map nV))):LLat (upd H q o) q (us++[.ref x]) (ls++[l]):=by
  refine ⟨by rw [List.length_append,List.length_append,h.l];rfl,λ i hi=> ?_⟩;rw [List.length_append] at hi;by_cases z:i<ls.length
  · obtain ⟨b,e,nb,gb⟩:=h.el i z;refine ⟨b,?_,nb,?_⟩
    · rw [List.getD_eq_getElem?_getD,List.getElem?_append_left (by rw [h.l];exact z), <-List.getD_eq_getElem?_getD];exact e
    · rw [Al nb,List.getD_eq_getElem?_getD,List.getElem?_append_left z, <-List.getD_eq_getElem?_getD];exact gb
  · have e:i=ls.length:=by simp at hi;omega
    subst e;refine ⟨x,?_,n,?_⟩
    · rw [List.getD_eq_getElem?_getD, <-h.l,List.getElem?_concat_length];rfl
    · rw [Al n,List.getD_eq_getElem?_getD,List.getElem?_concat_length];exact g
theorem LLat.rp {H:Hp} {q:Addr} {us:List V} {ls:List (List Nat)} (h:LLat H q us ls) (g:H q=some (.lst us)) (b:ls.length<=1000) (b2:∀ l∈ls,l.length<=1000):Rp H FT 2 (.ref q) (dLL ls):=by
  refine .lst g trivial (by have:=h.l;omega) (by rw [h.l,List.length_map]) λ i v e hv he=> ?_;have hi:i<ls.length:=by have:=(List.getElem?_eq_some_iff.mp hv).1;have:=h.l;omega
  obtain ⟨x,ex,_,gx⟩:=h.el i hi;rw [List.getD_eq_getElem?_getD,hv] at ex;rw [List.getElem?_map,List.getElem?_eq_getElem hi] at he;cases he;have ex:v= .ref x:=ex;rw [ex];rw [List.getD_eq_getElem?_getD,List.getElem?_eq_getElem hi] at gx;exact C9 gx trivial (by have:=b2 _ (List.getElem_mem hi);omega)
def Eu:Sp:=λ vs H Q _=>∃ (w:Nat) (v:V) (d:Dr),vs=[nV w,v]/\w<4/\Rp H FT 3 v (dDr d)/\DrOk d/\(2<=w->Plain d)/\∀ H' p,Same H H'->Rp H' FT 3 (.ref p) (dDr (Bo w d))->Q (.ref p) H'
noncomputable abbrev CU:Stmt:=top 75
theorem sc__law_turned:FnScope ["_law_way","_law_due","_law_shafts","_law_treadles","_law_threading","_law_ties","_law_treading","_law_warp","_law_weft","_law_shaft","_law_others","_law_drawn"] ["_law_way","_law_due"] (Ah CU):=⟨rfl,rfl,rfl,by decide +kernel,rfl,by decide +kernel,by decide +kernel⟩
theorem Ir {f:Addr} {fd:FuncData} (F:Fun K "_law_turned" "_law_turned" CU f fd) (T:Txt K mg c):FnOk P w K mg base CX0 1 f fd ["_law_way","_law_due"] Eu:=by
  refine F.ok sc__law_turned (λ vs H Q E h=> ?_) (λ cdv A outer s H vs Q E hr h=> ?_)
  · obtain ⟨w',v,d,rfl,_⟩:=h;rfl
  · obtain ⟨w',v,d,rfl,hw,rv,ok,pl,k⟩:=h;have h2:=ok.h2;have p2:=ok.p2;have wl:=ok.wl;have fl:=ok.fl;have t2:=ok.s2;have t3:=ok.t2;have il:=ok.il;obtain ⟨m',t,a2,v3,v4,a5,a6,em,rfl,gt,y2,r3,r4,y5,y6⟩:=Fi rv;cases em;obtain ⟨b3,us3,rfl,gb3,l3,bb3,el3⟩:=GL r3;obtain ⟨b4,us4,rfl,gb4,l4,bb4,el4⟩:=GL r4;refine ⟨_,(Ac (Ij (pv 1) (JO (K:=K) rfl (AI (Az (i:=2) sc__law_turned.nd rfl (Or.inr rfl)) (AI (Az (i:=3) sc__law_turned.nd rfl (Or.inl rfl)) (AI (Az (i:=4) sc__law_turned.nd rfl (Or.inl rfl)) (AI (Az (i:=5) sc__law_turned.nd rfl (Or.inr rfl)) (AI (Az (i:=6) sc__law_turned.nd rfl (Or.inl rfl)) (AI (Az (i:=7) sc__law_turned.nd rfl (Or.inl rfl)) (AI (Az (i:=8) sc__law_turned.nd rfl (Or.inl rfl)) FR)))))))))
      (Ac (AV (Av Cp (pv 0) Ae (AG _)) (Ag (Aj (Bd (Aa (pv 2) (Aa (pv 3) (Aa (Kq (K:=K) (pv 4) (Nq J4 Ae)) (Aa (pv 5) (Aa (pv 6) (Aa (Kq (K:=K) (pv 7) (Nq J4 Ae)) (Aa (pv 8) Ab)))))))))) Au)
      (Ac (AV (Av Cp (pv 0) Ae (AG _)) (Ag (Aj (Bd (Aa (pv 2) (Aa (pv 3) (Aa (pv 4) (Aa (pv 5) (Aa (Kq (K:=K) (pv 6) (Nq J4 Ae)) (Aa (pv 7) (Aa (Kq (K:=K) (pv 8) (Nq J4 Ae)) Ab)))))))))) Au)
      (Ac (AV (Av Cp (pv 0) Ae (AG _)) (Ac (NG (i:=10) sc__law_turned.nd rfl (Or.inl rfl) (Bp (K:=K) (pv 5)) (λ _ _ _ _=>Ao) (λ _ _ _ _=>(Nx (fr:=[("_law_tie",0)]) (BG rfl (T.own _ (by decide)) (Aa Ae (Aa (Am AR (pv 1) Ae) Ab))) (λ _ _ _ _=>(BH (Av (Hb (K:=K)) (pv 0) (pv 1) (by with_unfolding_all rfl)))) (λ _ _ _ _=>(pv 0)))))
      (Ag (Aj (Bd (Aa (pv 2) (Aa (pv 3) (Aa (pv 4) (Aa (pv 10) (Aa (pv 6) (Aa (pv 7) (Aa (pv 8) Ab))))))))))) Au)
      (Ac (Ay (i:=10) sc__law_turned.nd rfl (Or.inl rfl) (AO Ab))
      (Ac (C6 PassesOwn.never rfl (BG rfl (T.own _ (by decide)) (Aa Ae (Aa (Am AR (pv 2) Ae) Ab))) (Az (i:=9) sc__law_turned.nd rfl (Or.inr rfl)) (Ag (AZ (RZ (K:=K) PySem.F.plainAttrs_list PySem.F.slot_list_append PySem.F.type_list_append Gu (pv 10) (Aa (At (BG rfl (T.own _ (by decide)) (Aa Ae (Aa (Am AR (pv 3) Ae) Ab))) (λ _ _ _ _=>(BH (Av (Hb (K:=K)) (pv 1) (AT (Dn (K:=K)) (pv 2) (Am Cm (pv 0) Ae) (λ _ _=>rfl)) (by with_unfolding_all rfl)))) (λ _ _ _ _=>(pv 0))) Ab)))))
      (Ac (Bk (i:=11) sc__law_turned.nd rfl (Or.inl rfl) (Bp (K:=K) (pv 6)) (λ _ _ _ _=>Ao) (λ _ _ _ _=>(AT (Dn (K:=K)) (pv 0) Ae (λ _ _=>rfl))))
      (Ag (Aj (Bd (Aa (pv 3) (Aa (pv 2) (Aa (pv 11) (Aa (pv 10) (Aa (At (Bp (K:=K) (pv 4)) (λ _ _ _ _=>Ao) (λ _ _ _ _=>(AO (Aa (pv 0) Ab)))) (Aa (pv 8) (Aa (pv 7) Ab))))))))))))))))),?_⟩
    walk_at "w";refine MQ (SqT.of gt) rfl ?_;walk_at "w";rcases lt4 hw with rfl | rfl | rfl | rfl
    · rw [decide_eq_true (by decide)];refine ES ?_;walk_at "w";refine JX (SqL.of y2) λ p1 n1=> ?_;wrow_has H x1;rw [<-List.map_reverse] at g1;walk_at "w";refine JX (SqL.of (s1 _ _ y5)) λ p2 n2=> ?_;wrow_has H1 x2;rw [<-List.map_reverse] at g2;have s02:=s1.trans s2;walk_at "w";row_lines H2 x3;have s03:=s02.trans s3;exact k H3 p3 s03 (DR (d2:=dL d.th.reverse) (d5:=dS d.wa.reverse) g3 (.int _) (.int _) (C9 (s3 _ _ (s2 _ _ g1)) trivial (by rw [List.length_reverse];omega)) (r3.same s03) (r4.same s03) (GY (s3 _ _ g2) trivial (by rw [List.length_reverse];omega)) (GY (zs:=d.we) (s03 _ _ y6) trivial (by omega)))
    · rw [decide_eq_false (by decide)];refine BN ?_;walk_at "w";rw [decide_eq_true (by decide)];refine ES ?_;walk_at "w";refine JX (SqL.of gb4) λ p1 n1=> ?_;wrow_has H x1;walk_at "w";refine JX (SqL.of (s1 _ _ y6)) λ p2 n2=> ?_;wrow_has H1 x2;rw [<-List.map_reverse] at g2;have s02:=s1.trans s2;walk_at "w";row_lines H2 x3;have s03:=s02.trans s3;have r4':Rp H3 FT 2 (.ref p1) (dLL d.td.reverse):=by
        unfold dLL;rw [List.map_reverse];exact SN r4 gb4 s03 (s3 _ _ (s2 _ _ g1))
      exact k H3 p3 s03 (DR (d4:=dLL d.td.reverse) (d6:=dS d.we.reverse) g3 (.int _) (.int _) (C9 (ns:=d.th) (s03 _ _ y2) trivial (by omega)) (r3.same s03) r4' (GY (zs:=d.wa) (s03 _ _ y5) trivial (by omega)) (GY (s3 _ _ g2) trivial (by rw [List.length_reverse];omega)))
    · rw [decide_eq_false (by decide)];refine BN ?_;walk_at "w";rw [decide_eq_false (by decide)];refine BN ?_;walk_at "w";rw [decide_eq_true (by decide)];refine ES ?_;walk_at "w";refine ⟨b3,rfl,⟨_,SqL.of gb3⟩,λ D1 hD1=> ?_⟩;refine AF (m:=1) (G:=λ i=>dL (Cl 1 d.sh (d.ti.getD i []))) (AJ (SqL.of gb3) rfl) hD1 bb3 ?_ ?_
      · intro i H' R hi s kk;obtain ⟨b,eb,gb⟩:=el3 i (by omega);rw [eb];walk_at "w";refine ⟨_,_,rfl,⟨by decide,by decide,by omega,by omega⟩,λ D2 hD2=> ?_⟩;rw [show (((d.sh:Nat):Int)+1 - 1).toNat=d.sh by omega];refine A9 (p:=λ j=> !decide (1+j∈d.ti.getD i [])) (G:=λ j=>((1+j:Nat):Int)) (BE rfl) hD2 (by omega) ?_ ?_ ?_
        · intro j H2 R2 hj s2 kk2;rw [show (1:Int)+(j:Nat)=((1+j:Nat):Int) by omega];walk_at "w";refine EM (tp:=false) (SqL.of (s2 _ _ (s _ _ gb))) ?_;exact ⟨_,rfl,kk2 H2 (Same.refl _)⟩
        · intro j H2 R2 hj hp s2 kk2;rw [show (1:Int)+(j:Nat)=((1+j:Nat):Int) by omega];walk_at "w";exact kk2 H2 (Same.refl _)
        · intro H2 s2 hl;refine kk H2 _ s2 (C9 (ns:=Cl 1 d.sh (d.ti.getD i [])) ?_ hD2 (by have:=(HN d.sh (d.ti.getD i [])).len;omega));rw [hl];unfold Cl;rw [List.filter_map,List.map_map,List.map_map];rfl
      intro H1 ys1 s1 hl1 r1;have e1:(List.range us3.length).map (λ i=>dL (Cl 1 d.sh (d.ti.getD i [])))=(d.ti.map (Cl 1 d.sh)).map dL:=by
        rw [l3,List.map_map];exact Aq (λ t=>dL (Cl 1 d.sh t)) d.ti []
      rw [e1] at r1;have r1:Rp H1 FT 2 (.ref D1) (dLL (d.ti.map (Cl 1 d.sh))):=r1.any;walk_at "w";row_lines H1 x3;have s03:=s1.trans s3;exact k H3 p3 s03 (DR (d3:=dLL (d.ti.map (Cl 1 d.sh))) g3 (.int _) (.int _) (C9 (ns:=d.th) (s03 _ _ y2) trivial (by omega)) (r1.same s3) (r4.same s03) (GY (zs:=d.wa) (s03 _ _ y5) trivial (by omega)) (GY (zs:=d.we) (s03 _ _ y6) trivial (by omega)))
    · have pl:=pl (by decide);rw [decide_eq_false (by decide)];refine BN ?_;walk_at "w";rw [decide_eq_false (by decide)];refine BN ?_;walk_at "w";rw [decide_eq_false (by decide)];refine BN ?_;walk_at "w";row_lines H x1;walk_at "w";refine ⟨_,_,rfl,⟨by decide,by decide,by omega,by omega⟩,?_⟩;rw [show (((d.sh:Nat):Int)+1 - 1).toNat=d.sh by omega];refine PL (H0:=H) (Lw (lo:=1) (n:=d.sh)) (λ i σ H3=>∃ u9 us,σ=[some (nV 3),some (.ref t),some (nV d.sh),some (nV d.tr),some (.ref a2),some (.ref b3),some (.ref b4),some (.ref a5),some (.ref a6),u9,some (.ref p1),none]/\Same H H3/\H3 p1=some (.lst us)/\LLat H3 p1 us ((List.range i).map λ s=>((List.range d.tr).filter λ t=> !decide (s+1∈d.ti.getD t [])).map (· + 1))) ⟨_,[],rfl,s1,g1,rfl,λ i hi=>absurd hi (by simp)⟩ (λ i σ H3 ⟨_,_,_,z,_⟩=>z) ?_ ?_
      · rintro i σ H2 H3 hi ⟨u9,us,rfl,s2,g2,L2'⟩ s3;have s03:=s2.trans s3;rw [show (1:Int)+(i:Nat)=((i+1:Nat):Int) by omega];walk_at "w";refine tyL (SqL.of (s3 _ _ g2)) ?_;walk_at "w";refine ⟨_,_,rfl,⟨by decide,by decide,by omega,by omega⟩,λ D4 hD4=> ?_⟩;rw [show (((d.tr:Nat):Int)+1 - 1).toNat=d.tr by omega];refine A9 (p:=λ j=> !decide (i+1∈d.ti.getD j [])) (G:=λ j=>((1+j:Nat):Int)) (BE rfl) hD4 (by omega) ?_ ?_ ?_
        · intro j H5 R5 hj s5 kk5;obtain ⟨b,eb,gb⟩:=el3 j (by omega);rw [show (1:Int)+(j:Nat)=((1+j:Nat):Int) by omega];walk_at "w";refine B5 (SqL.of (s5 _ _ (s03 _ _ gb3))) (HR (j:=j) (by omega) (by omega)) ?_;rw [eb];refine EM (tp:=false) (SqL.of (s5 _ _ (s03 _ _ gb))) ?_;exact ⟨_,rfl,kk5 H5 (Same.refl _)⟩
        · intro j H5 R5 hj hp s5 kk5;rw [show (1:Int)+(j:Nat)=((1+j:Nat):Int) by omega];walk_at "w";exact kk5 H5 (Same.refl _)
        intro H5 s5 g5;have g5:H5 D4=some (.lst ((((List.range d.tr).filter λ t=> !decide (i+1∈d.ti.getD t [])).map (· + 1)).map nV)):=by
          rw [g5,List.map_map,List.map_map];congr 2;refine List.map_congr_left λ j _=> ?_;show V.int ((1+j:Nat):Int)=V.int ((j+1:Nat):Int);rw [Nat.add_comm]
        have g25:=s5 _ _ (s3 _ _ g2);walk_at "w";refine S4 g25 (by have:=L2'.l;simp at this;omega) ?_;walk_at "w";refine ⟨_,_,rfl,λ q o e=> ?_,Af,?_⟩
        · rw [Al (Ap e n1)];exact s5 _ _ (s03 _ _ e)
        · rw [List.range_succ,List.map_append];exact (L2'.same (s3.trans s5)).app (λ z=>by have y:=s3 _ _ g2;rw [<-z,hD4] at y;cases y) g5
      · rintro σ H3 ⟨u9,us,rfl,s03,g3,LL⟩;have rl:∀ l∈(List.range d.sh).map (λ s=>((List.range d.tr).filter λ t=> !decide (s+1∈d.ti.getD t [])).map (· + 1)),l.length<=1000:=λ l hl=>by
          obtain ⟨s,_,rfl⟩:=List.mem_map.mp hl;have:=(Cf (λ t=> !decide (s+1∈d.ti.getD t [])) d.tr).len;omega
        have rO:=LL.rp g3 (by rw [List.length_map,List.length_range];omega) rl;walk_at "w";refine ⟨b4,rfl,⟨_,SqL.of (s03 _ _ gb4)⟩,λ D4 hD4=> ?_⟩;refine AQ (G:=λ i=>(((d.td.getD i []).getD 0 0:Nat):Int)) (AJ (SqL.of (s03 _ _ gb4)) rfl) hD4 bb4 ?_ ?_
        · intro i H' R hi s kk;have hi':i<d.td.length:=by omega
          obtain ⟨b,eb,gb⟩:=el4 i hi';rw [eb];walk_at "w";refine B5 (SqL.of (s _ _ (s03 _ _ gb))) (Df (by decide) (by rw [pl.p _ (An hi')];decide)) ?_;exact kk H' (Same.refl _)
        intro H4 s4 g4;rw [Jq,l4,Aq (λ l=>l.getD 0 0) d.td []] at g4;have s04:=s03.trans s4;walk_at "w";refine ⟨a2,rfl,⟨_,SqL.of (s04 _ _ y2)⟩,λ D5 hD5=> ?_⟩;refine AF (m:=1) (G:=λ i=>dL [d.th.getD i 0]) (AJ (SqL.of (s04 _ _ y2)) rfl) hD5 (by rw [List.length_map];omega) ?_ ?_
        · intro i H' R hi s kk;rw [AS hi];walk_at "w";intro q hq;exact kk _ _ (Ai hq) (C9 (ns:=[d.th.getD i 0]) Af hq (by simp))
        intro H5 ys5 s5 hl5 r5;have e5':(List.range (d.th.map nV).length).map (λ i=>dL [d.th.getD i 0])=(d.th.map λ s=>[s]).map dL:=by
          rw [List.length_map,List.map_map];exact Aq (λ s=>dL [s]) d.th 0
        rw [e5'] at r5;have r5:Rp H5 FT 2 (.ref D5) (dLL (d.th.map λ s=>[s])):=r5.any;have s35:=s4.trans s5;have s05:=s03.trans s35;walk_at "w";row_lines H5 x6;have s06:=s05.trans s6;exact k H6 p6 s06 (DR (d0:=dN d.tr) (d1:=dN d.sh) (d2:=dL (d.td.map λ l:List Nat=>l.getD 0 0)) (d3:=dLL _) (d4:=dLL (d.th.map λ s=>[s])) (d5:=dS d.we) (d6:=dS d.wa) g6 (.int _) (.int _) (C9 (s6 _ _ (s5 _ _ g4)) trivial (by rw [List.length_map];omega)) (rO.same (s35.trans s6)) (r5.same s6) (GY (s06 _ _ y6) trivial (by omega)) (GY (s06 _ _ y5) trivial (by omega)))
theorem Qt {K:PySem.W.Frag} {H:Hp} {Q:VK} {l p:Addr} {as bs:List Str} (c:SqL K H l (as.map V.str)) (d:SqL K H p (bs.map V.str)) (h:Q (.bl (!decide (as=bs))) H):Mc K true (.ref l) (.ref p) H Q:=
  ⟨l,p,_,_,rfl,rfl,c,d,by simp [Br],by simp [Br],by rw [NB];exact h⟩
theorem ON (T:Txt K mg c):KindF K c c.NotPlain 3:=⟨by decide,T.xk_NotPlain.1,T.ki_NotPlain_BadRow,T.ki_NotPlain_BadWord,T.ki_NotPlain_TooMany,T.ki_NotPlain_NotPlain,T.ki_NotPlain_NotGrown,T.ki_NotPlain_BadDraft,T.ki_NotPlain_BadCloth,T.ki_NotPlain_OutOfPlace,T.ki_NotPlain_ValueError⟩
def spP (c:Cs) (i:Nat):Sp:=if i=0 then AU c NF else if i=1 then AU c (qDr c Gp) else AU c (qDr c GI)
theorem S2 {c:Cs} {i:Nat} {x:Addr} {d:Dr} {o:Option (Str × Nat)} {H:Hp} {Q:VK} {E:XK} (cx:DrAt c.Draft H x d) (ok:DrOk d) (lk:Lack d o) (h1:o=none->∀ v H',Same H H'->Q v H')
    (h2:∀ z m,o=some (z,m)->∀ H' dx,Same H H'->H' dx=some (xdO dx [("what", .str z),("number",nV m)])->E (.ref c.NotPlain) (some dx) H'):spP c i [.ref x] H Q E:=by
  unfold spP;split
  · exact ⟨x,d,o,rfl,cx,ok,lk,λ ho H' s=>h1 ho _ H' s,h2⟩
  · split
    · exact ⟨x,d,o,rfl,cx,ok,lk,λ ho H' y s _ _=>h1 ho _ H' s,h2⟩
    · exact ⟨x,d,o,rfl,cx,ok,lk,λ ho H' y s _ _=>h1 ho _ H' s,h2⟩
theorem lt3 {w:Nat} (h:w<3):w=0\/w=1\/w=2:=by omega
def Ed (c:Cs):Sp:=λ vs H Q _=>∃ (w:Nat) (x:Addr) (d:Dr) (o:Option (Str × Nat)),vs=[nV w, .ref x]/\w<3/\DrAt c.Draft H x d/\DrOk d/\Lack d o/\∀ H' l,Same H H'->H' l=some (.lst (Nb o))->Q (.ref l) H'
noncomputable abbrev BK:Stmt:=top 77
theorem sc__law_refused:FnScope ["_law_way","_law_draft_here","_law_error","caught"] ["_law_way","_law_draft_here"] (Ah BK):=⟨rfl,rfl,rfl,by decide +kernel,rfl,by decide +kernel,by decide +kernel⟩
theorem GW {f:Addr} {fd:FuncData} (F:Fun K "_law_refused" "_law_refused" BK f fd) (T:Txt K mg c) (c_need_plain:CallE P w K mg base "need_plain" 3 ["draft"] (AU c NF)) (c_inverted_draft:CallE P w K mg base "inverted_draft" 9 ["draft"] (AU c (qDr c Gp))) (c_quartered_draft:CallE P w K mg base "quartered_draft" 8 ["draft"] (AU c (qDr c GI))) (c__law_kinds:CallF P w K mg base "_law_kinds" 1 ["_law_error"] (EZ K c)):FnOk P w K mg base CX0 10 f fd ["_law_way","_law_draft_here"] (Ed c):=by
  refine F.ok sc__law_refused (λ vs H Q E h=> ?_) (λ cdv A outer s H vs Q E hr h=> ?_)
  · obtain ⟨w',x,d,o,rfl,_⟩:=h;rfl
  · obtain ⟨w',x,d,o,rfl,hw,cx,ok,lk,k⟩:=h;have hu:=hr.units0;obtain ⟨f0,gv_need_plain,v0⟩:=c_need_plain.val;obtain ⟨f1,gv_inverted_draft,v1⟩:=c_inverted_draft.val;obtain ⟨f2,gv_quartered_draft,v2⟩:=c_quartered_draft.val;let SS1:Addr->Sp->Prop:=λ f sp=>∃ i,i<3/\f=[f0,f1,f2].getD i f0/\sp=spP c i;have hS1:∀ g sp,SS1 g sp->∃ k,Room k (A.deeper (envOfC "_law_refused" (Ah BK) s.heap.objs.size f cdv))/\Hn P w K mg base k g sp:=by
      rintro g sp ⟨i,hi,rfl,rfl⟩;rcases lt3 hi with rfl | rfl | rfl
      · exact ⟨_,hr.mono (by decide),v0⟩
      · exact ⟨_,hr.mono (by decide),v1⟩
      · exact ⟨_,hr.mono (by decide),v2⟩
    refine ⟨_,(Ac (Ay (i:=2) sc__law_refused.nd rfl (Or.inl rfl) L6)
      (Ac (TJ (j:=3) rfl rfl T.g_LoomError sc__law_refused.nd rfl rfl (λ _ _ _ hp=>(Ag (AZ (Il (S:=SS1) (AT (Dn (K:=K)) (AO (Aa (Bv gv_need_plain) (Aa (Bv gv_inverted_draft) (Aa (Bv gv_quartered_draft) Ab)))) (pv 0) (λ _ _=>rfl)) hS1 hp (Aa (pv 1) Ab))))) (λ _ _=>(Ag (Ay (i:=2) sc__law_refused.nd rfl (Or.inl rfl) (pv 3)))))
      (Ac (AV (Av TM (pv 2) L6 (AG _)) (Ag (Aj (AO Ab))) Au)
      (Ac (AV (Av (Pr hu (K:=K)) (Ad c__law_kinds (hr.mono (by decide)) (Aa (pv 2) Ab)) (AO (Aa As Ab)) (AG _)) (Ag (Aj (AO (Aa As Ab)))) Au)
      (Ag (Aj (AO (Aa (MP (K:=K) (pv 2) rfl) (Aa (MP (K:=K) (pv 2) rfl) Ab))))))))),?_⟩
    walk_at "w";refine Sv ?_;generalize eE:QE _ _ _ _ _ _=E';have fin:∀ (z:Str) (m:Nat) (H1:Hp) (dx:Addr),o=some (z,m)->Same H H1->H1 dx=some (xdO dx [("what", .str z),("number",nV m)])->E' (.ref c.NotPlain) (some dx) H1:=λ z m H1 dx ho s1 e1=>by
      rw [<-eE];refine ⟨_,rfl,T.xm_NotPlain_LoomError,λ q σ hq hl=> ?_⟩;obtain ⟨x0,x1,x2,x3,rfl⟩:∃ x0 x1 x2 x3,σ=[x0,x1,x2,x3]:=by
        match σ,hl with
        | [x0,x1,x2,x3],_=>exact ⟨x0,x1,x2,x3,rfl⟩
      have s2:=Ai (o:=Fp q c.NotPlain (some dx)) hq;have e2:=s2 _ _ e1;have eq':upd H1 q (Fp q c.NotPlain (some dx)) q=_:=Af;generalize upd H1 q (Fp q c.NotPlain (some dx))=H2 at s2 e2 eq' ⊢;walk_at "w";refine Tq ?_;walk_at "w";refine ⟨rfl,?_⟩;walk_at "w";refine Gv (λ z=>by cases z) (λ _=> ?_);walk_at "w";refine ⟨q,_,_,3,rfl,eq',ON T,λ H3 l s3 hl3 g3=> ?_⟩;walk_at "w";row_lines H3 x4;walk_at "w";refine Qt (as:=[nmK 3]) (bs:=[("plain":Str)]) (SqL.of (s4 _ _ g3)) (SqL.of g4) ?_;rw [show (!decide (([nmK 3]:List Str)=[("plain":Str)]))=false by decide +kernel];walk_at "w";have s34:=s3.trans s4;refine Nr ?_;walk_at "w";refine ⟨q,_,dx,_,_,rfl,s34 _ _ eq',s34 _ _ e2,rfl,T.xk_NotPlain,T.xf_NotPlain_what,?_⟩;walk_at "w";refine Nr ?_;walk_at "w";refine ⟨q,_,dx,_,_,rfl,s34 _ _ eq',s34 _ _ e2,rfl,T.xk_NotPlain,T.xf_NotPlain_number,?_⟩;walk_at "w";row_lines H4 x5;refine k H5 p5 (s1.trans (s2.trans (s34.trans s5))) ?_;rw [ho];exact g5
    clear eE;walk_at "w";refine Hq ?_;walk_at "w";row_lines H x1;walk_at "w";refine B5 (v:= .ref ([f0,f1,f2].getD w' f0)) (SqL.of g1) ?_ ?_
    · rcases lt3 hw with rfl | rfl | rfl <;> rfl
    refine ⟨_,spP c w',rfl,⟨w',hw,rfl,rfl⟩,?_⟩;walk_at "w";refine S2 (cx.same s1) ok lk (λ ho v H2 s2=> ?_) (λ z m ho H2 dx s2 g2=>fin z m H2 dx ho (s1.trans s2) g2);walk_at "w";refine ⟨rfl,?_⟩;walk_at "w";rw [decide_eq_true rfl];refine ES ?_;walk_at "w";row_lines H2 x3;refine k H3 p3 (s1.trans (s2.trans s3)) ?_;rw [ho];exact g3
def spD (c:Cs) (i:Nat):Sp:=if i=0 then Cy c KC else if i=1 then Cy c K7 else if i=2 then AU c (qDr c Gp) else AU c (qDr c GI)
theorem Plain.lack {d:Dr} (pl:Plain d):Lack d none:= .none (λ j hj=>pl.e _ (An hj)) λ j hj=>pl.p _ (An hj)
theorem So {c:Cs} {i:Nat} {x:Addr} {d:Dr} {H:Hp} {Q:VK} {E:XK} (hi:i<4) (cx:DrAt c.Draft H x d) (ok:DrOk d) (pl:2<=i->Plain d) (h1:∀ H' y,Same H H'->DrAt c.Draft H' y (Bo i d)->Q (.ref y) H'):spD c i [.ref x] H Q E:=by
  rcases lt4 hi with rfl | rfl | rfl | rfl
  · exact ⟨x,d,rfl,cx,ok,λ H' y s _ D=>h1 H' y s D⟩
  · exact ⟨x,d,rfl,cx,ok,λ H' y s _ D=>h1 H' y s D⟩
  · exact ⟨x,d,none,rfl,cx,ok,(pl (by decide)).lack,λ _ H' y s _ D=>h1 H' y s D,λ _ _ h=>by cases h⟩
  · exact ⟨x,d,none,rfl,cx,ok,(pl (by decide)).lack,λ _ H' y s _ D=>h1 H' y s D,λ _ _ h=>by cases h⟩
noncomputable def dCl (n:Nat) (rs:List Nat):Dt:= .tup [dN n,dL rs]
theorem RS {H:Hp} {F:Addr->Prop} {n:Nat} {p l:Addr} {rs:List Nat} (hp:H p=some (.tup [nV n, .ref l])) (hl:H l=some (.lst (rs.map nV))) (f:F l) (b:rs.length<=100000):Rp H F 2 (.ref p) (dCl n rs):=Qz hp (.int _) (C9 hl f b)
def EX (c:Cs):Sp:=λ vs H Q _=>∃ (w:Nat) (v:V) (d:Dr) (x:Addr),vs=[nV w,v, .ref x]/\w<4/\Rp H FT 3 v (dDr d)/\DrAt c.Draft H x d/\DrOk d/\(2<=w->Plain d)/\∀ H',Same H H'->Q (.bl true) H'
noncomputable abbrev BM:Stmt:=top 78
theorem sc__law_right:FnScope ["_law_way","_law_due","_law_draft_here","_law_found","_law_told","_law_cloth","_law_pick","_law_end","_law_is_up_here","_law_other"] ["_law_way","_law_due","_law_draft_here"] (Ah BM):=⟨rfl,rfl,rfl,by decide +kernel,rfl,by decide +kernel,by decide +kernel⟩
theorem Jb {f:Addr} {fd:FuncData} (F:Fun K "_law_right" "_law_right" BM f fd) (T:Txt K mg c) (c_mirrored_draft:CallF P w K mg base "mirrored_draft" 9 ["draft"] (Cy c KC)) (c_upended_draft:CallF P w K mg base "upended_draft" 9 ["draft"] (Cy c K7)) (c_inverted_draft:CallE P w K mg base "inverted_draft" 9 ["draft"] (AU c (qDr c Gp))) (c_quartered_draft:CallE P w K mg base "quartered_draft" 8 ["draft"] (AU c (qDr c GI))) (c__law_turned:CallF P w K mg base "_law_turned" 1 ["_law_way","_law_due"] Eu) (c__law_same:CallF P w K mg base "_law_same" (4+1) ["_law_found","_law_due"] (BL 4)) (d_Draft_told:Bu P w K mg base c.Draft "told" 1 ["self"] (Cd c)) (c_woven:CallF P w K mg base "woven" 6 ["draft"] (Ll c)) (c__law_at_turned:CallF P w K mg base "_law_at_turned" 2 ["_law_way","_law_due","_law_end","_law_pick"] CN) (c__law_is_up:CallF P w K mg base "_law_is_up" 1 ["_law_due","_law_end","_law_pick"] CS) (d_Cloth_is_up:Bu P w K mg base c.Cloth "is_up" 3 ["self","end","pick"] (Ei c)) (c_mirrored:CallF P w K mg base "mirrored" 6 ["cloth"] (Cb c 0)) (c_upended:CallF P w K mg base "upended" 6 ["cloth"] (Cb c 1)) (c_inverted:CallF P w K mg base "inverted" 6 ["cloth"] (Cb c 2)) (c_quartered:CallF P w K mg base "quartered" 6 ["cloth"] (Cb c 3)) (d_Cloth_told:Bu P w K mg base c.Cloth "told" 1 ["self"] (Fa c)):FnOk P w K mg base CX0 10 f fd ["_law_way","_law_due","_law_draft_here"] (EX c):=by
  refine F.ok sc__law_right (λ vs H Q E h=> ?_) (λ cdv A outer s H vs Q E hr h=> ?_)
  · obtain ⟨w',v,d,x,rfl,_⟩:=h;rfl
  · obtain ⟨w',v,d,x,rfl,hw,rv,cx,ok,pl,k⟩:=h;obtain ⟨f0,gv_mirrored_draft,v0⟩:=c_mirrored_draft.toE.val;obtain ⟨f1,gv_upended_draft,v1⟩:=c_upended_draft.toE.val;obtain ⟨f2,gv_inverted_draft,v2⟩:=c_inverted_draft.val;obtain ⟨f3,gv_quartered_draft,v3⟩:=c_quartered_draft.val;obtain ⟨e0,gv_mirrored,u0⟩:=c_mirrored.toE.val;obtain ⟨e1,gv_upended,u1⟩:=c_upended.toE.val;obtain ⟨e2,gv_inverted,u2⟩:=c_inverted.toE.val;obtain ⟨e3,gv_quartered,u3⟩:=c_quartered.toE.val;let SS1:Addr->Sp->Prop:=λ f sp=>∃ i,i<4/\f=[f0,f1,f2,f3].getD i f0/\sp=spD c i;have hS1:∀ g sp,SS1 g sp->∃ k,Room k (A.deeper (envOfC "_law_right" (Ah BM) s.heap.objs.size f cdv))/\Hn P w K mg base k g sp:=by
      rintro g sp ⟨i,hi,rfl,rfl⟩;rcases lt4 hi with rfl | rfl | rfl | rfl
      · exact ⟨_,hr.mono (by decide),v0⟩
      · exact ⟨_,hr.mono (by decide),v1⟩
      · exact ⟨_,hr.mono (by decide),v2⟩
      · exact ⟨_,hr.mono (by decide),v3⟩
    let SS2:Addr->Sp->Prop:=λ f sp=>∃ i,i<4/\f=[e0,e1,e2,e3].getD i e0/\sp=Cb c i;have hS2:∀ g sp,SS2 g sp->∃ k,Room k (A.deeper (envOfC "_law_right" (Ah BM) s.heap.objs.size f cdv))/\Hn P w K mg base k g sp:=by
      rintro g sp ⟨i,hi,rfl,rfl⟩;rcases lt4 hi with rfl | rfl | rfl | rfl
      · exact ⟨_,hr.mono (by decide),u0⟩
      · exact ⟨_,hr.mono (by decide),u1⟩
      · exact ⟨_,hr.mono (by decide),u2⟩
      · exact ⟨_,hr.mono (by decide),u3⟩
    refine ⟨_,(Ac (Ay (i:=3) sc__law_right.nd rfl (Or.inl rfl) (Il (S:=SS1) (AT (Dn (K:=K)) (AO (Aa (Bv gv_mirrored_draft) (Aa (Bv gv_upended_draft) (Aa (Bv gv_inverted_draft) (Aa (Bv gv_quartered_draft) Ab))))) (pv 0) (λ _ _=>rfl)) hS1 GN (Aa (pv 2) Ab)))
      (Ac (Ay (i:=4) sc__law_right.nd rfl (Or.inl rfl) (Ad c__law_turned (hr.mono (by decide)) (Aa (pv 0) (Aa (pv 1) Ab))))
      (Ac (AV (PW.pt (Hv (BC (Ba (Ak (QH (K:=K)) rfl (T.own _ (by decide)) boot_isinstance (Aa (pv 3) (Aa (Bv T.g_Draft) Ab))))) (GJ (BC (Ba (Ad c__law_same (hr.mono (by decide)) (Aa (AW (pv 3) d_Draft_told (hr.mono (by decide))) (Aa (pv 4) Ab)))))))) (Ag (Aj Ek)) Au)
      (Ac (Ay (i:=5) sc__law_right.nd rfl (Or.inl rfl) (Ad c_woven (hr.mono (by decide)) (Aa (pv 3) Ab)))
      (Ac (C6 PassesOwn.never rfl (Db rfl (T.own _ (by decide)) (Aa (Ak (BW (K:=K)) rfl (T.own _ (by decide)) boot_len (Aa (AT (BQ (K:=K)) (pv 4) Ae (λ _ _=>rfl)) Ab)) Ab)) (Az (i:=6) sc__law_right.nd rfl (Or.inl rfl)) (Ag (C6 PassesOwn.never rfl (Db rfl (T.own _ (by decide)) (Aa (Ak (BW (K:=K)) rfl (T.own _ (by decide)) boot_len (Aa (AT (BQ (K:=K)) (pv 4) Ae (λ _ _=>rfl)) Ab)) Ab)) (Az (i:=7) sc__law_right.nd rfl (Or.inl rfl)) (Ac (Ay (i:=8) sc__law_right.nd rfl (Or.inl rfl) (Ad c__law_at_turned (hr.mono (by decide)) (Aa (pv 0) (Aa (pv 1) (Aa (pv 7) (Aa (pv 6) Ab))))))
      (Ag (AV (PW.pt (Hv (Av JK (Ad c__law_is_up (hr.mono (by decide)) (Aa (pv 4) (Aa (pv 7) (Aa (pv 6) Ab)))) (pv 8) (AG _)) (GJ (BC (Ba (Ad c__law_same (hr.mono (by decide)) (Aa (Lb (pv 5) d_Cloth_is_up (hr.mono (by decide)) (Aa (Am AR (pv 7) Ae) (Aa (Am AR (pv 6) Ae) Ab))) (Aa (pv 8) Ab)))))))) (Ag (Aj Ek)) Au))))))
      (Ac (Ay (i:=9) sc__law_right.nd rfl (Or.inl rfl) (Il (S:=SS2) (AT (Dn (K:=K)) (AO (Aa (Bv gv_mirrored) (Aa (Bv gv_upended) (Aa (Bv gv_inverted) (Aa (Bv gv_quartered) Ab))))) (pv 0) (λ _ _=>rfl)) hS2 GN (Aa (Ad c_woven (hr.mono (by decide)) (Aa (pv 2) Ab)) Ab)))
      (Ag (Aj (Ad c__law_same (hr.mono (by decide)) (Aa (AW (pv 5) d_Cloth_told (hr.mono (by decide))) (Aa (AW (pv 9) d_Cloth_told (hr.mono (by decide))) Ab))))))))))),?_⟩
    walk_at "w";refine Hq ?_;walk_at "w";row_lines H x1;walk_at "w";refine B5 (v:= .ref ([f0,f1,f2,f3].getD w' f0)) (SqL.of g1) ?_ ?_
    · rcases lt4 hw with rfl | rfl | rfl | rfl <;> rfl
    refine ⟨_,spD c w',rfl,⟨w',hw,rfl,rfl⟩,?_⟩;walk_at "w";have okT:=KL ok hw pl;refine So hw (cx.same s1) ok pl λ H2 y s2 cy=> ?_;have s02:=s1.trans s2;walk_at "w";refine ⟨w',v,d,rfl,hw,rv.same s02,ok,pl,λ H3 p3 s3 r3=> ?_⟩;replace cy:=cy.same s3;have s03:=s02.trans s3;obtain ⟨dy,w1,w2,w3,w4,w5,hy0,_⟩:=id cy;walk_at "w";refine Ov (T.kd_Draft.ty hy0) T.is_Draft ?_;walk_at "w";refine ⟨_,_,_,rfl,hy0,rfl,?_⟩;walk_at "w";refine ⟨y,_,rfl,cy,λ H4 p4 s4 hp4 r4=> ?_⟩;walk_at "w";refine ⟨_,_,_,rfl,r4.any,r3.same s4,λ H5 s5=> ?_⟩;refine ⟨true,rfl,?_⟩;refine BN ?_;have s35:=s4.trans s5;walk_at "w";refine ⟨y,_,rfl,cy.same s35,okT,λ H6 z s6 hz cz=> ?_⟩;have s36:=s35.trans s6;have s06:=s03.trans s36;replace r3:=r3.same s36;replace rv:=rv.same s06;replace cx:=cx.same s06;have tl:=okT.p2;have hl:=okT.h2;obtain ⟨m',t,a2,v3',v4',a5,a6,em,et,gt,y2,q3,q4,y5,y6⟩:=Fi r3;cases em;cases et;obtain ⟨b4,us4,rfl,gb4,l4,bb4,el4⟩:=GL q4;obtain ⟨dz,tz,hz0,htz⟩:=id cz;walk_at "w";refine Bf (SqT.of gt) rfl ?_;walk_at "w";refine Bm (SqL.of gb4) ?_;rw [l4];walk_at "w";refine ⟨_,rfl,by omega,by omega,?_⟩;rw [Int.toNat_natCast];refine Cu (GD (n:=(Bo w' d).td.length)) (λ i σ H7=>∃ q1 q2 q3 q4,σ=[some (nV w'),some v,some (.ref x),some (.ref y),some (.ref p3),some (.ref z),q1,q2,q3,q4]/\Same H6 H7) ⟨_,_,_,_,rfl,Same.refl _⟩ (λ i σ H7 ⟨_,_,_,_,_,z⟩=>z) ?_ ?_
    · rintro i σ H7 H8 hi ⟨q1,q2,q3,q4,rfl,s7⟩ s8;have s68:=s7.trans s8;walk_at "w";refine Bf (SqT.of (s68 _ _ gt)) rfl ?_;walk_at "w";refine Bm (SqL.of (s68 _ _ y2)) ?_;rw [List.length_map];walk_at "w";refine ⟨_,rfl,by omega,by omega,?_⟩;rw [Int.toNat_natCast];refine Cu (GD (n:=(Bo w' d).th.length)) (λ j σ H9=>∃ q2 q3 q4,σ=[some (nV w'),some v,some (.ref x),some (.ref y),some (.ref p3),some (.ref z),some (nV i),q2,q3,q4]/\Same H8 H9) ⟨_,_,_,rfl,Same.refl _⟩ (λ i σ H9 ⟨_,_,_,_,z⟩=>z) ?_ ?_
      · rintro j σ H9 HA hj ⟨q2,q3,q4,rfl,s9⟩ sA;have s8A:=s9.trans sA;have s6A:=s68.trans s8A;walk_at "w";refine ⟨w',v,d,j,i,rfl,hw,rv.same s6A,ok,hi,hj,λ HB sB=> ?_⟩;have s6B:=s6A.trans sB;walk_at "w";refine ⟨_,_,j,i,rfl,r3.same s6B,okT,hi,hj,λ HC sC=> ?_⟩;have s6C:=s6B.trans sC;walk_at "w";rw [show isL (Bo w' d) i ((Bo w' d).th.getD j 0)=atT w' d i j from EJ ok hw pl hi hj];refine Iy (λ q=>absurd rfl q) (λ _=> ?_);walk_at "w";refine ⟨_,_,_,rfl,s6C _ _ hz0,rfl,?_⟩;walk_at "w";refine ⟨z,_,_,j+1,i+1,rfl,cz.same s6C,by omega,by omega,by omega,by rw [DE];omega,?_⟩;rw [Nat.add_sub_cancel,Nat.add_sub_cancel,Ki okT hi hj,show isL (Bo w' d) i ((Bo w' d).th.getD j 0)=atT w' d i j from EJ ok hw pl hi hj];walk_at "w";refine ⟨_,_,_,rfl, .bl _, .bl _,λ HD sD=> ?_⟩;refine ⟨true,rfl,?_⟩;refine BN ?_;refine Bz ?_;exact ⟨_,_,_,rfl,s8A.trans (sB.trans (sC.trans sD))⟩
      · rintro σ H9 ⟨q2,q3,q4,rfl,s9⟩;exact ⟨_,_,_,_,rfl,s68.trans s9⟩
    · rintro σ H7 ⟨q1,q2,q3,q4,rfl,s7⟩;replace cz:=cz.same s7;replace cx:=cx.same s7;walk_at "w";refine Hq ?_;walk_at "w";row_lines H7 x8;walk_at "w";refine B5 (v:= .ref ([e0,e1,e2,e3].getD w' e0)) (SqL.of g8) ?_ ?_
      · rcases lt4 hw with rfl | rfl | rfl | rfl <;> rfl
      refine ⟨_,Cb c w',rfl,⟨w',hw,rfl,rfl⟩,?_⟩;walk_at "w";refine ⟨x,d,rfl,cx.same s8,ok,λ H9 u s9 hu9 cu=> ?_⟩;walk_at "w";refine ⟨u,_,_,rfl,cu,Kv ok,λ HA uA sA huA cA=> ?_⟩;have s7A:=s8.trans (s9.trans sA);obtain ⟨wt1,wt2⟩:=Pm ok hw pl;rw [<-wt1, <-wt2] at cA;have okw:=Kv okT;have lw:=okw.p2;obtain ⟨dz,tz,hz0,htz⟩:=id (cz.same s7A);walk_at "w";refine ⟨_,_,_,rfl,hz0,rfl,?_⟩;walk_at "w";refine ⟨z,_,_,rfl,cz.same s7A,λ HB pB lB sB hpB hlB gpB glB=> ?_⟩;obtain ⟨du,tu,hu0,htu⟩:=id (cA.same sB);walk_at "w";refine ⟨_,_,_,rfl,hu0,rfl,?_⟩;walk_at "w";refine ⟨uA,_,_,rfl,cA.same sB,λ HC pC lC sC hpC hlC gpC glC=> ?_⟩;walk_at "w";exact ⟨_,_,_,rfl,((RS gpB glB trivial (by omega)).same sC).up (by decide),(RS gpC glC trivial (by omega)).up (by decide),λ HD sD=>k _ (s06.trans (s7.trans (s7A.trans (sB.trans (sC.trans sD)))))⟩
noncomputable def YV:Option (Str × Nat)->Dt
  | none=> .lst []
  | some (z,m)=> .lst [.str z,dN m]
theorem ML {H:Hp} {l:Addr} {n:Nat}:∀ {o:Option (Str × Nat)},H l=some (.lst (Nb o))->Rp H FT (n+1) (.ref l) (YV o)
  | none,h=> .lst h trivial (by decide) rfl λ i v d hv _=>by cases hv
  | some (z,m),h=>Th h trivial (.str z) (.int _)
def CO:Sp:=λ vs H Q _=>∃ (v:V) (d:Dr),vs=[v]/\Rp H FT 3 v (dDr d)/\DrOk d/\∀ H',Same H H'->Q (.bl true) H'
noncomputable abbrev BY:Stmt:=top 79
theorem sc__law_all_right:FnScope ["_law_due","_law_draft_here","_law_lacking","_law_way"] ["_law_due"] (Ah BY):=⟨rfl,rfl,rfl,by decide +kernel,rfl,by decide +kernel,by decide +kernel⟩
theorem FC {f:Addr} {fd:FuncData} (F:Fun K "_law_all_right" "_law_all_right" BY f fd) (T:Txt K mg c) (c__law_made:CallF P w K mg base "_law_made" 8 ["_law_due"] (Ga c)) (c__law_right:CallF P w K mg base "_law_right" 10 ["_law_way","_law_due","_law_draft_here"] (EX c)) (c__law_lacks_plain:CallF P w K mg base "_law_lacks_plain" 1 ["_law_due"] Cq) (c__law_same:CallF P w K mg base "_law_same" (4+1) ["_law_found","_law_due"] (BL 4)) (c__law_refused:CallF P w K mg base "_law_refused" 10 ["_law_way","_law_draft_here"] (Ed c)) (c_need_plain:CallE P w K mg base "need_plain" 3 ["draft"] (AU c NF)) (d_Draft_told:Bu P w K mg base c.Draft "told" 1 ["self"] (Cd c)):FnOk P w K mg base CX0 11 f fd ["_law_due"] CO:=by
  refine F.ok sc__law_all_right (λ vs H Q E h=> ?_) (λ cdv A outer s H vs Q E hr h=> ?_)
  · obtain ⟨v,d,rfl,_⟩:=h;rfl
  · obtain ⟨v,d,rfl,rv,ok,k⟩:=h;have hu:=hr.units0;refine ⟨_,(Ac (Ay (i:=1) sc__law_all_right.nd rfl (Or.inl rfl) (Ad c__law_made (hr.mono (by decide)) (Aa (pv 0) Ab)))
      (Ac (AV (PW.pt (Hv (BC (Ba (Ad c__law_right hr (Aa Ae (Aa (pv 0) (Aa (pv 1) Ab)))))) (GJ (BC (Ba (Ad c__law_right hr (Aa Ae (Aa (pv 0) (Aa (pv 1) Ab))))))))) (Ag (Aj Ek)) Au)
      (Ac (Ay (i:=2) sc__law_all_right.nd rfl (Or.inl rfl) (Ad c__law_lacks_plain (hr.mono (by decide)) (Aa (pv 0) Ab)))
      (Ac (C6 PassesOwn.never rfl (Db rfl (T.own _ (by decide)) (Aa Ae Ab)) (Az (i:=3) sc__law_all_right.nd rfl (Or.inl rfl)) (Ag (AV (BC (Ba (Ad c__law_same (hr.mono (by decide)) (Aa (Ad c__law_refused hr (Aa (pv 3) (Aa (pv 1) Ab))) (Aa (pv 2) Ab))))) (Ag (Aj Ek)) Au)))
      (Ac (AV (Av (RP hu (K:=K)) (pv 2) (AO Ab) (AG _)) (Ag (AV (PW.pt (Hv (Av Rn (F2 c_need_plain (hr.mono (by decide)) GN (Aa (pv 1) Ab)) L6 (AG _)) (Hv (BC (Ba (Ad c__law_right hr (Aa Ae (Aa (pv 0) (Aa (pv 1) Ab)))))) (GJ (BC (Ba (Ad c__law_right hr (Aa Ae (Aa (pv 0) (Aa (pv 1) Ab)))))))))) (Ag (Aj Ek)) Au)) Au)
      (Ag (Aj (Ad c__law_same (hr.mono (by decide)) (Aa (AW (pv 1) d_Draft_told (hr.mono (by decide))) (Aa (pv 0) Ab)))))))))),?_⟩
    walk_at "w";refine ⟨v,d,rfl,rv,ok,λ H1 x s1 hx cx=> ?_⟩;walk_at "w";refine ⟨0,v,d,x,rfl,by decide,rv.same s1,cx,ok,λ z=>absurd z (by decide),λ H2 s2=> ?_⟩;refine ⟨true,rfl,?_⟩;refine BN ?_;have s02:=s1.trans s2;walk_at "w";refine ⟨1,v,d,x,rfl,by decide,rv.same s02,cx.same s2,ok,λ z=>absurd z (by decide),λ H3 s3=> ?_⟩;refine ⟨true,rfl,?_⟩;refine BN ?_;have s03:=s02.trans s3;walk_at "w";refine ⟨v,d,rfl,rv.same s03,ok,λ H4 l o s4 lk g4=> ?_⟩;have s04:=s03.trans s4;replace cx:=cx.same (s2.trans (s3.trans s4));replace rv:=rv.same s04;walk_at "w";refine ⟨_,rfl,by omega,by omega,?_⟩;rw [show (3:Int).toNat=3 from rfl];refine Cu (GD (n:=3)) (λ i σ H5=>∃ u,σ=[some v,some (.ref x),some (.ref l),u]/\Same H4 H5) ⟨_,rfl,Same.refl _⟩ (λ i σ H5 ⟨_,_,z⟩=>z) ?_ ?_
    · rintro i σ H5 H6 hi ⟨u,rfl,s5⟩ s6;have s46:=s5.trans s6;walk_at "w";refine ⟨i,x,d,o,rfl,hi,cx.same s46,ok,lk,λ H7 l7 s7 g7=> ?_⟩;walk_at "w";refine ⟨_,_,_,rfl,ML g7,ML (s7 _ _ (s46 _ _ g4)),λ H8 s8=> ?_⟩;refine ⟨true,rfl,?_⟩;refine BN ?_;refine Bz ?_;exact ⟨_,rfl,s46.trans (s7.trans s8)⟩
    rintro σ H5 ⟨u,rfl,s5⟩;replace cx:=cx.same s5;replace rv:=rv.same s5;replace g4:=s5 _ _ g4;replace s04:=s04.trans s5;walk_at "v";refine ifJ (λ σ' H6=>σ'=[some v,some (.ref x),some (.ref l),u]/\Same H5 H6) ?_ (λ key=> ?_)
    · rintro σ' H6 ⟨rfl,s6⟩;obtain ⟨dx,w1,w2,w3,w4,w5,hx0,_⟩:=id (cx.same s6);walk_at "w";refine ⟨_,_,_,rfl,hx0,rfl,?_⟩;walk_at "w";refine ⟨x,_,rfl,cx.same s6,λ H7 p7 s7 hp7 r7=> ?_⟩;walk_at "w";exact ⟨_,_,_,rfl,r7.any,rv.same (s6.trans s7),λ H8 s8=>k _ (s04.trans (s6.trans (s7.trans s8)))⟩
    · walk_at "w";row_lines H5 x6;walk_at "w";cases o with
      | some zm=>
        obtain ⟨z,m⟩:=zm;refine ⟨l,p6,_,_,rfl,rfl,SqL.of (s6 _ _ g4),SqL.of g6,by simp [Br,Nb],by simp [Br],?_⟩;walk_at "w";refine BN ?_;refine Bz ?_;exact key _ _ ⟨rfl,s6⟩
      | none=>
        have pl:=lk.plain;refine Nk (as:=[]) (bs:=[]) (SqL.of (s6 _ _ g4)) (SqL.of g6) ?_;walk_at "w";refine Gv (λ _=> ?_) (λ q=>absurd rfl q);walk_at "w";refine ⟨x,d,none,rfl,cx.same s6,ok,lk,λ _ H7 s7=> ?_,λ _ _ h=>by cases h⟩;have s57:=s6.trans s7;walk_at "w";refine ⟨rfl,?_⟩;walk_at "w";refine Iy (λ q=>absurd rfl q) (λ _=> ?_);walk_at "w";refine ⟨2,v,d,x,rfl,by decide,rv.same s57,cx.same s57,ok,λ _=>pl,λ H8 s8=> ?_⟩;refine ⟨true,rfl,?_⟩;refine BN ?_;have s58:=s57.trans s8;walk_at "w";refine ⟨3,v,d,x,rfl,by decide,rv.same s58,cx.same s58,ok,λ _=>pl,λ H9 s9=> ?_⟩;refine ⟨true,rfl,?_⟩;refine BN ?_;refine Bz ?_;exact key _ _ ⟨rfl,s58.trans s9⟩
noncomputable abbrev OL:Stmt:=top 80
theorem sc_law:FnScope ["_law_script","_law_due","_law_even","_law_number"] ["_law_script"] (Ah OL):=⟨rfl,rfl,rfl,by decide +kernel,rfl,by decide +kernel,by decide +kernel⟩
theorem S9 {f:Addr} {fd:FuncData} (F:Fun K "law" "law" OL f fd) (T:Txt K mg c) (c__law_draft:CallF P w K mg base "_law_draft" 2 ["_law_script","_law_most"] (E6 K)) (c__law_made_plain:CallF P w K mg base "_law_made_plain" 2 ["_law_due","_law_script"] (CA K)) (c__law_mixed:CallF P w K mg base "_law_mixed" 1 ["_law_cell","_law_k"] C4) (c__law_all_right:CallF P w K mg base "_law_all_right" 11 ["_law_due"] CO) (c__law_spoilt:CallF P w K mg base "_law_spoilt" 1 ["_law_due","_law_number"] Ez):FnOk P w K mg base CX0 12 f fd ["_law_script"] (Nl K):=by
  refine F.ok sc_law (λ vs H Q E h=> ?_) (λ cdv A outer s H vs Q E hr h=> ?_)
  · obtain ⟨a,ns,rfl,_⟩:=h;rfl
  · obtain ⟨a,ns,rfl,sa,hn,k⟩:=h;refine ⟨_,(Ac (Ay (i:=1) sc_law.nd rfl (Or.inl rfl) (Ad c__law_draft (hr.mono (by decide)) (Aa (pv 0) (Aa Ae Ab))))
      (Ac (Ay (i:=2) sc_law.nd rfl (Or.inl rfl) (Ad c__law_made_plain (hr.mono (by decide)) (Aa (pv 1) (Aa (pv 0) Ab))))
      (Ac (Ay (i:=3) sc_law.nd rfl (Or.inl rfl) (Ad c__law_mixed (hr.mono (by decide)) (Aa (Ak (R6 (K:=K)) rfl (T.own _ (by decide)) boot_sum (Aa (pv 0) Ab)) (Aa Ae Ab))))
      (Ag (Aj (C7 (Ad c__law_all_right hr (Aa (pv 1) Ab)) (C7 (Ad c__law_all_right hr (Aa (pv 2) Ab)) (Ef (Ad c__law_all_right hr (Aa (Ad c__law_spoilt (hr.mono (by decide)) (Aa (pv 2) (Aa (pv 3) Ab))) Ab)))))))))),?_⟩
    walk_at "w";refine ⟨a,ns,16,rfl,sa,hn,by decide,by decide,λ H1 pt d s1 hpt rd ok c1 c2=> ?_⟩;replace rd:Rp H1 FT 3 _ _:=rd.any;walk_at "w";refine ⟨_,d,a,ns,rfl,rd,ok,s1.seq sa,hn,c1,c2,λ H2 pe de s2 re oke=> ?_⟩;have s02:=s1.trans s2;walk_at "w";refine Pc (s02.seq sa) ?_;walk_at "w";refine ⟨_,70,rfl,⟨by decide,by decide⟩,?_⟩;have m0:=aA ns.sum 70;rw [show CD ns.sum 70=(((CD ns.sum 70).toNat:Nat):Int) by omega];walk_at "w";refine ⟨_,d,rfl,rd.same s2,ok,λ H3 s3=> ?_⟩;refine ⟨true,rfl,?_⟩;refine ES ?_;walk_at "w";refine ⟨_,de,rfl,re.same s3,oke,λ H4 s4=> ?_⟩;refine ⟨true,rfl,?_⟩;refine ES ?_;walk_at "w";refine ⟨_,de,_,rfl,re.same (s3.trans s4),oke,λ H5 p5 d5 s5 r5 ok5=> ?_⟩;walk_at "w";exact ⟨_,d5,rfl,r5,ok5,λ H6 s6=>k H6⟩
end
end K16
namespace K16
open PySem L2 PySem.Spec PyProof.Rows
theorem all_mk {l:PySem.W.OpenLaw} {w:World} {K:PySem.W.Frag} {h:Heap} {mg:Str->Option Value} {fa:Addr} (X:K.In h) (G:h.Ns mainGlobals mg) (hfa:mg "law"=some (.ref fa))
    {C_Draft C_Cloth C_LoomError C_BadRow C_BadWord C_TooMany C_NotPlain C_NotGrown C_BadDraft C_BadCloth C_OutOfPlace C_PARTS f0 f1 f2 f3 f4 f5 f6 f7 f8 f9 f10 f11 f12 f13 f14 f15 f16 f17 f18 f19 f20 f21 f22 f23 f24 f25 f26 f27 f28 f29 f30 f31 f32 f33 f34 f35 f36 f37 f38 f39 f40 f41 f42 f43 f44 f45 f46 f47 f48 f49 f50 f51 f52 f53 f54 f55 f56 f57 f58 f59 f60 f61 f62 f63:Addr} {d0 d1 d2 d3 d4 d5 d6 d7 d8 d9 d10 d11 d12 d13 d14 d15 d16 d17 d18 d19 d20 d21 d22 d23 d24 d25 d26 d27 d28 d29 d30 d31 d32 d33 d34 d35 d36 d37 d38 d39 d40 d41 d42 d43 d44 d45 d46 d47 d48 d49 d50 d51 d52 d53 d54 d55 d56 d57 d58 d59 d60 d61 d62 d63:FuncData}
    {u_PARTS_0 u_PARTS_1 u_PARTS_2 u_PARTS_3 u_PARTS_4 u_PARTS_5 u_PARTS_6:Tok} {n_PARTS:Nat} {od_PARTS:Option Addr} {sl_PARTS:Array (Option Value)}
    (T0:(∃ fi,HT.iniIn K C_NotPlain fi=true)->(∀ H:Hp,SqT K H C_PARTS [.str "shafts", .str "treadles", .str "threading", .str "ties", .str "treading", .str "warp", .str "weft"])->Txt K mg ⟨C_Draft,C_Cloth,C_LoomError,C_BadRow,C_BadWord,C_TooMany,C_NotPlain,C_NotGrown,C_BadDraft,C_BadCloth,C_OutOfPlace,C_PARTS⟩)
    (D0:DefAt K mg "_law_same" CM ["_law_found","_law_due"] f0 d0)
    (D1:DefAt K mg "bit_of" Ih ["number"] f1 d1)
    (D2:DefAt K mg "mask_of" Gm ["numbers"] f2 d2)
    (D3:DefAt K mg "mask_to" GF ["most"] f3 d3)
    (D4:DefAt K mg "has_number" DG ["mask","number"] f4 d4)
    (D5:DefAt K mg "numbers_of" DI ["mask"] f5 d5)
    (D6:DefAt K mg "union_of" Fg ["masks"] f6 d6)
    (D7:DefAt K mg "other_mask" DD ["mask","most"] f7 d7)
    (D8:DefAt K mg "turned_mask" Da ["mask","most"] f8 d8)
    (D9:DefAt K mg "is_whole" Fy ["thing"] f9 d9)
    (D10:DefAt K mg "is_among" Fw ["thing","least","most"] f10 d10)
    (D11:DefAt K mg "need_cloth" DU ["ends","rows"] f11 d11)
    (j12:Mk K C_Cloth f12)
    (D12:FnA K "__init__" "Cloth.__init__" BZ ["self","ends","rows"] f12 d12)
    (j13:Meth K C_Cloth "told" f13)
    (D13:FnA K "told" "Cloth.told" DW ["self"] f13 d13)
    (j14:Meth K C_Cloth "ends" f14)
    (D14:FnA K "ends" "Cloth.ends" Dy ["self"] f14 d14)
    (j15:Meth K C_Cloth "picks" f15)
    (D15:FnA K "picks" "Cloth.picks" C3 ["self"] f15 d15)
    (D16:DefAt K mg "is_colour" EI ["thing"] f16 d16)
    (D17:DefAt K mg "need" Mf ["holds","words"] f17 d17)
    (D18:DefAt K mg "is_list" Gj ["thing","least","most"] f18 d18)
    (D19:DefAt K mg "is_rising" EA ["thing","most"] f19 d19)
    (D20:DefAt K mg "are_rising" DM ["thing","most"] f20 d20)
    (D21:DefAt K mg "are_colours" C5 ["thing","many"] f21 d21)
    (D22:DefAt K mg "need_draft" Dx ["shafts","treadles","threading","ties","treading","warp","weft"] f22 d22)
    (j23:Mk K C_Draft f23)
    (D23:FnA K "__init__" "Draft.__init__" B7 ["self","shafts","treadles","threading","ties","treading","warp","weft"] f23 d23)
    (j24:Meth K C_Draft "told" f24)
    (D24:FnA K "told" "Draft.told" Dp ["self"] f24 d24)
    (j25:Meth K C_Draft "ends" f25)
    (D25:FnA K "ends" "Draft.ends" Du ["self"] f25 d25)
    (D26:DefAt K mg "lift_by" Gy ["ties","treadles"] f26 d26)
    (D27:DefAt K mg "lifts_of" Fv ["draft"] f27 d27)
    (D28:DefAt K mg "ends_through" CJ ["threading","shaft"] f28 d28)
    (D29:DefAt K mg "shaft_ends" DJ ["threading","shafts"] f29 d29)
    (D30:DefAt K mg "row_by" Ho ["carried","lift"] f30 d30)
    (D31:DefAt K mg "woven" JR ["draft"] f31 d31)
    (D32:DefAt K mg "_law_kinds" Dw ["_law_error"] f32 d32)
    (D33:DefAt K mg "_law_mixed" DN ["_law_cell","_law_k"] f33 d33)
    (D34:DefAt K mg "_law_cells" Dv ["_law_script","_law_first"] f34 d34)
    (D35:DefAt K mg "_law_numbers" CC ["_law_mask","_law_most"] f35 d35)
    (D36:DefAt K mg "_law_copied" Ca ["_law_thing"] f36 d36)
    (D37:DefAt K mg "_law_draft" Ds ["_law_script","_law_most"] f37 d37)
    (D38:DefAt K mg "_law_made" ED ["_law_due"] f38 d38)
    (D39:DefAt K mg "changed_draft" Ck ["draft","changes"] f39 d39)
    (j40:Meth K C_Cloth "column_at" f40)
    (D40:FnA K "column_at" "Cloth.column_at" BU ["self","end"] f40 d40)
    (D41:DefAt K mg "mirrored" Ft ["cloth"] f41 d41)
    (D42:DefAt K mg "upended" Gi ["cloth"] f42 d42)
    (D43:DefAt K mg "inverted" Fn ["cloth"] f43 d43)
    (D44:DefAt K mg "quartered" Eh ["cloth"] f44 d44)
    (D45:DefAt K mg "shafts_but" DH ["left_out","least","most"] f45 d45)
    (D46:DefAt K mg "mirrored_draft" B4 ["draft"] f46 d46)
    (D47:DefAt K mg "upended_draft" Cn ["draft"] f47 d47)
    (a48:PySem.W.findIn K (.ref C_NotPlain) "__init__"=some (some (.ref f48)))
    (j48:MkI K C_NotPlain f48)
    (D48:FnA K "__init__" "NotPlain.__init__" Bt ["self","what","number"] f48 d48)
    (D49:DefAt K mg "need_plain" DP ["draft"] f49 d49)
    (D50:DefAt K mg "inverted_draft" B1 ["draft"] f50 d50)
    (D51:DefAt K mg "treadles_without" BD ["ties","shaft"] f51 d51)
    (D52:DefAt K mg "quartered_draft" BS ["draft"] f52 d52)
    (D53:DefAt K mg "_law_is_up" DQ ["_law_due","_law_end","_law_pick"] f53 d53)
    (j54:Meth K C_Cloth "is_up" f54)
    (D54:FnA K "is_up" "Cloth.is_up" CZ ["self","end","pick"] f54 d54)
    (D55:DefAt K mg "_law_made_plain" BJ ["_law_due","_law_script"] f55 d55)
    (D56:DefAt K mg "_law_spoilt" CQ ["_law_due","_law_number"] f56 d56)
    (D57:DefAt K mg "_law_lacks_plain" BB ["_law_due"] f57 d57)
    (D58:DefAt K mg "_law_at_turned" B2 ["_law_way","_law_due","_law_end","_law_pick"] f58 d58)
    (D59:DefAt K mg "_law_turned" CU ["_law_way","_law_due"] f59 d59)
    (D60:DefAt K mg "_law_refused" BK ["_law_way","_law_draft_here"] f60 d60)
    (D61:DefAt K mg "_law_right" BM ["_law_way","_law_due","_law_draft_here"] f61 d61)
    (D62:DefAt K mg "_law_all_right" BY ["_law_due"] f62 d62)
    (D63:DefAt K mg "law" OL ["_law_script"] f63 d63)
    (lk_PARTS:K.lookup C_PARTS=some ⟨.type "tuple",od_PARTS, .seq #[.str "shafts" u_PARTS_0, .str "treadles" u_PARTS_1, .str "threading" u_PARTS_2, .str "ties" u_PARTS_3, .str "treading" u_PARTS_4, .str "warp" u_PARTS_5, .str "weft" u_PARTS_6] n_PARTS,sl_PARTS⟩)
    (hlb:∀ (s:Shared) (u:Value),BindsTo s d63 ⟨[u],[]⟩ [("_law_script",u)])
    : ∃ fd:FuncData,(∀ (s:Shared) (v:Value),BindsTo s fd ⟨[v],[]⟩ [("_law_script",v)])/\∀ base:Heap,K.In base->base.Ns mainGlobals mg->FnOk l.prog w K mg base CX0 12 fa fd ["_law_script"] (Nl K):=by
  cases hfa.symm.trans D63.at';have T:=T0 ⟨_,j48.ini⟩ (λ H=> .inr ⟨_,_,_,lk_PARTS,rfl,rfl,by simp [sizeLine_eq], .cons ⟨_,rfl⟩ (.cons ⟨_,rfl⟩ (.cons ⟨_,rfl⟩ (.cons ⟨_,rfl⟩ (.cons ⟨_,rfl⟩ (.cons ⟨_,rfl⟩ (.cons ⟨_,rfl⟩ (.nil)))))))⟩);exact ⟨_,hlb,λ base _ _=>by
    have c_bit_of:=D1.call (NA (P:=l.prog) (w:=w) (base:=base) D1.fn T);have c_mask_of:=D2.call (LJ (P:=l.prog) (w:=w) (base:=base) D2.fn T c_bit_of);have c_mask_to:=D3.call (Mi (P:=l.prog) (w:=w) (base:=base) D3.fn T);have c_has_number:=D4.call (Iz (P:=l.prog) (w:=w) (base:=base) D4.fn T c_bit_of);have c_numbers_of:=D5.call (Jh (P:=l.prog) (w:=w) (base:=base) D5.fn T c_has_number);have c_union_of:=D6.call (KI (P:=l.prog) (w:=w) (base:=base) D6.fn T);have c_other_mask:=D7.call (IU (P:=l.prog) (w:=w) (base:=base) D7.fn T c_mask_to);have c_turned_mask:=D8.call (HG (P:=l.prog) (w:=w) (base:=base) D8.fn T c_mask_of c_numbers_of);have c_is_whole:=D9.call (K0 (P:=l.prog) (w:=w) (base:=base) D9.fn T);have c_is_among:=D10.call (KW (P:=l.prog) (w:=w) (base:=base) D10.fn T c_is_whole);have c_need_cloth:=D11.callE (IC (P:=l.prog) (w:=w) (base:=base) D11.fn T c_is_among c_mask_to);have m_Cloth:Hu l.prog w K mg base "Cloth" C_Cloth 4 ["self","ends","rows"] _:=⟨_,_,T.g_Cloth,j12,F8 (P:=l.prog) (w:=w) (base:=base) D12.fn T c_need_cloth,D12.bi⟩;have d_Cloth_told:Bu l.prog w K mg base C_Cloth "told" 1 ["self"] _:=⟨_,_,T.kd_Cloth.cl,j13,IG (P:=l.prog) (w:=w) (base:=base) D13.fn T,D13.bi⟩;have d_Cloth_ends:Bu l.prog w K mg base C_Cloth "ends" 1 ["self"] _:=⟨_,_,T.kd_Cloth.cl,j14,IH (P:=l.prog) (w:=w) (base:=base) D14.fn T,D14.bi⟩;have d_Cloth_picks:Bu l.prog w K mg base C_Cloth "picks" 1 ["self"] _:=⟨_,_,T.kd_Cloth.cl,j15,Io (P:=l.prog) (w:=w) (base:=base) D15.fn T,D15.bi⟩;have c_is_colour:=D16.call (JQ (P:=l.prog) (w:=w) (base:=base) D16.fn T);have c_need:=D17.call (Rr (P:=l.prog) (w:=w) (base:=base) D17.fn T);have c_is_list:=D18.call (LZ (P:=l.prog) (w:=w) (base:=base) D18.fn T c_is_among);have c_is_rising:=D19.call (JT (P:=l.prog) (w:=w) (base:=base) D19.fn T c_is_among);have c_are_rising:=D20.call (IT (P:=l.prog) (w:=w) (base:=base) D20.fn T c_is_rising);have c_are_colours:=D21.call (Hg (P:=l.prog) (w:=w) (base:=base) D21.fn T c_is_list c_is_colour);have c_need_draft:=D22.call (Jf (P:=l.prog) (w:=w) (base:=base) D22.fn T c_need c_is_among c_is_list c_are_rising c_are_colours);have m_Draft:LI l.prog w K mg base "Draft" C_Draft 6 ["self","shafts","treadles","threading","ties","treading","warp","weft"] _:=⟨_,_,T.g_Draft,j23,FF (P:=l.prog) (w:=w) (base:=base) D23.fn T c_need_draft,D23.bi⟩;have d_Draft_told:Bu l.prog w K mg base C_Draft "told" 1 ["self"] _:=⟨_,_,T.kd_Draft.cl,j24,IN (P:=l.prog) (w:=w) (base:=base) D24.fn T,D24.bi⟩;have d_Draft_ends:Bu l.prog w K mg base C_Draft "ends" 1 ["self"] _:=⟨_,_,T.kd_Draft.cl,j25,II (P:=l.prog) (w:=w) (base:=base) D25.fn T,D25.bi⟩;have c_lift_by:=D26.call (Mm (P:=l.prog) (w:=w) (base:=base) D26.fn T c_union_of);have c_lifts_of:=D27.call (KO (P:=l.prog) (w:=w) (base:=base) D27.fn T c_mask_of c_lift_by);have c_ends_through:=D28.call (GZ (P:=l.prog) (w:=w) (base:=base) D28.fn T c_mask_of);have c_shaft_ends:=D29.call (IV (P:=l.prog) (w:=w) (base:=base) D29.fn T c_ends_through);have c_row_by:=D30.call (Nt (P:=l.prog) (w:=w) (base:=base) D30.fn T c_numbers_of c_union_of);have c_woven:=D31.call (Oj (P:=l.prog) (w:=w) (base:=base) D31.fn T c_shaft_ends d_Draft_ends c_row_by c_lifts_of m_Cloth);have c__law_kinds:=D32.call (Je (P:=l.prog) (w:=w) (base:=base) D32.fn T);have c__law_mixed:=D33.call (IX (P:=l.prog) (w:=w) (base:=base) D33.fn T);have c__law_cells:=D34.call (IJ (P:=l.prog) (w:=w) (base:=base) D34.fn T);have c__law_numbers:=D35.call (GX (P:=l.prog) (w:=w) (base:=base) D35.fn T);have c__law_draft:=D37.call (IS (P:=l.prog) (w:=w) (base:=base) D37.fn T c__law_mixed c__law_cells c__law_numbers);have c__law_made:=D38.call (J3 (P:=l.prog) (w:=w) (base:=base) D38.fn T (D36.call (EG (P:=l.prog) (w:=w) (base:=base) D36 T 4)) m_Draft);have c_changed_draft:=D39.call (GH (P:=l.prog) (w:=w) (base:=base) D39.fn T d_Draft_told m_Draft);have d_Cloth_column_at:Bu l.prog w K mg base C_Cloth "column_at" 3 ["self","end"] _:=⟨_,_,T.kd_Cloth.cl,j40,Fq (P:=l.prog) (w:=w) (base:=base) D40.fn T c_mask_of c_has_number,D40.bi⟩;have c_mirrored:=D41.call (KR (P:=l.prog) (w:=w) (base:=base) D41.fn T m_Cloth d_Cloth_ends c_turned_mask);have c_upended:=D42.call (Ms (P:=l.prog) (w:=w) (base:=base) D42.fn T m_Cloth d_Cloth_ends);have c_inverted:=D43.call (K5 (P:=l.prog) (w:=w) (base:=base) D43.fn T m_Cloth d_Cloth_ends c_other_mask);have c_quartered:=D44.call (Ka (P:=l.prog) (w:=w) (base:=base) D44.fn T m_Cloth d_Cloth_ends d_Cloth_picks d_Cloth_column_at c_other_mask);have c_shafts_but:=D45.call (ID (P:=l.prog) (w:=w) (base:=base) D45.fn T);have c_mirrored_draft:=D46.call (FQ (P:=l.prog) (w:=w) (base:=base) D46.fn T c_changed_draft);have c_upended_draft:=D47.call (Gn (P:=l.prog) (w:=w) (base:=base) D47.fn T c_changed_draft);have m_NotPlain:Mx l.prog w K mg base "NotPlain" C_NotPlain 1 ["self","what","number"] _:=⟨_,_,T.g_NotPlain,j48,EF (P:=l.prog) (w:=w) (base:=base) D48.fn T,D48.bi⟩;have c_need_plain:=D49.callE (IM (P:=l.prog) (w:=w) (base:=base) D49.fn T m_NotPlain);have c_inverted_draft:=D50.callE (FW (P:=l.prog) (w:=w) (base:=base) D50.fn T c_need_plain c_changed_draft c_shafts_but);have c_treadles_without:=D51.call (EU (P:=l.prog) (w:=w) (base:=base) D51.fn T);have c_quartered_draft:=D52.callE (Fu (P:=l.prog) (w:=w) (base:=base) D52.fn T c_need_plain c_treadles_without m_Draft);have c__law_is_up:=D53.call (Jc (P:=l.prog) (w:=w) (base:=base) D53.fn T);have d_Cloth_is_up:Bu l.prog w K mg base C_Cloth "is_up" 3 ["self","end","pick"] _:=⟨_,_,T.kd_Cloth.cl,j54,He (P:=l.prog) (w:=w) (base:=base) D54.fn T c_has_number,D54.bi⟩;have c__law_made_plain:=D55.call (Fo (P:=l.prog) (w:=w) (base:=base) D55.fn T c__law_cells);have c__law_spoilt:=D56.call (HJ (P:=l.prog) (w:=w) (base:=base) D56.fn T);have c__law_lacks_plain:=D57.call (ER (P:=l.prog) (w:=w) (base:=base) D57.fn T);have c__law_at_turned:=D58.call (Gb (P:=l.prog) (w:=w) (base:=base) D58.fn T c__law_is_up);have c__law_turned:=D59.call (Ir (P:=l.prog) (w:=w) (base:=base) D59.fn T);have c__law_refused:=D60.call (GW (P:=l.prog) (w:=w) (base:=base) D60.fn T c_need_plain c_inverted_draft c_quartered_draft c__law_kinds);have c__law_right:=D61.call (Jb (P:=l.prog) (w:=w) (base:=base) D61.fn T c_mirrored_draft c_upended_draft c_inverted_draft c_quartered_draft c__law_turned (D0.call (DO (P:=l.prog) (w:=w) (base:=base) D0 T 4)) d_Draft_told c_woven c__law_at_turned c__law_is_up d_Cloth_is_up c_mirrored c_upended c_inverted c_quartered d_Cloth_told);have c__law_all_right:=D62.call (FC (P:=l.prog) (w:=w) (base:=base) D62.fn T c__law_made c__law_right c__law_lacks_plain (D0.call (DO (P:=l.prog) (w:=w) (base:=base) D0 T 4)) c__law_refused c_need_plain d_Draft_told);exact S9 D63.fn T c__law_draft c__law_made_plain c__law_mixed c__law_all_right c__law_spoilt
    ⟩
theorem walk {l:PySem.W.OpenLaw} {q:Program} {loose:List Str} {XP:(Str->Option Value)->Heap->Prop} {YP:World->Heap->Prop} {d:DefRec} {K:Params->PySem.W.Frag} (hn:l.most=some 63) (hdf:d.params.defaults=[])
    (hY:∀ (w:World) (h:Heap),YP w h->(K w.params).In h)
    (F:∀ (w:World) (mg:Str->Option Value) (fa:Addr) (h:Heap),(K w.params).In h->h.Ns mainGlobals mg->mg d.name=some (.ref fa)->
      ∃ fd:FuncData,(∀ (s:Shared) (v:Value),BindsTo s fd ⟨[v],[]⟩ [("_law_script",v)])/\∀ base:Heap,(K w.params).In base->base.Ns mainGlobals mg->FnOk l.prog w (K w.params) mg base CX0 12 fa fd ["_law_script"] (Nl (K w.params))):
    PySem.W.WalkO q loose XP YP l.row.toRowW d [] (λ f vs=>PySem.call f vs):=
  L2.walk_of (n:=63) (k:=12) (x:="_law_script") (CX:=λ _=>CX0) (sp:=λ w=>Nl (K w.params)) hn (by decide) hdf ⟨rfl,by decide,by decide⟩ hY F (λ _ _ a ns hl _ hS=>⟨a,ns,rfl,hS,hl,λ _=>rfl⟩) λ _ _ _ _ _ z=>z
end K16
open PySem PySem.W PyProof.Rows
set_option maxRecDepth 100000 in
set_option maxHeartbeats 0 in
theorem PySem.Challenge.cw_loomwright_k16_whole_drafts_turned_holds : PySem.Challenge.rw_loomwright_k16_whole_drafts_turned.Holds := by
  w_on
  refine PySem.W.holds_law (by first | k_qdec | decide +kernel) λ said=> ?_;refine PySem.W.holds_open (q:=K16.view) (loose:=[]) (Xt:=K16.Xt) (XP:=PySem.W.XL K16.view []) (Yf:=(PySem.W.kHook K16.frag K16.addrs K16.addrs_eq).obs) (Ya:=(PySem.W.kHook K16.frag K16.addrs K16.addrs_eq).val) (YP:=(PySem.W.kHook K16.frag K16.addrs K16.addrs_eq).says) (N:=K16.fuel) K16.left (PySem.W.kHook K16.frag K16.addrs K16.addrs_eq).of (PySem.W.kHook K16.frag K16.addrs K16.addrs_eq).keeps (λ s e=>PySem.W.xl_of s (Bool.and_eq_true_iff.mp e).1) PySem.W.XL.keeps (by rfl) (by rfl) (by rfl) (λ s e=>PySem.W.recFacts_of (Bool.and_eq_true_iff.mp e).2) (by rfl) (by first | assumption | decide +kernel) (by first | k_qdec | decide +kernel) ⟨rfl,rfl,rfl,rfl,rfl,by decide +kernel⟩ ?hw ?hc
  (case hw=>w_witness2)
  k_fill
  refine K16.walk (l:=PySem.Challenge.rw_loomwright_k16_whole_drafts_turned) rfl rfl (λ w h Y=>PySem.W.kIn_of Y) ?F
  case F=>
    intro w mg fa h KX G hmg;refine' K16.all_mk KX G hmg ?T ?_ ?_ ?_ ?_ ?_ ?_ ?_ ?_ ?_ ?_ ?_ ?_ ?_ ?_ ?_ ?_ ?_ ?_ ?_ ?_ ?_ ?_ ?_ ?_ ?_ ?_ ?_ ?_ ?_ ?_ ?_ ?_ ?_ ?_ ?_ ?_ ?_ ?_ ?_ ?_ ?_ ?_ ?_ ?_ ?_ ?_ ?_ ?_ ?_ ?_ ?_ ?_ ?_ ?_ ?_ ?_ ?_ ?_ ?_ ?_ ?_ ?_ ?_ ?_ ?_ ?_ ?_ ?_ ?_ ?_ ?_ ?_ ?_ ?_ ?_ ?_ ?_
    case T=>
      intros
      constructor
      all_goals try dsimp only
      all_goals try ((with_reducible refine' PySem.W.mg_of KX G ?_);k_is)
      all_goals first
        | ((with_reducible refine' L2.own_cons (PySem.W.mg_none_of KX G ?_) ?_) <;> (repeat' first | (with_reducible exact L2.own_nil) | (with_reducible refine' L2.own_cons (PySem.W.mg_none_of KX G ?_) ?_) | k_is))
        | ((with_reducible first | refine' L2.ci_mk (PySem.W.mg_of KX G ?_) | refine' L2.cs_mk (PySem.W.mg_of KX G ?_)) <;> first | k_is | skip)
        | with_reducible assumption
        | (refine' ⟨⟨?_,?_,?_,?_⟩,?_,?_,?_,?_⟩ <;> k_is)
        | ((with_reducible refine' L2.xk_mk (L2.exc_mk ?_ ?_ ?_ ?_ ?_ ?_ ?_ ?_) ?_) <;> k_is)
        | ((with_reducible refine' L2.exc_mk ?_ ?_ ?_ ?_ ?_ ?_ ?_ ?_) <;> k_is)
        | (refine' ⟨?_,?_,?_⟩ <;> first | k_is | kernel_rfl)
        | (unfold L2.NoAttr;k_is)
        | k_is | k_exc | kts_exm | kit_is
    all_goals first
      | (refine' L2.def_mk (PySem.W.mg_of KX G ?_) (L2.fun_mk ?_ ?_ ?_) ?_ <;> first | k_is | exact L2.arg1 λ _=>rfl | exact L2.arg2 λ _ _=>rfl | exact L2.arg3 λ _ _ _=>rfl | exact L2.arg4 λ _ _ _ _=>rfl | exact L2.arg5 λ _ _ _ _ _=>rfl | exact L2.arg6 λ _ _ _ _ _ _=>rfl | exact L2.arg7 λ _ _ _ _ _ _ _=>rfl | exact L2.arg8 λ _ _ _ _ _ _ _ _=>rfl | exact L2.arg9 λ _ _ _ _ _ _ _ _ _=>rfl | skip)
      | (refine' L2.fnA_mk (L2.fun_mk ?_ ?_ ?_) ?_ <;> first | k_is | exact L2.arg1 λ _=>rfl | exact L2.arg2 λ _ _=>rfl | exact L2.arg3 λ _ _ _=>rfl | exact L2.arg4 λ _ _ _ _=>rfl | exact L2.arg5 λ _ _ _ _ _=>rfl | exact L2.arg6 λ _ _ _ _ _ _=>rfl | exact L2.arg7 λ _ _ _ _ _ _ _=>rfl | exact L2.arg8 λ _ _ _ _ _ _ _ _=>rfl | exact L2.arg9 λ _ _ _ _ _ _ _ _ _=>rfl | skip)
      | (refine' ⟨?_,?_,?_,?_⟩;all_goals first | k_is | kernel_rfl | skip)
      | (refine' ⟨?_,?_,?_⟩;all_goals first | k_is | kernel_rfl | skip)
      | k_is
      | exact λ s u=> .of_eq rfl
      | rfl | kernel_rfl | exact List.mem_cons_self | decide | skip
