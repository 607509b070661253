import PyProof.Rows.All
import Wide.All
import OpenK.AllK
import Wide.FinOn
import Lean
import PyProof.EqAt
import PyProof.EqKinds
import PyProof.TupleCall
import KE.KIntText
import PyProof.EnumFor
import PyProof.EnumMake
import PyProof.ZipIter
import PyProof.LayNew
import KE.KTurns
import PyProof.Rows.Range3
import KE.KRevSl
import KE.KDictList
import PyProof.Draws
import PyProof.Rows.RuleM_int
import PyProof.Rows.BitMore
import PyProof.NeKinds
import KE.KRevIter
import PyProof.JoinWalk
import KE.KTryMore
import PyProof.ExcArgs
import OpenK.KOwn
import PyProof.ExcBaseAll.ValueError
import KE.KLam
import KE.KNestM
import PyProof.AttrMissHeap
import KE.KDictOf
import PySem.Challenge.RW_loomwright_k33_deeds_refused
set_option Elab.async false
set_option linter.all false
set_option maxRecDepth 100000
set_option genSizeOf false
set_option bootstrap.genMatcherCode false
set_option compiler.extract_closed false
set_option maxHeartbeats 4000000
noncomputable section
open PySem renaming wpAny_bind → Aa0, wpAny_pure → Aa5, wpAny_callSpecial?_slot → Ab7, wpAny_field → Ab9, wpAny_setField_rec → Ac1, wpAny_call_entry → Ad2, wpAny_seqItems → Ad4, wpAny_mono → Ad5, wpAny_holding → Ad9, wpAny_truthy_bool → Ae5, wpAny_attempt → Af3, wpAny_updateSeq_pair → Ag0, wpAny_newObj_type → Ag4, wpAny_Call_Name_kw → Ag9, wpAny_onRaise → Ah0
open PySem.Heap renaming get?_push_of_some → Aa1, lt_size → Aa6, get?_push_size → Aa8, size_push → Ae4, get?_push_cases → Af9
open List renaming length_map → Aa2, getD_eq_getElem?_getD → Aa3, getElem?_eq_getElem → Aa4, range → Aa9, replicate → Ab1, size_toArray → Ab2, mem_cons → Ab5, mem_append_right → Ab6, all_eq_true → Ac0, getElem?_eq_some_iff → Ac3, length_cons → Ac4, length_append → Ac7, length_replicate → Ac9, mem_map → Ad0, length_take → Ad1, mem_cons_of_mem → Ad3, getElem?_map → Ad6, mem_cons_self → Ad7, eq_of_mem_replicate → Ae6, lookup_cons → Ae7, map_map → Ae8, getElem?_append_right → Ae9, take_of_length_le → Af0, mem_range → Af1, getElem?_append_left → Af2, forIn_cons → Af4, mem_of_mem_eraseIdx → Af5, ext_getElem → Af6, not_mem_nil → Af7, mem_of_getElem? → Af8, length_eraseIdx → Ag2, map_cons → Ag3, length_drop → Ag7, length_filter_le → Ah1, filter_append → Ah2, forIn_nil → Ah3, mem_filter → Ah4
open Nat renaming le_refl → Aa7, lt_of_lt_of_le → Ab4, le_trans → Ab8, ne_of_lt → Ac2, pow_le_pow_right → Ag1, testBit_lt_two_pow → Ag6, ne_of_gt → Ag8
open Bool renaming false_ne_true → Ab0, and_eq_true → Ab3, false_and → Ac5, eq_iff_iff → Ac6, true_and → Ac8, eq_false_iff → Ae2
open Option renaming some → Ad8, map_eq_some_iff → Ag5
open Int renaming emod_nonneg → Ae0, toNat_natCast → Ae1, emod_lt_of_pos → Ae3
namespace L2
open PySem
def Aq (s:Stmt) (j:Nat):Stmt:=match s with
  | .ClassDef _ _ _ body _ _ _ _ _ _ _=>body.getD j (.Pass ⟨0,0,0,0⟩)
  | _=> .Pass ⟨0,0,0,0⟩
def Fw (s:Stmt):Arguments:=match s with
  | .FunctionDef _ a _ _ _ _ _ _ _ _=>a
  | _=>{ posonlyargs:=[],args:=[],vararg:=none,kwonlyargs:=[],kw_defaults:=[],kwarg:=none,defaults:=[] }
def Ds (s:Stmt):List Stmt:=match s with
  | .FunctionDef _ _ b _ _ _ _ _ _ _=>b
  | _=>[]
def Ah (s:Stmt):Scope:=match s with
  | .FunctionDef _ _ _ _ _ _ sc _ _ _=>sc
  | _=>{ kind:= .function,names:=[],isGenerator:=false,isCoroutine:=false }
end L2
namespace K33
open PySem
def top (i:Nat):Stmt:=PySem.Challenge.pw_loomwright_k33_deeds_refused.main.body.getD i (.Pass ⟨0,0,0,0⟩)
end K33
namespace HX
open PySem PySem.W PySem.Calls PyProof.Rows
def topT (tb:String->Option Builtin) (p:Program) (w:World) (n₀:Nat) (ann:Option Value):Nat->SharedT->Thread->Option SharedT
  | 0,_,_=>none
  | n+1,s,t=>match through t with
    | true=>some s
    | false=>match stepOk n₀ ann t with
      | false=>none
      | true=>match stepT (denote tb) p w s t with
        | some (s',t')=>topT tb p w n₀ ann n s' t'
        | none=>none
theorem topT_of {tb:String->Option Builtin} {p:Program} {w:World} {n₀:Nat} {ann:Option Value}:∀ {n:Nat} {s s':SharedT} {t:Thread},topT tb p w n₀ ann n s t=some s'->topRun tb p w n₀ ann n s.abs t=some s'.abs
  | 0,_,_,_,h=>by cases h
  | n+1,s,s',t,h=>by
    unfold topT at h;unfold topRun;cases ht:through t with
    | true=>rw [ht] at h;cases h;rfl
    | false=>
      rw [ht] at h;cases hk:stepOk n₀ ann t with
      | false=>rw [hk] at h;cases h
      | true=>
        rw [hk] at h;cases hs:stepT (denote tb) p w s t with
        | none=>rw [hs] at h;cases h
        | some x=>
          obtain ⟨s2,t2⟩:=x;rw [hs] at h;dsimp only;rw [stepT_spec hs];exact topT_of h
def ofL:List Obj->Nat->BT->BT
  | [],_,t=>t
  | o::r,i,t=>ofL r (i+1) (t.ins i o)
def bootT (P:Params):BT:=ofL (boot_heap P).objs.toList 0 .nil
def fn0 (name qual:Str) (a:Arguments) (b:List Stmt) (sc:Scope):FuncData:=
  { name,qualname:=qual,params:=a,body:= .stmts b,scope:=sc,globals:=0,closure:=[],defaults:= .none,kwdefaults:= .none }
theorem left_run {p q:Program} {loose:List Str} {Xt:Shared->Bool} {α:Type} {Yf:Shared->α} {Ya:World->α} {N:Nat} {g0:Bool}
    (e:opening p=plainProg p.main.scope.names) (hN:Nat.ble 600 N=true) (f:∀ s,fenceModules? p s=some s)
    (hb:∀ P:Params,(absHeap (bootT P) 11 {},boot_drawn,(boot_heap P).isNs mainGlobals,(boot_heap P).objs.size,(boot_heap P).nsMap mainGlobals "__annotations__")=(boot_heap P,boot_drawn,true,11,some (.ref 6)))
    (run:∀ (w:World) (os:OsState),∃ s:Shared,topRun treeTable p w 11 (some (.ref 6)) N (⟨bootT w.params,11,{},Array.mk [],boot_drawn,boot_toks,os⟩:SharedT).abs (topStub p)=some s/\((staticsOk (importedModules p.main.body) (boot_heap w.params) s.heap&&namesBound p s.heap&&gensDone s&&laidKept (boot_heap w.params) s.heap),openSeen q loose (importedModules p.main.body) Xt g0 s,Yf s)=(true,openGood q loose,Ya w)):LeftO p q loose Xt Yf Ya N g0:=λ w=>by
  obtain ⟨⟨h,gs,d,k,os⟩,e1,e'⟩:=Ag5.mp (boot_open (p:=p) (N:=N) e hN f w);obtain ⟨rfl,rfl,rfl,rfl⟩:h=boot_heap w.params/\gs=Array.mk []/\d=boot_drawn/\k=boot_toks:=by simpa using e'
  have hb':=hb w.params;simp only [Prod.mk.injEq] at hb';obtain ⟨b1,_,b2,b3,b4⟩:=hb';obtain ⟨s,r,l⟩:=run w os;obtain ⟨l1,l2,l3⟩:_/\_/\_:=by simpa only [Prod.mk.injEq] using l
  have b0:(⟨bootT w.params,11,{},Array.mk [],boot_drawn,boot_toks,os⟩:SharedT).abs=⟨boot_heap w.params,Array.mk [],boot_drawn,boot_toks,os⟩:=by
    show (⟨absHeap (bootT w.params) 11 {},_,_,_,_⟩:Shared)=_;rw [b1]
  rw [b0] at r;have t:topFrom treeTable p w N ⟨boot_heap w.params,Array.mk [],boot_drawn,boot_toks,os⟩=some s:=by
    unfold topFrom;dsimp only;rw [b2,b3,b4];show Option.bind (topRun treeTable p w 11 (some (.ref 6)) N ⟨boot_heap w.params,Array.mk [],boot_drawn,boot_toks,os⟩ (topStub p)) _=_;rw [r];show (match staticsOk (importedModules p.main.body) (boot_heap w.params) s.heap&&namesBound p s.heap&&gensDone s&&laidKept (boot_heap w.params) s.heap with | true=>_ | false=>_)=_;rw [l1]
  unfold openEnds;rw [e1];show (topFrom treeTable p w N _).map _=_;rw [t];exact congrArg some (Prod.ext l2 l3)
theorem nine {A B C D E F G H I:Type} {o:A × B × C × D × E × F × G × H × I} {a:A} {b:B} {c:C} {d:D} {e:E} {f:F} {g:G} {h:H} {i:I} (l:(o.1,o.2.1,o.2.2.1,o.2.2.2.1)=(a,b,c,d)) (m:(o.2.2.2.2.1,o.2.2.2.2.2.1,o.2.2.2.2.2.2.1,o.2.2.2.2.2.2.2.1,o.2.2.2.2.2.2.2.2)=(e,f,g,h,i)):o=(a,b,c,d,e,f,g,h,i):=by
  cases l;cases m;rfl
theorem three {α β γ:Type} {a a':α} {b b':β} {c c':γ} (h:(a,c)=(a',c')) (k:b=b'):(a,b,c)=(a',b',c'):=by
  cases h;cases k;rfl
theorem hb (P:Params):(absHeap (bootT P) 11 {},boot_drawn,(boot_heap P).isNs mainGlobals,(boot_heap P).objs.size,(boot_heap P).nsMap mainGlobals "__annotations__")=(boot_heap P,boot_drawn,true,11,some (.ref 6)):=by kernel_rfl
end HX
namespace K33
open PySem L2 PySem.W PySem.Calls PyProof.Rows
abbrev Ob:=Params->Obj
abbrev dE (P:Params) (s:Str) (t:Tok) (v:Value):DictEntry:=⟨PyData.keyHash P s, .str s t,v⟩
abbrev dR (P:Params) (s:Str) (t:Tok) (a:Addr):DictEntry:=⟨PyData.keyHash P s, .str s t, .ref a⟩
abbrev tu (xs:Array Value):Obj:=⟨.type "tuple",none, .seq xs 0, #[]⟩
abbrev di (es:Array DictEntry) (n:Nat):Obj:=⟨.type "dict",none, .dict es n, #[]⟩
abbrev f0 (n q:Str) (st:Stmt):FuncData:=HX.fn0 n q (Fw st) (Ds st) (Ah st)
abbrev fo (n q:Str) (st:Stmt) (m:Str) (t:Tok) (c:Addr):Obj:=⟨.type "function",none, .func (fnOf n q (Fw st) (Ds st) (Ah st) .none .none .none (.str m t) none (.ref c) .none), #[]⟩
abbrev co (n q:Str) (t:Tok) (l ac nl:Int) (a:Addr) (b:Bool) (r:Addr) (c d e:Value) (k:Int) (t4:Tok):Obj:=⟨.type "code",none, .fields #[.str n t, .str q (t+1), .str "/claim/cut.py" (t+2), .int l 0, .int ac 0, .int 0 0, .int 0 0, .int nl 0, .ref a, .bool b, .int 181 0, .ref r, .none,c,d,e, .int k 0, .int l 0, .str "/claim/cut.py" t4], #[]⟩
def o3:Ob:=λ P=>di #[dE P "__name__" 165 (.str "law_loomwright_k33_deeds_refused" 925),dE P "__doc__" 166 .none,dE P "__package__" 167 .none,dE P "__loader__" 168 (.builtin "__main__.__loader__#opaque"),dE P "__spec__" 169 .none,dR P "__annotations__" 170 6,dR P "__builtins__" 171 4,dE P "__file__" 173 (.str "/claim/cut.py" 172),dE P "__cached__" 174 .none,dR P "_wall" 193 21,dE P "MOST_SHAFTS" 195 (.int 16 194),dE P "MOST_TREADLES" 197 (.int 16 196),dE P "MOST_ENDS" 199 (.int 60 198),dE P "MOST_PICKS" 201 (.int 60 200),dR P "LoomError" 221 31,dR P "BadRow" 248 51,dR P "BadWord" 273 70,dR P "TooMany" 300 89,dR P "NotPlain" 327 108,dR P "NotGrown" 354 127,dR P "BadDraft" 370 139,dR P "BadCloth" 386 151,dR P "OutOfPlace" 402 163,dE P "COLOURS" 406 (.str "abcdefghijklmnopqrstuvwxyz" 405),dR P "is_whole" 413 172,dR P "is_among" 422 179,dR P "is_colour" 429 186,dR P "PARTS" 439 187,dR P "need" 447 194,dR P "is_list" 456 201,dR P "is_rising" 466 208,dR P "are_rising" 472 213,dR P "are_colours" 478 218,dR P "need_draft" 484 223,dR P "Draft" 537 257,dR P "changed_draft" 546 268,dR P "bit_of" 555 275,dR P "mask_of" 564 282,dR P "mask_to" 571 289,dR P "has_number" 579 296,dR P "numbers_of" 585 301,dR P "union_of" 594 308,dR P "need_cloth" 602 313,dR P "Cloth" 679 372,dR P "lift_by" 687 381,dR P "lifts_of" 693 386,dR P "ends_through" 699 391,dR P "shaft_ends" 705 396,dR P "row_by" 711 401,dR P "woven" 717 406,dE P "WARP" 721 (.str "warp" 720),dE P "WEFT" 723 (.str "weft" 722),dR P "need_place" 731 413,dR P "lists_of" 737 418,dR P "replaced_at" 746 425,dR P "put_at" 755 432,dR P "taken_at" 763 439,dR P "other_places" 769 444,dR P "Hand" 924 552,dR P "_law_mixed" 934 563,dR P "_law_kinds" 940 568,dR P "_law_same" 946 573,dR P "_law_cells" 952 578,dR P "_law_numbers" 958 583,dR P "_law_draft" 964 588,dR P "_law_copied" 970 593,dR P "_law_spoilt" 978 600,dR P "_law_made" 992 607,dR P "_law_no_place" 1000 614,dR P "_law_no_shaft" 1008 621,dR P "_law_no_list" 1017 628,dR P "_law_no_colour" 1024 635,dR P "_law_tried" 1050 642,dR P "_law_refused" 1063 649,dR P "_law_end_refused" 1073 656,dR P "_law_edges" 1086 663,dR P "law" 1102 670] 77
def o15:Ob:=λ P=>tu #[]
def o17:Ob:=λ P=>tu #[(.str "k" 190)]
def o18:Ob:=λ P=>tu #[]
def o20:Ob:=λ P=>co "_wall" "_wall" 187 1 1 3 15 true 16 (.ref 17) (.ref 18) (.ref 19) 191 192
def o21:Ob:=λ P=>fo "_wall" "_wall" (top 0) "__main__" 164 20
def o22:Ob:=λ P=>tu #[(.type "ValueError")]
def o29:Ob:=λ P=>tu #[]
def o30:Ob:=λ P=>di #[dE P "__module__" 211 (.str "loomwright.errors" 202),dE P "__firstlineno__" 215 (.int 9 214),dR P "__static_attributes__" 216 29,dR P "__weakref__" 218 32,dE P "__doc__" 219 .none] 3
def o31:Ob:=λ P=>⟨(.type "type"),none,(.cls ⟨"LoomError",[(.type "ValueError")],[(.ref 31),(.type "ValueError"),(.type "Exception"),(.type "BaseException"),(.type "object")],30,"LoomError",true,[],[(.ref 51),(.ref 70),(.ref 89),(.ref 108),(.ref 127),(.ref 139),(.ref 151),(.ref 163)],false,none,false⟩), #[(some (.ref 22)),none,(some (.str "LoomError" 204)),(some (.str "LoomError" 212)),(some (.builtin "ValueError.__new__")),(some (.bool true))]⟩
def o32:Ob:=λ P=>⟨(.type "getset_descriptor"),none,(.fields #[(.str "__weakref__" 217),(.ref 31),(.builtin "ExceptionGroup.__weakref__"), .none]), #[]⟩
def o35:Ob:=λ P=>tu #[(.ref 31)]
def o42:Ob:=λ P=>tu #[]
def o44:Ob:=λ P=>tu #[(.str "self" 237),(.str "row" 238),(.str "word" 239)]
def o45:Ob:=λ P=>tu #[]
def o47:Ob:=λ P=>co "__init__" "BadRow.__init__" 234 13 3 3 42 true 43 (.ref 44) (.ref 45) (.ref 46) 240 241
def o48:Ob:=λ P=>fo "__init__" "BadRow.__init__" (Aq (top 7) 0) "loomwright.errors" 202 47
def o49:Ob:=λ P=>tu #[(.str "row" 243),(.str "word" 244)]
def o50:Ob:=λ P=>di #[dE P "__module__" 229 (.str "loomwright.errors" 202),dE P "__firstlineno__" 233 (.int 11 232),dR P "__init__" 242 48,dR P "__static_attributes__" 245 49,dE P "__doc__" 246 .none] 2
def o51:Ob:=λ P=>⟨(.type "type"),none,(.cls ⟨"BadRow",[(.ref 31)],[(.ref 51),(.ref 31),(.type "ValueError"),(.type "Exception"),(.type "BaseException"),(.type "object")],50,"BadRow",true,[],[],false,none,false⟩), #[(some (.ref 35)),none,(some (.str "BadRow" 222)),(some (.str "BadRow" 230)),(some (.builtin "ValueError.__new__")),(some (.bool true))]⟩
def o54:Ob:=λ P=>tu #[(.ref 31)]
def o61:Ob:=λ P=>tu #[]
def o63:Ob:=λ P=>tu #[(.str "self" 264),(.str "place" 265)]
def o64:Ob:=λ P=>tu #[]
def o66:Ob:=λ P=>co "__init__" "BadWord.__init__" 261 19 2 3 61 true 62 (.ref 63) (.ref 64) (.ref 65) 266 267
def o67:Ob:=λ P=>fo "__init__" "BadWord.__init__" (Aq (top 8) 0) "loomwright.errors" 202 66
def o68:Ob:=λ P=>tu #[(.str "place" 269)]
def o69:Ob:=λ P=>di #[dE P "__module__" 256 (.str "loomwright.errors" 202),dE P "__firstlineno__" 260 (.int 17 259),dR P "__init__" 268 67,dR P "__static_attributes__" 270 68,dE P "__doc__" 271 .none] 2
def o70:Ob:=λ P=>⟨(.type "type"),none,(.cls ⟨"BadWord",[(.ref 31)],[(.ref 70),(.ref 31),(.type "ValueError"),(.type "Exception"),(.type "BaseException"),(.type "object")],69,"BadWord",true,[],[],false,none,false⟩), #[(some (.ref 54)),none,(some (.str "BadWord" 249)),(some (.str "BadWord" 257)),(some (.builtin "ValueError.__new__")),(some (.bool true))]⟩
def o73:Ob:=λ P=>tu #[(.ref 31)]
def o80:Ob:=λ P=>tu #[]
def o82:Ob:=λ P=>tu #[(.str "self" 289),(.str "what" 290),(.str "many" 291)]
def o83:Ob:=λ P=>tu #[]
def o85:Ob:=λ P=>co "__init__" "TooMany.__init__" 286 24 3 3 80 true 81 (.ref 82) (.ref 83) (.ref 84) 292 293
def o86:Ob:=λ P=>fo "__init__" "TooMany.__init__" (Aq (top 9) 0) "loomwright.errors" 202 85
def o87:Ob:=λ P=>tu #[(.str "many" 295),(.str "what" 296)]
def o88:Ob:=λ P=>di #[dE P "__module__" 281 (.str "loomwright.errors" 202),dE P "__firstlineno__" 285 (.int 22 284),dR P "__init__" 294 86,dR P "__static_attributes__" 297 87,dE P "__doc__" 298 .none] 2
def o89:Ob:=λ P=>⟨(.type "type"),none,(.cls ⟨"TooMany",[(.ref 31)],[(.ref 89),(.ref 31),(.type "ValueError"),(.type "Exception"),(.type "BaseException"),(.type "object")],88,"TooMany",true,[],[],false,none,false⟩), #[(some (.ref 73)),none,(some (.str "TooMany" 274)),(some (.str "TooMany" 282)),(some (.builtin "ValueError.__new__")),(some (.bool true))]⟩
def o92:Ob:=λ P=>tu #[(.ref 31)]
def o99:Ob:=λ P=>tu #[]
def UY:Ob:=λ P=>tu #[(.str "self" 316),(.str "what" 317),(.str "number" 318)]
def YO:Ob:=λ P=>tu #[]
def UL:Ob:=λ P=>co "__init__" "NotPlain.__init__" 313 30 3 3 99 true 100 (.ref 101) (.ref 102) (.ref 103) 319 320
def Yh:Ob:=λ P=>fo "__init__" "NotPlain.__init__" (Aq (top 10) 0) "loomwright.errors" 202 104
def Uj:Ob:=λ P=>tu #[(.str "number" 322),(.str "what" 323)]
def Wm:Ob:=λ P=>di #[dE P "__module__" 308 (.str "loomwright.errors" 202),dE P "__firstlineno__" 312 (.int 28 311),dR P "__init__" 321 105,dR P "__static_attributes__" 324 106,dE P "__doc__" 325 .none] 2
def WT:Ob:=λ P=>⟨(.type "type"),none,(.cls ⟨"NotPlain",[(.ref 31)],[(.ref 108),(.ref 31),(.type "ValueError"),(.type "Exception"),(.type "BaseException"),(.type "object")],107,"NotPlain",true,[],[],false,none,false⟩), #[(some (.ref 92)),none,(some (.str "NotPlain" 301)),(some (.str "NotPlain" 309)),(some (.builtin "ValueError.__new__")),(some (.bool true))]⟩
def V3:Ob:=λ P=>tu #[(.ref 31)]
def Wl:Ob:=λ P=>tu #[]
def WB:Ob:=λ P=>tu #[(.str "self" 343),(.str "row" 344),(.str "column" 345)]
def TL:Ob:=λ P=>tu #[]
def T5:Ob:=λ P=>co "__init__" "NotGrown.__init__" 340 36 3 3 118 true 119 (.ref 120) (.ref 121) (.ref 122) 346 347
def XH:Ob:=λ P=>fo "__init__" "NotGrown.__init__" (Aq (top 11) 0) "loomwright.errors" 202 123
def ak:Ob:=λ P=>tu #[(.str "column" 349),(.str "row" 350)]
def aM:Ob:=λ P=>di #[dE P "__module__" 335 (.str "loomwright.errors" 202),dE P "__firstlineno__" 339 (.int 34 338),dR P "__init__" 348 124,dR P "__static_attributes__" 351 125,dE P "__doc__" 352 .none] 2
def WO:Ob:=λ P=>⟨(.type "type"),none,(.cls ⟨"NotGrown",[(.ref 31)],[(.ref 127),(.ref 31),(.type "ValueError"),(.type "Exception"),(.type "BaseException"),(.type "object")],126,"NotGrown",true,[],[],false,none,false⟩), #[(some (.ref 111)),none,(some (.str "NotGrown" 328)),(some (.str "NotGrown" 336)),(some (.builtin "ValueError.__new__")),(some (.bool true))]⟩
def Yy:Ob:=λ P=>tu #[(.ref 31)]
def UO:Ob:=λ P=>tu #[]
def V4:Ob:=λ P=>di #[dE P "__module__" 362 (.str "loomwright.errors" 202),dE P "__firstlineno__" 366 (.int 40 365),dR P "__static_attributes__" 367 137,dE P "__doc__" 368 .none] 2
def Vk:Ob:=λ P=>⟨(.type "type"),none,(.cls ⟨"BadDraft",[(.ref 31)],[(.ref 139),(.ref 31),(.type "ValueError"),(.type "Exception"),(.type "BaseException"),(.type "object")],138,"BadDraft",true,[],[],false,none,false⟩), #[(some (.ref 130)),none,(some (.str "BadDraft" 355)),(some (.str "BadDraft" 363)),(some (.builtin "ValueError.__new__")),(some (.bool true))]⟩
def Vu:Ob:=λ P=>tu #[(.ref 31)]
def Z4:Ob:=λ P=>tu #[]
def aH:Ob:=λ P=>di #[dE P "__module__" 378 (.str "loomwright.errors" 202),dE P "__firstlineno__" 382 (.int 42 381),dR P "__static_attributes__" 383 149,dE P "__doc__" 384 .none] 2
def Wo:Ob:=λ P=>⟨(.type "type"),none,(.cls ⟨"BadCloth",[(.ref 31)],[(.ref 151),(.ref 31),(.type "ValueError"),(.type "Exception"),(.type "BaseException"),(.type "object")],150,"BadCloth",true,[],[],false,none,false⟩), #[(some (.ref 142)),none,(some (.str "BadCloth" 371)),(some (.str "BadCloth" 379)),(some (.builtin "ValueError.__new__")),(some (.bool true))]⟩
def aY:Ob:=λ P=>tu #[(.ref 31)]
def Yv:Ob:=λ P=>tu #[]
def Xw:Ob:=λ P=>di #[dE P "__module__" 394 (.str "loomwright.errors" 202),dE P "__firstlineno__" 398 (.int 44 397),dR P "__static_attributes__" 399 161,dE P "__doc__" 400 .none] 2
def UK:Ob:=λ P=>⟨(.type "type"),none,(.cls ⟨"OutOfPlace",[(.ref 31)],[(.ref 163),(.ref 31),(.type "ValueError"),(.type "Exception"),(.type "BaseException"),(.type "object")],162,"OutOfPlace",true,[],[],false,none,false⟩), #[(some (.ref 154)),none,(some (.str "OutOfPlace" 387)),(some (.str "OutOfPlace" 395)),(some (.builtin "ValueError.__new__")),(some (.bool true))]⟩
def V0:Ob:=λ P=>tu #[]
def XC:Ob:=λ P=>tu #[(.str "thing" 410)]
def X6:Ob:=λ P=>tu #[]
def XM:Ob:=λ P=>co "is_whole" "is_whole" 407 48 1 3 166 true 167 (.ref 168) (.ref 169) (.ref 170) 411 412
def X5:Ob:=λ P=>fo "is_whole" "is_whole" (top 17) "loomwright.words" 403 171
def T1:Ob:=λ P=>tu #[]
def av:Ob:=λ P=>tu #[(.str "thing" 417),(.str "least" 418),(.str "most" 419)]
def XX:Ob:=λ P=>tu #[]
def Vx:Ob:=λ P=>co "is_among" "is_among" 414 50 3 3 173 true 174 (.ref 175) (.ref 176) (.ref 177) 420 421
def Y4:Ob:=λ P=>fo "is_among" "is_among" (top 18) "loomwright.words" 403 178
def Uz:Ob:=λ P=>tu #[]
def Vd:Ob:=λ P=>tu #[(.str "thing" 426)]
def UW:Ob:=λ P=>tu #[]
def YK:Ob:=λ P=>co "is_colour" "is_colour" 423 52 1 3 180 true 181 (.ref 182) (.ref 183) (.ref 184) 427 428
def YV:Ob:=λ P=>fo "is_colour" "is_colour" (top 19) "loomwright.words" 403 185
def Zk:Ob:=λ P=>tu #[(.str "shafts" 432),(.str "treadles" 433),(.str "threading" 434),(.str "ties" 435),(.str "treading" 436),(.str "warp" 437),(.str "weft" 438)]
def YX:Ob:=λ P=>tu #[]
def ZX:Ob:=λ P=>tu #[(.str "holds" 443),(.str "words" 444)]
def Wg:Ob:=λ P=>tu #[]
def Ve:Ob:=λ P=>co "need" "need" 440 56 2 3 188 true 189 (.ref 190) (.ref 191) (.ref 192) 445 446
def Xg:Ob:=λ P=>fo "need" "need" (top 22) "loomwright.draft" 430 193
def Xf:Ob:=λ P=>tu #[]
def Wv:Ob:=λ P=>tu #[(.str "thing" 451),(.str "least" 452),(.str "most" 453)]
def W3:Ob:=λ P=>tu #[]
def WC:Ob:=λ P=>co "is_list" "is_list" 448 59 3 3 195 true 196 (.ref 197) (.ref 198) (.ref 199) 454 455
def Xa:Ob:=λ P=>fo "is_list" "is_list" (top 23) "loomwright.draft" 430 200
def Uq:Ob:=λ P=>tu #[]
def Zr:Ob:=λ P=>tu #[(.str "thing" 460),(.str "most" 461),(.str "last" 462),(.str "number" 463)]
def Zw:Ob:=λ P=>tu #[]
def XD:Ob:=λ P=>co "is_rising" "is_rising" 457 61 2 3 202 true 203 (.ref 204) (.ref 205) (.ref 206) 464 465
def Zv:Ob:=λ P=>fo "is_rising" "is_rising" (top 24) "loomwright.draft" 430 207
def WW:Ob:=λ P=>tu #[]
def Y9:Ob:=λ P=>co "are_rising" "are_rising" 467 70 2 3 209 true 210 .none .none (.ref 211) 470 471
def Yl:Ob:=λ P=>fo "are_rising" "are_rising" (top 25) "loomwright.draft" 430 212
def Xq:Ob:=λ P=>tu #[]
def WZ:Ob:=λ P=>co "are_colours" "are_colours" 473 72 2 3 214 true 215 .none .none (.ref 216) 476 477
def XU:Ob:=λ P=>fo "are_colours" "are_colours" (top 26) "loomwright.draft" 430 217
def bh:Ob:=λ P=>tu #[]
def T9:Ob:=λ P=>co "need_draft" "need_draft" 479 74 7 3 219 true 220 .none .none (.ref 221) 482 483
def Wc:Ob:=λ P=>fo "need_draft" "need_draft" (top 27) "loomwright.draft" 430 222
def ZH:Ob:=λ P=>tu #[]
def aX:Ob:=λ P=>co "__init__" "Draft.__init__" 497 87 8 3 231 true 232 .none .none (.ref 233) 500 501
def Wt:Ob:=λ P=>fo "__init__" "Draft.__init__" (Aq (top 28) 0) "loomwright.draft" 430 234
def Zt:Ob:=λ P=>tu #[]
def XR:Ob:=λ P=>co "told" "Draft.told" 503 97 1 3 236 true 237 .none .none (.ref 238) 506 507
def XI:Ob:=λ P=>fo "told" "Draft.told" (Aq (top 28) 1) "loomwright.draft" 430 239
def ai:Ob:=λ P=>tu #[]
def aL:Ob:=λ P=>tu #[(.str "self" 512)]
def Ud:Ob:=λ P=>tu #[]
def WN:Ob:=λ P=>co "ends" "Draft.ends" 509 100 1 3 241 true 242 (.ref 243) (.ref 244) (.ref 245) 513 514
def UX:Ob:=λ P=>fo "ends" "Draft.ends" (Aq (top 28) 2) "loomwright.draft" 430 246
def bj:Ob:=λ P=>tu #[]
def Zf:Ob:=λ P=>tu #[(.str "self" 519)]
def Zy:Ob:=λ P=>tu #[]
def Wk:Ob:=λ P=>co "picks" "Draft.picks" 516 103 1 3 248 true 249 (.ref 250) (.ref 251) (.ref 252) 520 521
def X7:Ob:=λ P=>fo "picks" "Draft.picks" (Aq (top 28) 3) "loomwright.draft" 430 253
def ZQ:Ob:=λ P=>tu #[(.str "shafts" 523),(.str "threading" 524),(.str "ties" 525),(.str "treading" 526),(.str "treadles" 527),(.str "warp" 528),(.str "weft" 529)]
def Xs:Ob:=λ P=>di #[dE P "__module__" 492 (.str "loomwright.draft" 430),dE P "__firstlineno__" 496 (.int 85 495),dR P "__init__" 502 235,dR P "told" 508 240,dR P "ends" 515 247,dR P "picks" 522 254,dR P "__static_attributes__" 530 255,dR P "__dict__" 532 258,dR P "__weakref__" 534 259,dE P "__doc__" 535 .none] 4
def VB:Ob:=λ P=>⟨(.type "type"),none,(.cls ⟨"Draft",[(.type "object")],[(.ref 257),(.type "object")],256,"Draft",true,[],[],false,none,false⟩), #[none,none,(some (.str "Draft" 485)),(some (.str "Draft" 493)),(some (.builtin "object.__new__")),(some (.bool true))]⟩
def Uc:Ob:=λ P=>⟨(.type "getset_descriptor"),none,(.fields #[(.str "__dict__" 531),(.ref 257),(.builtin "function.__dict__"),(.builtin "function.__dict__#set")]), #[]⟩
def WI:Ob:=λ P=>⟨(.type "getset_descriptor"),none,(.fields #[(.str "__weakref__" 533),(.ref 257),(.builtin "ExceptionGroup.__weakref__"), .none]), #[]⟩
def Vg:Ob:=λ P=>tu #[]
def Ul:Ob:=λ P=>tu #[(.str "draft" 541),(.str "changes" 542),(.str "parts" 543)]
def Yr:Ob:=λ P=>tu #[]
def aF:Ob:=λ P=>co "changed_draft" "changed_draft" 538 105 2 3 262 true 263 (.ref 264) (.ref 265) (.ref 266) 544 545
def W8:Ob:=λ P=>fo "changed_draft" "changed_draft" (top 29) "loomwright.draft" 430 267
def aU:Ob:=λ P=>tu #[]
def TH:Ob:=λ P=>tu #[(.str "number" 552)]
def YR:Ob:=λ P=>tu #[]
def WH:Ob:=λ P=>co "bit_of" "bit_of" 549 110 1 3 269 true 270 (.ref 271) (.ref 272) (.ref 273) 553 554
def XB:Ob:=λ P=>fo "bit_of" "bit_of" (top 31) "loomwright.masks" 547 274
def Xj:Ob:=λ P=>tu #[]
def XT:Ob:=λ P=>tu #[(.str "numbers" 559),(.str "mask" 560),(.str "number" 561)]
def X9:Ob:=λ P=>tu #[]
def Wb:Ob:=λ P=>co "mask_of" "mask_of" 556 112 1 3 276 true 277 (.ref 278) (.ref 279) (.ref 280) 562 563
def W5:Ob:=λ P=>fo "mask_of" "mask_of" (top 32) "loomwright.masks" 547 281
def TJ:Ob:=λ P=>tu #[]
def Yz:Ob:=λ P=>tu #[(.str "most" 568)]
def ZZ:Ob:=λ P=>tu #[]
def Vo:Ob:=λ P=>co "mask_to" "mask_to" 565 117 1 3 283 true 284 (.ref 285) (.ref 286) (.ref 287) 569 570
def XE:Ob:=λ P=>fo "mask_to" "mask_to" (top 33) "loomwright.masks" 547 288
def UZ:Ob:=λ P=>tu #[]
def VR:Ob:=λ P=>tu #[(.str "mask" 575),(.str "number" 576)]
def Wx:Ob:=λ P=>tu #[]
def Yp:Ob:=λ P=>co "has_number" "has_number" 572 119 2 3 290 true 291 (.ref 292) (.ref 293) (.ref 294) 577 578
def Wi:Ob:=λ P=>fo "has_number" "has_number" (top 34) "loomwright.masks" 547 295
def Ue:Ob:=λ P=>tu #[]
def Yt:Ob:=λ P=>co "numbers_of" "numbers_of" 580 121 1 3 297 true 298 .none .none (.ref 299) 583 584
def UR:Ob:=λ P=>fo "numbers_of" "numbers_of" (top 35) "loomwright.masks" 547 300
def Zh:Ob:=λ P=>tu #[]
def UU:Ob:=λ P=>tu #[(.str "masks" 589),(.str "union" 590),(.str "mask" 591)]
def X8:Ob:=λ P=>tu #[]
def XJ:Ob:=λ P=>co "union_of" "union_of" 586 123 1 3 302 true 303 (.ref 304) (.ref 305) (.ref 306) 592 593
def Zn:Ob:=λ P=>fo "union_of" "union_of" (top 36) "loomwright.masks" 547 307
def Zg:Ob:=λ P=>tu #[]
def Wn:Ob:=λ P=>co "need_cloth" "need_cloth" 597 129 2 3 309 true 310 .none .none (.ref 311) 600 601
def aR:Ob:=λ P=>fo "need_cloth" "need_cloth" (top 38) "loomwright.cloth" 595 312
def U1:Ob:=λ P=>tu #[]
def U4:Ob:=λ P=>tu #[(.str "self" 618),(.str "ends" 619),(.str "rows" 620)]
def U2:Ob:=λ P=>tu #[]
def XW:Ob:=λ P=>co "__init__" "Cloth.__init__" 615 138 3 3 321 true 322 (.ref 323) (.ref 324) (.ref 325) 621 622
def ZC:Ob:=λ P=>fo "__init__" "Cloth.__init__" (Aq (top 39) 0) "loomwright.cloth" 595 326
def YE:Ob:=λ P=>tu #[]
def XG:Ob:=λ P=>tu #[(.str "self" 627)]
def aN:Ob:=λ P=>tu #[]
def T6:Ob:=λ P=>co "told" "Cloth.told" 624 143 1 3 328 true 329 (.ref 330) (.ref 331) (.ref 332) 628 629
def Xd:Ob:=λ P=>fo "told" "Cloth.told" (Aq (top 39) 1) "loomwright.cloth" 595 333
def aS:Ob:=λ P=>tu #[]
def Us:Ob:=λ P=>tu #[(.str "self" 634)]
def Zm:Ob:=λ P=>tu #[]
def aC:Ob:=λ P=>co "ends" "Cloth.ends" 631 146 1 3 335 true 336 (.ref 337) (.ref 338) (.ref 339) 635 636
def Yc:Ob:=λ P=>fo "ends" "Cloth.ends" (Aq (top 39) 2) "loomwright.cloth" 595 340
def Z0:Ob:=λ P=>tu #[]
def Z9:Ob:=λ P=>tu #[(.str "self" 641)]
def ZU:Ob:=λ P=>tu #[]
def Xz:Ob:=λ P=>co "picks" "Cloth.picks" 638 149 1 3 342 true 343 (.ref 344) (.ref 345) (.ref 346) 642 643
def Va:Ob:=λ P=>fo "picks" "Cloth.picks" (Aq (top 39) 3) "loomwright.cloth" 595 347
def YN:Ob:=λ P=>tu #[]
def U7:Ob:=λ P=>tu #[(.str "self" 648),(.str "pick" 649)]
def Ze:Ob:=λ P=>tu #[]
def Xm:Ob:=λ P=>co "row_at" "Cloth.row_at" 645 152 2 3 349 true 350 (.ref 351) (.ref 352) (.ref 353) 650 651
def aK:Ob:=λ P=>fo "row_at" "Cloth.row_at" (Aq (top 39) 4) "loomwright.cloth" 595 354
def ZK:Ob:=λ P=>tu #[]
def bd:Ob:=λ P=>tu #[(.str "self" 656),(.str "end" 657)]
def Wa:Ob:=λ P=>tu #[]
def U8:Ob:=λ P=>co "column_at" "Cloth.column_at" 653 155 2 3 356 true 357 (.ref 358) (.ref 359) (.ref 360) 658 659
def T7:Ob:=λ P=>fo "column_at" "Cloth.column_at" (Aq (top 39) 5) "loomwright.cloth" 595 361
def ZR:Ob:=λ P=>tu #[]
def Ww:Ob:=λ P=>tu #[(.str "self" 664),(.str "end" 665),(.str "pick" 666)]
def Vs:Ob:=λ P=>tu #[]
def Xr:Ob:=λ P=>co "is_up" "Cloth.is_up" 661 158 3 3 363 true 364 (.ref 365) (.ref 366) (.ref 367) 667 668
def Zz:Ob:=λ P=>fo "is_up" "Cloth.is_up" (Aq (top 39) 6) "loomwright.cloth" 595 368
def XS:Ob:=λ P=>tu #[(.str "rows" 670),(.str "width" 671)]
def YA:Ob:=λ P=>di #[dE P "__module__" 610 (.str "loomwright.cloth" 595),dE P "__firstlineno__" 614 (.int 136 613),dR P "__init__" 623 327,dR P "told" 630 334,dR P "ends" 637 341,dR P "picks" 644 348,dR P "row_at" 652 355,dR P "column_at" 660 362,dR P "is_up" 669 369,dR P "__static_attributes__" 672 370,dR P "__dict__" 674 373,dR P "__weakref__" 676 374,dE P "__doc__" 677 .none] 4
def aT:Ob:=λ P=>⟨(.type "type"),none,(.cls ⟨"Cloth",[(.type "object")],[(.ref 372),(.type "object")],371,"Cloth",true,[],[],false,none,false⟩), #[none,none,(some (.str "Cloth" 603)),(some (.str "Cloth" 611)),(some (.builtin "object.__new__")),(some (.bool true))]⟩
def V7:Ob:=λ P=>⟨(.type "getset_descriptor"),none,(.fields #[(.str "__dict__" 673),(.ref 372),(.builtin "function.__dict__"),(.builtin "function.__dict__#set")]), #[]⟩
def Xp:Ob:=λ P=>⟨(.type "getset_descriptor"),none,(.fields #[(.str "__weakref__" 675),(.ref 372),(.builtin "ExceptionGroup.__weakref__"), .none]), #[]⟩
def TZ:Ob:=λ P=>tu #[]
def WR:Ob:=λ P=>co "lift_by" "lift_by" 682 161 2 3 377 true 378 .none .none (.ref 379) 685 686
def Y6:Ob:=λ P=>fo "lift_by" "lift_by" (top 41) "loomwright.weaving" 680 380
def Xn:Ob:=λ P=>tu #[]
def XF:Ob:=λ P=>co "lifts_of" "lifts_of" 688 163 1 3 382 true 383 .none .none (.ref 384) 691 692
def VY:Ob:=λ P=>fo "lifts_of" "lifts_of" (top 42) "loomwright.weaving" 680 385
def Uk:Ob:=λ P=>tu #[]
def UH:Ob:=λ P=>co "ends_through" "ends_through" 694 166 2 3 387 true 388 .none .none (.ref 389) 697 698
def Xx:Ob:=λ P=>fo "ends_through" "ends_through" (top 43) "loomwright.weaving" 680 390
def VA:Ob:=λ P=>tu #[]
def ah:Ob:=λ P=>co "shaft_ends" "shaft_ends" 700 168 2 3 392 true 393 .none .none (.ref 394) 703 704
def Yi:Ob:=λ P=>fo "shaft_ends" "shaft_ends" (top 44) "loomwright.weaving" 680 395
def UP:Ob:=λ P=>tu #[]
def U6:Ob:=λ P=>co "row_by" "row_by" 706 170 2 3 397 true 398 .none .none (.ref 399) 709 710
def aO:Ob:=λ P=>fo "row_by" "row_by" (top 45) "loomwright.weaving" 680 400
def WP:Ob:=λ P=>tu #[]
def UV:Ob:=λ P=>co "woven" "woven" 712 172 1 3 402 true 403 .none .none (.ref 404) 715 716
def Wz:Ob:=λ P=>fo "woven" "woven" (top 46) "loomwright.weaving" 680 405
def Yj:Ob:=λ P=>tu #[]
def Wr:Ob:=λ P=>tu #[(.str "thing" 727),(.str "most" 728)]
def Vt:Ob:=λ P=>tu #[]
def UF:Ob:=λ P=>co "need_place" "need_place" 724 178 2 3 407 true 408 (.ref 409) (.ref 410) (.ref 411) 729 730
def YU:Ob:=λ P=>fo "need_place" "need_place" (top 50) "loomwright.hand" 718 412
def WM:Ob:=λ P=>tu #[]
def VL:Ob:=λ P=>co "lists_of" "lists_of" 732 181 1 3 414 true 415 .none .none (.ref 416) 735 736
def Zo:Ob:=λ P=>fo "lists_of" "lists_of" (top 51) "loomwright.hand" 718 417
def ag:Ob:=λ P=>tu #[]
def Zu:Ob:=λ P=>tu #[(.str "members" 741),(.str "place" 742),(.str "thing" 743)]
def Vm:Ob:=λ P=>tu #[]
def X3:Ob:=λ P=>co "replaced_at" "replaced_at" 738 183 3 3 419 true 420 (.ref 421) (.ref 422) (.ref 423) 744 745
def YT:Ob:=λ P=>fo "replaced_at" "replaced_at" (top 52) "loomwright.hand" 718 424
def U5:Ob:=λ P=>tu #[]
def Zp:Ob:=λ P=>tu #[(.str "members" 750),(.str "place" 751),(.str "thing" 752)]
def VX:Ob:=λ P=>tu #[]
def TR:Ob:=λ P=>co "put_at" "put_at" 747 185 3 3 426 true 427 (.ref 428) (.ref 429) (.ref 430) 753 754
def bf:Ob:=λ P=>fo "put_at" "put_at" (top 53) "loomwright.hand" 718 431
def Vp:Ob:=λ P=>tu #[]
def au:Ob:=λ P=>tu #[(.str "members" 759),(.str "place" 760)]
def aG:Ob:=λ P=>tu #[]
def Xv:Ob:=λ P=>co "taken_at" "taken_at" 756 187 2 3 433 true 434 (.ref 435) (.ref 436) (.ref 437) 761 762
def Yw:Ob:=λ P=>fo "taken_at" "taken_at" (top 54) "loomwright.hand" 718 438
def WJ:Ob:=λ P=>tu #[]
def WV:Ob:=λ P=>co "other_places" "other_places" 764 189 2 3 440 true 441 .none .none (.ref 442) 767 768
def VC:Ob:=λ P=>fo "other_places" "other_places" (top 55) "loomwright.hand" 718 443
def Ui:Ob:=λ P=>tu #[]
def be:Ob:=λ P=>tu #[(.str "self" 785),(.str "draft" 786)]
def U0:Ob:=λ P=>tu #[]
def UC:Ob:=λ P=>co "__init__" "Hand.__init__" 782 193 2 3 452 true 453 (.ref 454) (.ref 455) (.ref 456) 787 788
def Xi:Ob:=λ P=>fo "__init__" "Hand.__init__" (Aq (top 56) 0) "loomwright.hand" 718 457
def aI:Ob:=λ P=>tu #[]
def Wd:Ob:=λ P=>tu #[(.str "self" 793)]
def XQ:Ob:=λ P=>tu #[]
def YH:Ob:=λ P=>co "draft" "Hand.draft" 790 197 1 3 459 true 460 (.ref 461) (.ref 462) (.ref 463) 794 795
def Zj:Ob:=λ P=>fo "draft" "Hand.draft" (Aq (top 56) 1) "loomwright.hand" 718 464
def Zd:Ob:=λ P=>tu #[]
def aE:Ob:=λ P=>tu #[(.str "self" 800)]
def VD:Ob:=λ P=>tu #[]
def We:Ob:=λ P=>co "cloth" "Hand.cloth" 797 200 1 3 466 true 467 (.ref 468) (.ref 469) (.ref 470) 801 802
def Xh:Ob:=λ P=>fo "cloth" "Hand.cloth" (Aq (top 56) 2) "loomwright.hand" 718 471
def XY:Ob:=λ P=>tu #[]
def Zb:Ob:=λ P=>tu #[(.str "self" 807),(.str "later" 808),(.str "picks" 809),(.str "ends" 810)]
def UD:Ob:=λ P=>tu #[]
def XZ:Ob:=λ P=>co "bring" "Hand.bring" 804 203 4 3 473 true 474 (.ref 475) (.ref 476) (.ref 477) 811 812
def Vq:Ob:=λ P=>fo "bring" "Hand.bring" (Aq (top 56) 3) "loomwright.hand" 718 478
def Y1:Ob:=λ P=>tu #[]
def ZE:Ob:=λ P=>tu #[(.str "self" 817),(.str "changes" 818),(.str "later" 819),(.str "picks" 820),(.str "ends" 821)]
def VN:Ob:=λ P=>tu #[]
def Uu:Ob:=λ P=>co "alter" "Hand.alter" 814 207 2 3 480 true 481 (.ref 482) (.ref 483) (.ref 484) 822 823
def Xe:Ob:=λ P=>fo "alter" "Hand.alter" (Aq (top 56) 4) "loomwright.hand" 718 485
def YY:Ob:=λ P=>tu #[]
def TQ:Ob:=λ P=>tu #[(.str "self" 828),(.str "end" 829),(.str "shaft" 830)]
def aZ:Ob:=λ P=>tu #[]
def V1:Ob:=λ P=>co "thread" "Hand.thread" 825 214 3 3 487 true 488 (.ref 489) (.ref 490) (.ref 491) 831 832
def TX:Ob:=λ P=>fo "thread" "Hand.thread" (Aq (top 56) 5) "loomwright.hand" 718 492
def Zi:Ob:=λ P=>tu #[]
def Z8:Ob:=λ P=>tu #[(.str "self" 837),(.str "treadle" 838),(.str "shafts" 839)]
def Vf:Ob:=λ P=>tu #[]
def YQ:Ob:=λ P=>co "tie" "Hand.tie" 834 218 3 3 494 true 495 (.ref 496) (.ref 497) (.ref 498) 840 841
def aJ:Ob:=λ P=>fo "tie" "Hand.tie" (Aq (top 56) 6) "loomwright.hand" 718 499
def W9:Ob:=λ P=>tu #[]
def VW:Ob:=λ P=>tu #[(.str "self" 846),(.str "pick" 847),(.str "treadles" 848)]
def U9:Ob:=λ P=>tu #[]
def Uv:Ob:=λ P=>co "tread" "Hand.tread" 843 222 3 3 501 true 502 (.ref 503) (.ref 504) (.ref 505) 849 850
def TV:Ob:=λ P=>fo "tread" "Hand.tread" (Aq (top 56) 7) "loomwright.hand" 718 506
def Wq:Ob:=λ P=>tu #[]
def Vb:Ob:=λ P=>tu #[(.str "self" 855),(.str "side" 856),(.str "number" 857),(.str "colour" 858),(.str "colours" 859)]
def VF:Ob:=λ P=>tu #[]
def ZJ:Ob:=λ P=>co "colour" "Hand.colour" 852 226 4 3 508 true 509 (.ref 510) (.ref 511) (.ref 512) 860 861
def ZT:Ob:=λ P=>fo "colour" "Hand.colour" (Aq (top 56) 8) "loomwright.hand" 718 513
def XN:Ob:=λ P=>tu #[]
def aQ:Ob:=λ P=>tu #[(.str "self" 866),(.str "end" 867),(.str "shaft" 868),(.str "colour" 869),(.str "changes" 870),(.str "later" 871)]
def UJ:Ob:=λ P=>tu #[]
def VJ:Ob:=λ P=>co "put_end" "Hand.put_end" 863 233 4 3 515 true 516 (.ref 517) (.ref 518) (.ref 519) 872 873
def Za:Ob:=λ P=>fo "put_end" "Hand.put_end" (Aq (top 56) 9) "loomwright.hand" 718 520
def X0:Ob:=λ P=>tu #[]
def TK:Ob:=λ P=>tu #[(.str "self" 878),(.str "pick" 879),(.str "treadles" 880),(.str "colour" 881),(.str "treading" 882),(.str "later" 883)]
def Yb:Ob:=λ P=>tu #[]
def ZI:Ob:=λ P=>co "put_pick" "Hand.put_pick" 875 240 4 3 522 true 523 (.ref 524) (.ref 525) (.ref 526) 884 885
def Wh:Ob:=λ P=>fo "put_pick" "Hand.put_pick" (Aq (top 56) 10) "loomwright.hand" 718 527
def Y3:Ob:=λ P=>tu #[]
def ZA:Ob:=λ P=>tu #[(.str "self" 890),(.str "end" 891),(.str "changes" 892),(.str "later" 893)]
def VO:Ob:=λ P=>tu #[]
def WS:Ob:=λ P=>co "take_end" "Hand.take_end" 887 247 2 3 529 true 530 (.ref 531) (.ref 532) (.ref 533) 894 895
def Vc:Ob:=λ P=>fo "take_end" "Hand.take_end" (Aq (top 56) 11) "loomwright.hand" 718 534
def Z5:Ob:=λ P=>tu #[]
def aW:Ob:=λ P=>tu #[(.str "self" 900),(.str "pick" 901),(.str "treading" 902),(.str "later" 903)]
def Zx:Ob:=λ P=>tu #[]
def Yo:Ob:=λ P=>co "take_pick" "Hand.take_pick" 897 254 2 3 536 true 537 (.ref 538) (.ref 539) (.ref 540) 904 905
def V8:Ob:=λ P=>fo "take_pick" "Hand.take_pick" (Aq (top 56) 12) "loomwright.hand" 718 541
def Vn:Ob:=λ P=>tu #[]
def Z1:Ob:=λ P=>tu #[(.str "self" 910),(.str "deed" 911)]
def Y2:Ob:=λ P=>tu #[]
def W0:Ob:=λ P=>co "undo" "Hand.undo" 907 261 1 3 543 true 544 (.ref 545) (.ref 546) (.ref 547) 912 913
def YC:Ob:=λ P=>fo "undo" "Hand.undo" (Aq (top 56) 13) "loomwright.hand" 718 548
def UQ:Ob:=λ P=>tu #[(.str "held" 915),(.str "past" 916)]
def V6:Ob:=λ P=>di #[dE P "__module__" 777 (.str "loomwright.hand" 718),dE P "__firstlineno__" 781 (.int 191 780),dR P "__init__" 789 458,dR P "draft" 796 465,dR P "cloth" 803 472,dR P "bring" 813 479,dR P "alter" 824 486,dR P "thread" 833 493,dR P "tie" 842 500,dR P "tread" 851 507,dR P "colour" 862 514,dR P "put_end" 874 521,dR P "put_pick" 886 528,dR P "take_end" 896 535,dR P "take_pick" 906 542,dR P "undo" 914 549,dR P "__static_attributes__" 917 550,dR P "__dict__" 919 553,dR P "__weakref__" 921 554,dE P "__doc__" 922 .none] 4
def ax:Ob:=λ P=>⟨(.type "type"),none,(.cls ⟨"Hand",[(.type "object")],[(.ref 552),(.type "object")],551,"Hand",true,[],[],false,none,false⟩), #[none,none,(some (.str "Hand" 770)),(some (.str "Hand" 778)),(some (.builtin "object.__new__")),(some (.bool true))]⟩
def U3:Ob:=λ P=>⟨(.type "getset_descriptor"),none,(.fields #[(.str "__dict__" 918),(.ref 552),(.builtin "function.__dict__"),(.builtin "function.__dict__#set")]), #[]⟩
def aa:Ob:=λ P=>⟨(.type "getset_descriptor"),none,(.fields #[(.str "__weakref__" 920),(.ref 552),(.builtin "ExceptionGroup.__weakref__"), .none]), #[]⟩
def WA:Ob:=λ P=>tu #[]
def Xk:Ob:=λ P=>tu #[(.str "_law_cell" 930),(.str "_law_k" 931)]
def aP:Ob:=λ P=>tu #[]
def VH:Ob:=λ P=>co "_law_mixed" "_law_mixed" 927 267 2 3 557 true 558 (.ref 559) (.ref 560) (.ref 561) 932 933
def WY:Ob:=λ P=>fo "_law_mixed" "_law_mixed" (top 58) "law_loomwright_k33_deeds_refused" 925 562
def VE:Ob:=λ P=>tu #[]
def aj:Ob:=λ P=>co "_law_kinds" "_law_kinds" 935 270 1 3 564 true 565 .none .none (.ref 566) 938 939
def WX:Ob:=λ P=>fo "_law_kinds" "_law_kinds" (top 59) "law_loomwright_k33_deeds_refused" 925 567
def Xl:Ob:=λ P=>tu #[]
def Xy:Ob:=λ P=>co "_law_same" "_law_same" 941 277 2 3 569 true 570 .none .none (.ref 571) 944 945
def Xu:Ob:=λ P=>fo "_law_same" "_law_same" (top 60) "law_loomwright_k33_deeds_refused" 925 572
def YL:Ob:=λ P=>tu #[]
def YB:Ob:=λ P=>co "_law_cells" "_law_cells" 947 283 2 3 574 true 575 .none .none (.ref 576) 950 951
def Uo:Ob:=λ P=>fo "_law_cells" "_law_cells" (top 61) "law_loomwright_k33_deeds_refused" 925 577
def Z7:Ob:=λ P=>tu #[]
def Xb:Ob:=λ P=>co "_law_numbers" "_law_numbers" 953 286 2 3 579 true 580 .none .none (.ref 581) 956 957
def X2:Ob:=λ P=>fo "_law_numbers" "_law_numbers" (top 62) "law_loomwright_k33_deeds_refused" 925 582
def Ym:Ob:=λ P=>tu #[]
def V2:Ob:=λ P=>co "_law_draft" "_law_draft" 959 288 2 3 584 true 585 .none .none (.ref 586) 962 963
def ZY:Ob:=λ P=>fo "_law_draft" "_law_draft" (top 63) "law_loomwright_k33_deeds_refused" 925 587
def T3:Ob:=λ P=>tu #[]
def Vl:Ob:=λ P=>co "_law_copied" "_law_copied" 965 302 1 3 589 true 590 .none .none (.ref 591) 968 969
def TY:Ob:=λ P=>fo "_law_copied" "_law_copied" (top 64) "law_loomwright_k33_deeds_refused" 925 592
def XO:Ob:=λ P=>tu #[]
def Yq:Ob:=λ P=>tu #[(.str "_law_parts" 982),(.str "_law_shafts" 983),(.str "_law_treadles" 984),(.str "_law_threading" 985),(.str "_law_ties" 986),(.str "_law_treading" 987),(.str "_law_warp" 988),(.str "_law_weft" 989)]
def ay:Ob:=λ P=>tu #[]
def Zl:Ob:=λ P=>co "_law_made" "_law_made" 979 314 1 3 601 true 602 (.ref 603) (.ref 604) (.ref 605) 990 991
def Ub:Ob:=λ P=>fo "_law_made" "_law_made" (top 66) "law_loomwright_k33_deeds_refused" 925 606
def WE:Ob:=λ P=>tu #[]
def UT:Ob:=λ P=>tu #[(.str "_law_number" 996),(.str "_law_most" 997)]
def Uh:Ob:=λ P=>tu #[]
def Zc:Ob:=λ P=>co "_law_no_place" "_law_no_place" 993 317 2 3 608 true 609 (.ref 610) (.ref 611) (.ref 612) 998 999
def YM:Ob:=λ P=>fo "_law_no_place" "_law_no_place" (top 67) "law_loomwright_k33_deeds_refused" 925 613
def ZW:Ob:=λ P=>tu #[]
def UA:Ob:=λ P=>tu #[(.str "_law_number" 1004),(.str "_law_most" 1005)]
def aA:Ob:=λ P=>tu #[]
def W6:Ob:=λ P=>co "_law_no_shaft" "_law_no_shaft" 1001 319 2 3 615 true 616 (.ref 617) (.ref 618) (.ref 619) 1006 1007
def Ye:Ob:=λ P=>fo "_law_no_shaft" "_law_no_shaft" (top 68) "law_loomwright_k33_deeds_refused" 925 620
def Ur:Ob:=λ P=>tu #[]
def Wy:Ob:=λ P=>tu #[(.str "_law_number" 1012),(.str "_law_most" 1013),(.str "_law_some" 1014)]
def WK:Ob:=λ P=>tu #[]
def WL:Ob:=λ P=>co "_law_no_list" "_law_no_list" 1009 321 2 3 622 true 623 (.ref 624) (.ref 625) (.ref 626) 1015 1016
def ZL:Ob:=λ P=>fo "_law_no_list" "_law_no_list" (top 69) "law_loomwright_k33_deeds_refused" 925 627
def X1:Ob:=λ P=>tu #[]
def Xc:Ob:=λ P=>tu #[(.str "_law_number" 1021)]
def Zq:Ob:=λ P=>tu #[]
def VQ:Ob:=λ P=>co "_law_no_colour" "_law_no_colour" 1018 324 1 3 629 true 630 (.ref 631) (.ref 632) (.ref 633) 1022 1023
def Vz:Ob:=λ P=>fo "_law_no_colour" "_law_no_colour" (top 70) "law_loomwright_k33_deeds_refused" 925 634
def W1:Ob:=λ P=>tu #[]
def VG:Ob:=λ P=>tu #[(.str "_law_hand" 1028),(.str "_law_kind" 1029),(.str "_law_number" 1030),(.str "_law_sizes" 1031),(.str "_law_ends" 1032),(.str "_law_picks" 1033),(.str "_law_shafts" 1034),(.str "_law_treadles" 1035),(.str "_law_is_away" 1036),(.str "_law_more" 1037),(.str "_law_wrong" 1038),(.str "_law_end" 1039),(.str "_law_pick" 1040),(.str "_law_shaft" 1041),(.str "_law_feet" 1042),(.str "_law_treadle" 1043),(.str "_law_odd" 1044),(.str "_law_side" 1045),(.str "_law_place" 1046),(.str "_law_own" 1047)]
def Vw:Ob:=λ P=>tu #[]
def ZV:Ob:=λ P=>co "_law_tried" "_law_tried" 1025 326 4 3 636 true 637 (.ref 638) (.ref 639) (.ref 640) 1048 1049
def ZS:Ob:=λ P=>fo "_law_tried" "_law_tried" (top 71) "law_loomwright_k33_deeds_refused" 925 641
def VP:Ob:=λ P=>tu #[]
def ZN:Ob:=λ P=>tu #[(.str "_law_hand" 1054),(.str "_law_kind" 1055),(.str "_law_number" 1056),(.str "_law_sizes" 1057),(.str "_law_wrong" 1058),(.str "e" 1059),(.str "_law_found" 1060)]
def WG:Ob:=λ P=>tu #[]
def UE:Ob:=λ P=>co "_law_refused" "_law_refused" 1051 359 4 3 643 true 644 (.ref 645) (.ref 646) (.ref 647) 1061 1062
def Yd:Ob:=λ P=>fo "_law_refused" "_law_refused" (top 72) "law_loomwright_k33_deeds_refused" 925 648
def ar:Ob:=λ P=>tu #[]
def ZO:Ob:=λ P=>tu #[(.str "_law_hand" 1067),(.str "_law_which" 1068),(.str "_law_wrong" 1069),(.str "e" 1070)]
def Ug:Ob:=λ P=>tu #[]
def Y7:Ob:=λ P=>co "_law_end_refused" "_law_end_refused" 1064 369 2 3 650 true 651 (.ref 652) (.ref 653) (.ref 654) 1071 1072
def Uy:Ob:=λ P=>fo "_law_end_refused" "_law_end_refused" (top 73) "law_loomwright_k33_deeds_refused" 925 655
def VM:Ob:=λ P=>tu #[]
def ZP:Ob:=λ P=>tu #[(.str "_law_parts" 1077),(.str "_law_one" 1078),(.str "_law_small" 1079),(.str "_law_colours" 1080),(.str "_law_many" 1081),(.str "_law_great" 1082),(.str "_law_found" 1083)]
def YI:Ob:=λ P=>tu #[]
def YW:Ob:=λ P=>co "_law_edges" "_law_edges" 1074 387 1 3 657 true 658 (.ref 659) (.ref 660) (.ref 661) 1084 1085
def VI:Ob:=λ P=>fo "_law_edges" "_law_edges" (top 74) "law_loomwright_k33_deeds_refused" 925 662
def YZ:Ob:=λ P=>tu #[]
def YG:Ob:=λ P=>tu #[(.str "_law_script" 1090),(.str "_law_parts" 1091),(.str "_law_hand" 1092),(.str "_law_sizes" 1093),(.str "_law_before" 1094),(.str "_law_cell" 1095),(.str "_law_kind" 1096),(.str "_law_number" 1097),(.str "_law_due" 1098),(.str "_law_turn" 1099)]
def Y8:Ob:=λ P=>tu #[]
def Yx:Ob:=λ P=>co "law" "law" 1087 398 1 3 664 true 665 (.ref 666) (.ref 667) (.ref 668) 1100 1101
def Ws:Ob:=λ P=>fo "law" "law" (top 75) "law_loomwright_k33_deeds_refused" 925 669
def bU (P:Params):List Obj:=Yx P::Ws P::[]
def ci (P:Params):List Obj:=ZO P::Ug P::Y7 P::Uy P::VM P::ZP P::YI P::YW P::VI P::YZ P::YG P::Y8 P::bU P
def bI (P:Params):List Obj:=Vz P::W1 P::VG P::Vw P::ZV P::ZS P::VP P::ZN P::WG P::UE P::Yd P::ar P::ci P
def bE (P:Params):List Obj:=aA P::W6 P::Ye P::Ur P::Wy P::WK P::WL P::ZL P::X1 P::Xc P::Zq P::VQ P::bI P
def cu (P:Params):List Obj:=XO P::Yq P::ay P::Zl P::Ub P::WE P::UT P::Uh P::Zc P::YM P::ZW P::UA P::bE P
def bv (P:Params):List Obj:=YL P::YB P::Uo P::Z7 P::Xb P::X2 P::Ym P::V2 P::ZY P::T3 P::Vl P::TY P::cu P
def bu (P:Params):List Obj:=aa P::WA P::Xk P::aP P::VH P::WY P::VE P::aj P::WX P::Xl P::Xy P::Xu P::bv P
def bF (P:Params):List Obj:=Zx P::Yo P::V8 P::Vn P::Z1 P::Y2 P::W0 P::YC P::UQ P::V6 P::ax P::U3 P::bu P
def cr (P:Params):List Obj:=X0 P::TK P::Yb P::ZI P::Wh P::Y3 P::ZA P::VO P::WS P::Vc P::Z5 P::aW P::bF P
def bP (P:Params):List Obj:=Uv P::TV P::Wq P::Vb P::VF P::ZJ P::ZT P::XN P::aQ P::UJ P::VJ P::Za P::cr P
def cn (P:Params):List Obj:=TQ P::aZ P::V1 P::TX P::Zi P::Z8 P::Vf P::YQ P::aJ P::W9 P::VW P::U9 P::bP P
def bR (P:Params):List Obj:=Xh P::XY P::Zb P::UD P::XZ P::Vq P::Y1 P::ZE P::VN P::Uu P::Xe P::YY P::cn P
def bp (P:Params):List Obj:=U0 P::UC P::Xi P::aI P::Wd P::XQ P::YH P::Zj P::Zd P::aE P::VD P::We P::bR P
def bZ (P:Params):List Obj:=TR P::bf P::Vp P::au P::aG P::Xv P::Yw P::WJ P::WV P::VC P::Ui P::be P::bp P
def bN (P:Params):List Obj:=YU P::WM P::VL P::Zo P::ag P::Zu P::Vm P::X3 P::YT P::U5 P::Zp P::VX P::bZ P
def cg (P:Params):List Obj:=ah P::Yi P::UP P::U6 P::aO P::WP P::UV P::Wz P::Yj P::Wr P::Vt P::UF P::bN P
def bQ (P:Params):List Obj:=V7 P::Xp P::TZ P::WR P::Y6 P::Xn P::XF P::VY P::Uk P::UH P::Xx P::VA P::cg P
def bo (P:Params):List Obj:=bd P::Wa P::U8 P::T7 P::ZR P::Ww P::Vs P::Xr P::Zz P::XS P::YA P::aT P::bQ P
def bH (P:Params):List Obj:=Yc P::Z0 P::Z9 P::ZU P::Xz P::Va P::YN P::U7 P::Ze P::Xm P::aK P::ZK P::bo P
def bJ (P:Params):List Obj:=U2 P::XW P::ZC P::YE P::XG P::aN P::T6 P::Xd P::aS P::Us P::Zm P::aC P::bH P
def cf (P:Params):List Obj:=Yt P::UR P::Zh P::UU P::X8 P::XJ P::Zn P::Zg P::Wn P::aR P::U1 P::U4 P::bJ P
def bD (P:Params):List Obj:=W5 P::TJ P::Yz P::ZZ P::Vo P::XE P::UZ P::VR P::Wx P::Yp P::Wi P::Ue P::cf P
def bB (P:Params):List Obj:=Yr P::aF P::W8 P::aU P::TH P::YR P::WH P::XB P::Xj P::XT P::X9 P::Wb P::bD P
def bX (P:Params):List Obj:=bj P::Zf P::Zy P::Wk P::X7 P::ZQ P::Xs P::VB P::Uc P::WI P::Vg P::Ul P::bB P
def ob9 (P:Params):List Obj:=Wc P::ZH P::aX P::Wt P::Zt P::XR P::XI P::ai P::aL P::Ud P::WN P::UX P::bX P
def ob8 (P:Params):List Obj:=Zr P::Zw P::XD P::Zv P::WW P::Y9 P::Yl P::Xq P::WZ P::XU P::bh P::T9 P::ob9 P
def ob7 (P:Params):List Obj:=Zk P::YX P::ZX P::Wg P::Ve P::Xg P::Xf P::Wv P::W3 P::WC P::Xa P::Uq P::ob8 P
def ob6 (P:Params):List Obj:=XM P::X5 P::T1 P::av P::XX P::Vx P::Y4 P::Uz P::Vd P::UW P::YK P::YV P::ob7 P
def ob5 (P:Params):List Obj:=Vk P::Vu P::Z4 P::aH P::Wo P::aY P::Yv P::Xw P::UK P::V0 P::XC P::X6 P::ob6 P
def ob4 (P:Params):List Obj:=V3 P::Wl P::WB P::TL P::T5 P::XH P::ak P::aM P::WO P::Yy P::UO P::V4 P::ob5 P
def ob3 (P:Params):List Obj:=o87 P::o88 P::o89 P::o92 P::o99 P::UY P::YO P::UL P::Yh P::Uj P::Wm P::WT P::ob4 P
def ob2 (P:Params):List Obj:=o64 P::o66 P::o67 P::o68 P::o69 P::o70 P::o73 P::o80 P::o82 P::o83 P::o85 P::o86 P::ob3 P
def ob1 (P:Params):List Obj:=o35 P::o42 P::o44 P::o45 P::o47 P::o48 P::o49 P::o50 P::o51 P::o54 P::o61 P::o63 P::ob2 P
def ob0 (P:Params):List Obj:=boot_o_2 P::o3 P::o15 P::o17 P::o18 P::o20 P::o21 P::o22 P::o29 P::o30 P::o31 P::o32 P::ob1 P
def frag (P:Params):Frag:=(nat_lit 2,boot_o_2 P)::(nat_lit 3,o3 P)::(nat_lit 15,o15 P)::(nat_lit 17,o17 P)::(nat_lit 18,o18 P)::(nat_lit 20,o20 P)::(nat_lit 21,o21 P)::(nat_lit 22,o22 P)::(nat_lit 29,o29 P)::(nat_lit 30,o30 P)::(nat_lit 31,o31 P)::(nat_lit 32,o32 P)::(nat_lit 35,o35 P)::(nat_lit 42,o42 P)::(nat_lit 44,o44 P)::(nat_lit 45,o45 P)::(nat_lit 47,o47 P)::(nat_lit 48,o48 P)::(nat_lit 49,o49 P)::(nat_lit 50,o50 P)::(nat_lit 51,o51 P)::(nat_lit 54,o54 P)::(nat_lit 61,o61 P)::(nat_lit 63,o63 P)::(nat_lit 64,o64 P)::(nat_lit 66,o66 P)::(nat_lit 67,o67 P)::(nat_lit 68,o68 P)::(nat_lit 69,o69 P)::(nat_lit 70,o70 P)::(nat_lit 73,o73 P)::(nat_lit 80,o80 P)::(nat_lit 82,o82 P)::(nat_lit 83,o83 P)::(nat_lit 85,o85 P)::(nat_lit 86,o86 P)::(nat_lit 87,o87 P)::(nat_lit 88,o88 P)::(nat_lit 89,o89 P)::(nat_lit 92,o92 P)::(nat_lit 99,o99 P)::(nat_lit 101,UY P)::(nat_lit 102,YO P)::(nat_lit 104,UL P)::(nat_lit 105,Yh P)::(nat_lit 106,Uj P)::(nat_lit 107,Wm P)::(nat_lit 108,WT P)::(nat_lit 111,V3 P)::(nat_lit 118,Wl P)::(nat_lit 120,WB P)::(nat_lit 121,TL P)::(nat_lit 123,T5 P)::(nat_lit 124,XH P)::(nat_lit 125,ak P)::(nat_lit 126,aM P)::(nat_lit 127,WO P)::(nat_lit 130,Yy P)::(nat_lit 137,UO P)::(nat_lit 138,V4 P)::(nat_lit 139,Vk P)::(nat_lit 142,Vu P)::(nat_lit 149,Z4 P)::(nat_lit 150,aH P)::(nat_lit 151,Wo P)::(nat_lit 154,aY P)::(nat_lit 161,Yv P)::(nat_lit 162,Xw P)::(nat_lit 163,UK P)::(nat_lit 166,V0 P)::(nat_lit 168,XC P)::(nat_lit 169,X6 P)::(nat_lit 171,XM P)::(nat_lit 172,X5 P)::(nat_lit 173,T1 P)::(nat_lit 175,av P)::(nat_lit 176,XX P)::(nat_lit 178,Vx P)::(nat_lit 179,Y4 P)::(nat_lit 180,Uz P)::(nat_lit 182,Vd P)::(nat_lit 183,UW P)::(nat_lit 185,YK P)::(nat_lit 186,YV P)::(nat_lit 187,Zk P)::(nat_lit 188,YX P)::(nat_lit 190,ZX P)::(nat_lit 191,Wg P)::(nat_lit 193,Ve P)::(nat_lit 194,Xg P)::(nat_lit 195,Xf P)::(nat_lit 197,Wv P)::(nat_lit 198,W3 P)::(nat_lit 200,WC P)::(nat_lit 201,Xa P)::(nat_lit 202,Uq P)::(nat_lit 204,Zr P)::(nat_lit 205,Zw P)::(nat_lit 207,XD P)::(nat_lit 208,Zv P)::(nat_lit 209,WW P)::(nat_lit 212,Y9 P)::(nat_lit 213,Yl P)::(nat_lit 214,Xq P)::(nat_lit 217,WZ P)::(nat_lit 218,XU P)::(nat_lit 219,bh P)::(nat_lit 222,T9 P)::(nat_lit 223,Wc P)::(nat_lit 231,ZH P)::(nat_lit 234,aX P)::(nat_lit 235,Wt P)::(nat_lit 236,Zt P)::(nat_lit 239,XR P)::(nat_lit 240,XI P)::(nat_lit 241,ai P)::(nat_lit 243,aL P)::(nat_lit 244,Ud P)::(nat_lit 246,WN P)::(nat_lit 247,UX P)::(nat_lit 248,bj P)::(nat_lit 250,Zf P)::(nat_lit 251,Zy P)::(nat_lit 253,Wk P)::(nat_lit 254,X7 P)::(nat_lit 255,ZQ P)::(nat_lit 256,Xs P)::(nat_lit 257,VB P)::(nat_lit 258,Uc P)::(nat_lit 259,WI P)::(nat_lit 262,Vg P)::(nat_lit 264,Ul P)::(nat_lit 265,Yr P)::(nat_lit 267,aF P)::(nat_lit 268,W8 P)::(nat_lit 269,aU P)::(nat_lit 271,TH P)::(nat_lit 272,YR P)::(nat_lit 274,WH P)::(nat_lit 275,XB P)::(nat_lit 276,Xj P)::(nat_lit 278,XT P)::(nat_lit 279,X9 P)::(nat_lit 281,Wb P)::(nat_lit 282,W5 P)::(nat_lit 283,TJ P)::(nat_lit 285,Yz P)::(nat_lit 286,ZZ P)::(nat_lit 288,Vo P)::(nat_lit 289,XE P)::(nat_lit 290,UZ P)::(nat_lit 292,VR P)::(nat_lit 293,Wx P)::(nat_lit 295,Yp P)::(nat_lit 296,Wi P)::(nat_lit 297,Ue P)::(nat_lit 300,Yt P)::(nat_lit 301,UR P)::(nat_lit 302,Zh P)::(nat_lit 304,UU P)::(nat_lit 305,X8 P)::(nat_lit 307,XJ P)::(nat_lit 308,Zn P)::(nat_lit 309,Zg P)::(nat_lit 312,Wn P)::(nat_lit 313,aR P)::(nat_lit 321,U1 P)::(nat_lit 323,U4 P)::(nat_lit 324,U2 P)::(nat_lit 326,XW P)::(nat_lit 327,ZC P)::(nat_lit 328,YE P)::(nat_lit 330,XG P)::(nat_lit 331,aN P)::(nat_lit 333,T6 P)::(nat_lit 334,Xd P)::(nat_lit 335,aS P)::(nat_lit 337,Us P)::(nat_lit 338,Zm P)::(nat_lit 340,aC P)::(nat_lit 341,Yc P)::(nat_lit 342,Z0 P)::(nat_lit 344,Z9 P)::(nat_lit 345,ZU P)::(nat_lit 347,Xz P)::(nat_lit 348,Va P)::(nat_lit 349,YN P)::(nat_lit 351,U7 P)::(nat_lit 352,Ze P)::(nat_lit 354,Xm P)::(nat_lit 355,aK P)::(nat_lit 356,ZK P)::(nat_lit 358,bd P)::(nat_lit 359,Wa P)::(nat_lit 361,U8 P)::(nat_lit 362,T7 P)::(nat_lit 363,ZR P)::(nat_lit 365,Ww P)::(nat_lit 366,Vs P)::(nat_lit 368,Xr P)::(nat_lit 369,Zz P)::(nat_lit 370,XS P)::(nat_lit 371,YA P)::(nat_lit 372,aT P)::(nat_lit 373,V7 P)::(nat_lit 374,Xp P)::(nat_lit 377,TZ P)::(nat_lit 380,WR P)::(nat_lit 381,Y6 P)::(nat_lit 382,Xn P)::(nat_lit 385,XF P)::(nat_lit 386,VY P)::(nat_lit 387,Uk P)::(nat_lit 390,UH P)::(nat_lit 391,Xx P)::(nat_lit 392,VA P)::(nat_lit 395,ah P)::(nat_lit 396,Yi P)::(nat_lit 397,UP P)::(nat_lit 400,U6 P)::(nat_lit 401,aO P)::(nat_lit 402,WP P)::(nat_lit 405,UV P)::(nat_lit 406,Wz P)::(nat_lit 407,Yj P)::(nat_lit 409,Wr P)::(nat_lit 410,Vt P)::(nat_lit 412,UF P)::(nat_lit 413,YU P)::(nat_lit 414,WM P)::(nat_lit 417,VL P)::(nat_lit 418,Zo P)::(nat_lit 419,ag P)::(nat_lit 421,Zu P)::(nat_lit 422,Vm P)::(nat_lit 424,X3 P)::(nat_lit 425,YT P)::(nat_lit 426,U5 P)::(nat_lit 428,Zp P)::(nat_lit 429,VX P)::(nat_lit 431,TR P)::(nat_lit 432,bf P)::(nat_lit 433,Vp P)::(nat_lit 435,au P)::(nat_lit 436,aG P)::(nat_lit 438,Xv P)::(nat_lit 439,Yw P)::(nat_lit 440,WJ P)::(nat_lit 443,WV P)::(nat_lit 444,VC P)::(nat_lit 452,Ui P)::(nat_lit 454,be P)::(nat_lit 455,U0 P)::(nat_lit 457,UC P)::(nat_lit 458,Xi P)::(nat_lit 459,aI P)::(nat_lit 461,Wd P)::(nat_lit 462,XQ P)::(nat_lit 464,YH P)::(nat_lit 465,Zj P)::(nat_lit 466,Zd P)::(nat_lit 468,aE P)::(nat_lit 469,VD P)::(nat_lit 471,We P)::(nat_lit 472,Xh P)::(nat_lit 473,XY P)::(nat_lit 475,Zb P)::(nat_lit 476,UD P)::(nat_lit 478,XZ P)::(nat_lit 479,Vq P)::(nat_lit 480,Y1 P)::(nat_lit 482,ZE P)::(nat_lit 483,VN P)::(nat_lit 485,Uu P)::(nat_lit 486,Xe P)::(nat_lit 487,YY P)::(nat_lit 489,TQ P)::(nat_lit 490,aZ P)::(nat_lit 492,V1 P)::(nat_lit 493,TX P)::(nat_lit 494,Zi P)::(nat_lit 496,Z8 P)::(nat_lit 497,Vf P)::(nat_lit 499,YQ P)::(nat_lit 500,aJ P)::(nat_lit 501,W9 P)::(nat_lit 503,VW P)::(nat_lit 504,U9 P)::(nat_lit 506,Uv P)::(nat_lit 507,TV P)::(nat_lit 508,Wq P)::(nat_lit 510,Vb P)::(nat_lit 511,VF P)::(nat_lit 513,ZJ P)::(nat_lit 514,ZT P)::(nat_lit 515,XN P)::(nat_lit 517,aQ P)::(nat_lit 518,UJ P)::(nat_lit 520,VJ P)::(nat_lit 521,Za P)::(nat_lit 522,X0 P)::(nat_lit 524,TK P)::(nat_lit 525,Yb P)::(nat_lit 527,ZI P)::(nat_lit 528,Wh P)::(nat_lit 529,Y3 P)::(nat_lit 531,ZA P)::(nat_lit 532,VO P)::(nat_lit 534,WS P)::(nat_lit 535,Vc P)::(nat_lit 536,Z5 P)::(nat_lit 538,aW P)::(nat_lit 539,Zx P)::(nat_lit 541,Yo P)::(nat_lit 542,V8 P)::(nat_lit 543,Vn P)::(nat_lit 545,Z1 P)::(nat_lit 546,Y2 P)::(nat_lit 548,W0 P)::(nat_lit 549,YC P)::(nat_lit 550,UQ P)::(nat_lit 551,V6 P)::(nat_lit 552,ax P)::(nat_lit 553,U3 P)::(nat_lit 554,aa P)::(nat_lit 557,WA P)::(nat_lit 559,Xk P)::(nat_lit 560,aP P)::(nat_lit 562,VH P)::(nat_lit 563,WY P)::(nat_lit 564,VE P)::(nat_lit 567,aj P)::(nat_lit 568,WX P)::(nat_lit 569,Xl P)::(nat_lit 572,Xy P)::(nat_lit 573,Xu P)::(nat_lit 574,YL P)::(nat_lit 577,YB P)::(nat_lit 578,Uo P)::(nat_lit 579,Z7 P)::(nat_lit 582,Xb P)::(nat_lit 583,X2 P)::(nat_lit 584,Ym P)::(nat_lit 587,V2 P)::(nat_lit 588,ZY P)::(nat_lit 589,T3 P)::(nat_lit 592,Vl P)::(nat_lit 593,TY P)::(nat_lit 601,XO P)::(nat_lit 603,Yq P)::(nat_lit 604,ay P)::(nat_lit 606,Zl P)::(nat_lit 607,Ub P)::(nat_lit 608,WE P)::(nat_lit 610,UT P)::(nat_lit 611,Uh P)::(nat_lit 613,Zc P)::(nat_lit 614,YM P)::(nat_lit 615,ZW P)::(nat_lit 617,UA P)::(nat_lit 618,aA P)::(nat_lit 620,W6 P)::(nat_lit 621,Ye P)::(nat_lit 622,Ur P)::(nat_lit 624,Wy P)::(nat_lit 625,WK P)::(nat_lit 627,WL P)::(nat_lit 628,ZL P)::(nat_lit 629,X1 P)::(nat_lit 631,Xc P)::(nat_lit 632,Zq P)::(nat_lit 634,VQ P)::(nat_lit 635,Vz P)::(nat_lit 636,W1 P)::(nat_lit 638,VG P)::(nat_lit 639,Vw P)::(nat_lit 641,ZV P)::(nat_lit 642,ZS P)::(nat_lit 643,VP P)::(nat_lit 645,ZN P)::(nat_lit 646,WG P)::(nat_lit 648,UE P)::(nat_lit 649,Yd P)::(nat_lit 650,ar P)::(nat_lit 652,ZO P)::(nat_lit 653,Ug P)::(nat_lit 655,Y7 P)::(nat_lit 656,Uy P)::(nat_lit 657,VM P)::(nat_lit 659,ZP P)::(nat_lit 660,YI P)::(nat_lit 662,YW P)::(nat_lit 663,VI P)::(nat_lit 664,YZ P)::(nat_lit 666,YG P)::(nat_lit 667,Y8 P)::(nat_lit 669,Yx P)::(nat_lit 670,Ws P)::[]
def addrs:List Addr:=[2,3,15,17,18,20,21,22,29,30,31,32,35,42,44,45,47,48,49,50,51,54,61,63,64,66,67,68,69,70,73,80,82,83,85,86,87,88,89,92,99,101,102,104,105,106,107,108,111,118,120,121,123,124,125,126,127,130,137,138,139,142,149,150,151,154,161,162,163,166,168,169,171,172,173,175,176,178,179,180,182,183,185,186,187,188,190,191,193,194,195,197,198,200,201,202,204,205,207,208,209,212,213,214,217,218,219,222,223,231,234,235,236,239,240,241,243,244,246,247,248,250,251,253,254,255,256,257,258,259,262,264,265,267,268,269,271,272,274,275,276,278,279,281,282,283,285,286,288,289,290,292,293,295,296,297,300,301,302,304,305,307,308,309,312,313,321,323,324,326,327,328,330,331,333,334,335,337,338,340,341,342,344,345,347,348,349,351,352,354,355,356,358,359,361,362,363,365,366,368,369,370,371,372,373,374,377,380,381,382,385,386,387,390,391,392,395,396,397,400,401,402,405,406,407,409,410,412,413,414,417,418,419,421,422,424,425,426,428,429,431,432,433,435,436,438,439,440,443,444,452,454,455,457,458,459,461,462,464,465,466,468,469,471,472,473,475,476,478,479,480,482,483,485,486,487,489,490,492,493,494,496,497,499,500,501,503,504,506,507,508,510,511,513,514,515,517,518,520,521,522,524,525,527,528,529,531,532,534,535,536,538,539,541,542,543,545,546,548,549,550,551,552,553,554,557,559,560,562,563,564,567,568,569,572,573,574,577,578,579,582,583,584,587,588,589,592,593,601,603,604,606,607,608,610,611,613,614,615,617,618,620,621,622,624,625,627,628,629,631,632,634,635,636,638,639,641,642,643,645,646,648,649,650,652,653,655,656,657,659,660,662,663,664,666,667,669,670]
def fr0 (P:Params):Frag:=addrs.zip (ob0 P)
theorem QP (P:Params):frag P=fr0 P:=by kernel_rfl
def view:Program:={ PySem.Challenge.pw_loomwright_k33_deeds_refused with main:={ PySem.Challenge.pw_loomwright_k33_deeds_refused.main with body:=[top 0,top 1,top 2,top 3,top 4,top 6,top 7,top 8,top 9,top 10,top 11,top 12,top 13,top 14,top 16,top 17,top 18,top 19,top 21,top 22,top 23,top 24,top 25,top 26,top 27,top 28,top 29,top 31,top 32,top 33,top 34,top 35,top 36,top 38,top 39,top 41,top 42,top 43,top 44,top 45,top 46,top 48,top 49,top 50,top 51,top 52,top 53,top 54,top 55,top 56,top 58,top 59,top 60,top 61,top 62,top 63,top 64,top 65,top 66,top 67,top 68,top 69,top 70,top 71,top 72,top 73,top 74,top 75] } }
abbrev Xt:Shared->Bool:=λ s=>xlAt view [] s&&recOk (RowW.records PySem.Challenge.rw_loomwright_k33_deeds_refused.row.toRowW) s
theorem addrs_eq:∀ P:Params,addrs=(frag P).map (·.1):=λ _=>by kernel_rfl
abbrev hook:Hook:=kHook frag addrs addrs_eq
abbrev fuel:Nat:=10146
def _root_.PySem.W.Fast.tw11007341936103564235:Program:=PySem.Challenge.pw_loomwright_k33_deeds_refused
theorem _root_.PySem.W.Fast.te11007341936103564235:PySem.Challenge.pw_loomwright_k33_deeds_refused=PySem.W.Fast.tw11007341936103564235:=rfl
theorem T4:(λ _=>true) (HX.topT treeTable)=true:=by k_qdec
theorem wsaid:PySem.Challenge.rw_loomwright_k33_deeds_refused.wellSaid=true:=by k_qdec
theorem br (w:World) (os:OsState):(HX.topT treeTable PySem.Challenge.pw_loomwright_k33_deeds_refused w 11 (some (.ref 6)) fuel ⟨HX.bootT w.params,11,{},Array.mk [],boot_drawn,boot_toks,os⟩ (topStub PySem.Challenge.pw_loomwright_k33_deeds_refused)).map (λ s=>((staticsOk (importedModules PySem.Challenge.pw_loomwright_k33_deeds_refused.main.body) (boot_heap w.params) s.abs.heap&&namesBound PySem.Challenge.pw_loomwright_k33_deeds_refused s.abs.heap&&gensDone s.abs&&laidKept (boot_heap w.params) s.abs.heap),addrs.map s.abs.heap.get?))=some (true,((fr0 w.params).map λ p=>some p.2)):=by
  have _tw:=T4;rw [PySem.W.Fast.te5923862056798008813,PySem.W.Fast.te14364793385576792824,PySem.W.Fast.te9621378704136392807];kernel_rfl
theorem bT (w:World) (os:OsState):(HX.topT treeTable PySem.Challenge.pw_loomwright_k33_deeds_refused w 11 (some (.ref 6)) fuel ⟨HX.bootT w.params,11,{},Array.mk [],boot_drawn,boot_toks,os⟩ (topStub PySem.Challenge.pw_loomwright_k33_deeds_refused)).map (λ s=>(λ o=>(o.1,o.2.1,o.2.2.1,o.2.2.2.1)) (openSeen view [] (importedModules PySem.Challenge.pw_loomwright_k33_deeds_refused.main.body) Xt true s.abs))=some (expectedOf view,bltViewBooted,true,true):=by
  unfold Xt;rw [PySem.W.Fast.te5923862056798008813,PySem.W.Fast.te4187177175401517315,PySem.W.Fast.te2368527892694137696,PySem.W.Fast.te14364793385576792824,PySem.W.Fast.te9621378704136392807];kernel_rfl
theorem bC (w:World) (os:OsState):(HX.topT treeTable PySem.Challenge.pw_loomwright_k33_deeds_refused w 11 (some (.ref 6)) fuel ⟨HX.bootT w.params,11,{},Array.mk [],boot_drawn,boot_toks,os⟩ (topStub PySem.Challenge.pw_loomwright_k33_deeds_refused)).map (λ s=>(λ o=>(o.2.2.2.2.1,o.2.2.2.2.2.1,o.2.2.2.2.2.2.1,o.2.2.2.2.2.2.2.1,o.2.2.2.2.2.2.2.2)) (openSeen view [] (importedModules PySem.Challenge.pw_loomwright_k33_deeds_refused.main.body) Xt true s.abs))=some (pinGoodD (drecsOf view),plainGoodE view (looseW view []),plainGoodD view [],wideGood view,clsGoodW view []):=by
  unfold Xt;rw [PySem.W.Fast.te5923862056798008813,PySem.W.Fast.te4187177175401517315,PySem.W.Fast.te2368527892694137696,PySem.W.Fast.te14364793385576792824,PySem.W.Fast.te9621378704136392807];kernel_rfl
theorem left:LeftO PySem.Challenge.pw_loomwright_k33_deeds_refused view [] Xt hook.obs hook.val fuel:=HX.left_run (by kernel_rfl) (by decide) (λ s=>by kernel_rfl) HX.hb λ w os=>by
  obtain ⟨s,r,l⟩:=Ag5.mp (br w os);obtain ⟨s2,r2,l2⟩:=Ag5.mp (bT w os);cases r.symm.trans r2;obtain ⟨s3,r3,l3⟩:=Ag5.mp (bC w os);cases r.symm.trans r3;rw [<-QP] at l;exact ⟨s.abs,HX.topT_of r,HX.three l (HX.nine l2 l3)⟩
end K33
namespace L2
open PySem PySem.Spec PyProof.Rows
abbrev Key:=Sum Int Str
def J3:Key->Value->Bool
  | .inl k,v=>Value.isInt k v
  | .inr x,v=>Value.isStrOf x v
def bS (w:World):Key->Int
  | .inl k=>hashInt k
  | .inr x=>hashStr w x
theorem Bj:∀ {k:Key} {v:Value},J3 k v=true->(∃ i t,k=Sum.inl i/\v=Value.int i t)\/(∃ x t,k=Sum.inr x/\v=Value.str x t)
  | .inl i,v,h=>by
    obtain ⟨t,e⟩:=Value.isInt_shape (k:=i) (v:=v) h;exact .inl ⟨i,t,rfl,e⟩
  | .inr x,v,h=>by
    obtain ⟨t,e⟩:=Value.isStrOf_shape (x:=x) (v:=v) h;exact .inr ⟨x,t,rfl,e⟩
theorem NT (i:Int) (t:Tok):J3 (.inl i) (.int i t)=true:=by simp [J3,Value.isInt]
theorem NL (x:Str) (t:Tok):J3 (.inr x) (.str x t)=true:=by simp [J3,Value.isStrOf]
theorem S6 (a b:Int):decide ((Sum.inl a:Key)=Sum.inl b)=(a == b):=by
  by_cases e:a=b
  · subst e;simp
  · have h:¬ (Sum.inl a:Key)=Sum.inl b:=λ q=>e (Sum.inl.inj q);rw [decide_eq_false h];exact (beq_eq_false_iff_ne.mpr e).symm
theorem Tb (a b:Str):decide ((Sum.inr a:Key)=Sum.inr b)=decide (a=b):=by
  by_cases e:a=b
  · subst e;simp
  · have h:¬ (Sum.inr a:Key)=Sum.inr b:=λ q=>e (Sum.inr.inj q);rw [decide_eq_false h,decide_eq_false e]
theorem SW (a:Int) (b:Str):decide ((Sum.inl a:Key)=Sum.inr b)=false:=decide_eq_false (λ q=>nomatch q)
theorem SX (a:Str) (b:Int):decide ((Sum.inr a:Key)=Sum.inl b)=false:=decide_eq_false (λ q=>nomatch q)
def Bs (prog:Program) (w:World):PySem.KeyKind prog w Key where
  is:=J3
  hash:=bS w
  inj:=λ v a b ha hb=>by
    rcases Bj ha with ⟨i,t,rfl,rfl⟩ | ⟨x,t,rfl,rfl⟩
    · rcases Bj hb with ⟨j,u,rfl,e⟩ | ⟨y,u,rfl,e⟩
      · injection e with e1 _;rw [e1]
      · exact nomatch e
    · rcases Bj hb with ⟨j,u,rfl,e⟩ | ⟨y,u,rfl,e⟩
      · exact nomatch e
      · injection e with e1 _;rw [e1]
  byValue:=λ k v h=>by
    rcases Bj h with ⟨i,t,rfl,rfl⟩ | ⟨x,t,rfl,rfl⟩ <;> rfl
  pyHash:=λ hv h=>by
    rcases Bj hv with ⟨i,t,rfl,rfl⟩ | ⟨x,t,rfl,rfl⟩
    · exact wpAny_pyHash_int h
    · exact wpAny_pyHash_str h
  eqBool:=λ hu hv h=>by
    rcases Bj hu with ⟨i,t,rfl,rfl⟩ | ⟨x,t,rfl,rfl⟩
    · rcases Bj hv with ⟨j,u,rfl,rfl⟩ | ⟨y,u,rfl,rfl⟩
      · rw [S6] at h;exact wpAny_eqBool_int h
      · rw [SW] at h;exact SeqAt.EqAt.int_str i t y u _ _ _ _ h
    · rcases Bj hv with ⟨j,u,rfl,rfl⟩ | ⟨y,u,rfl,rfl⟩
      · rw [SX] at h;exact SeqAt.EqAt.str_int x t j u _ _ _ _ h
      · rw [Tb] at h;exact wpAny_eqBool_str h
  «strs» := λ k x t v h=>by
    rcases Bj h with ⟨i,u,rfl,e⟩ | ⟨y,u,rfl,e⟩
    · exact nomatch e
    · injection e with e1 _;subst e1;cases v <;> rfl
theorem Lp (prog:Program) (w:World) (i:Int) (t:Tok):(Bs prog w).is (.inl i) (.int i t)=true:=NT i t
theorem Lf (prog:Program) (w:World) (x:Str) (t:Tok):(Bs prog w).is (.inr x) (.str x t)=true:=NL x t
inductive V where
  | non | bl (b:Bool) | int (i:Int) | str (x:Str) | byt (b:Array UInt8) | flt (b:UInt64) | ref (a:Addr) | ty (n:String)
  deriving DecidableEq
def RelV:V->Value->Prop
  | .non,u=>u=Value.none
  | .bl b,u=>u=Value.bool b
  | .int i,u=>∃ t,u=Value.int i t
  | .str x,u=>∃ t,u=Value.str x t
  | .byt b,u=>∃ t,u=Value.bytes b t
  | .flt b,u=>∃ t,u=Value.float b t
  | .ref a,u=>u=Value.ref a
  | .ty n,u=>u=Value.type n
abbrev Vals:List V->List Value->Prop:=Paired RelV
theorem Vals.length {xs:List V} {us:List Value} (r:Vals xs us):xs.length=us.length:=Paired.length r
theorem Vals.get:∀ {xs:List V} {us:List Value} {i:Nat} {x:V},Vals xs us->xs[i]?=some x->∃ u,us[i]?=some u/\RelV x u
  | _,_,_,_, .nil,e=>by simp at e
  | _,_,0,_, .cons r _,e=>by simp at e;subst e;exact ⟨_,rfl,r⟩
  | _,_,i+1,x, .cons _ t,e=>by
    obtain ⟨u,h1,h2⟩:=Vals.get (i:=i) (x:=x) t (by simpa using e);exact ⟨u,by simpa using h1,h2⟩
theorem Vals.append:∀ {xs ys:List V} {us ws:List Value},Vals xs us->Vals ys ws->Vals (xs++ys) (us++ws)
  | _,_,_,_, .nil,s=>s
  | _,_,_,_, .cons r t,s=> .cons r (Vals.append t s)
theorem Vals.take:∀ {xs:List V} {us:List Value} (n:Nat),Vals xs us->Vals (xs.take n) (us.take n)
  | _,_,0,_=> .nil
  | _,_,_+1, .nil=> .nil
  | _,_,n+1, .cons r t=> .cons r (Vals.take n t)
theorem Vals.drop:∀ {xs:List V} {us:List Value} (n:Nat),Vals xs us->Vals (xs.drop n) (us.drop n)
  | _,_,0,r=>r
  | _,_,_+1, .nil=> .nil
  | _,_,n+1, .cons _ t=>Vals.drop n t
def RelO:Option V->Option Value->Prop
  | some v,some u=>RelV v u
  | none,none=>True
  | _,_=>False
def KV {κ:Type}:List (κ × V)->List (κ × Value)->Prop:=Paired λ (p:κ × V) (q:κ × Value)=>p.1=q.1/\RelV p.2 q.2
def kV:Key->V
  | .inl i=> .int i
  | .inr x=> .str x
inductive HO where
  | lst (xs:List V)
  | tup (xs:List V)
  | dK (kvs:List (Key × V)) | dT (kvs:List (List Key × V))
  | set (S:Int->Bool) (n:Nat)
  | ins (C dx:Addr) (fs:List (Str × V))
  | own (x:Addr)
  | xd (fs:List (Str × V))
  | met (f x:Addr)
  | rng (lo hi:Int)
  | frz (o:Obj) (u:HO)
  | tbl (ps:Array Value)
  | ext (φ:Heap->Prop)
abbrev Hp:=Addr->Option HO
def upd (H:Hp) (a:Addr) (o:HO):Hp:=λ b=>if b=a then some o else H b
theorem Ae {H:Hp} {a:Addr} {o:HO}:upd H a o a=some o:=by unfold upd;rw [if_pos rfl]
theorem Ak {H:Hp} {a b:Addr} {o:HO} (h:b≠a):upd H a o b=H b:=by unfold upd;rw [if_neg h]
theorem Cg {H:Hp} {a b:Addr} {o u:HO} (h:H a=some o) (h':H b=some u) (d:o≠u):a≠b:=by
  intro e;subst e;rw [h] at h';exact d (Ad8.inj h')
theorem Ay {H:Hp} {a b:Addr} {o:HO} (h:H a=some o) (h':H b=none):a≠b:=by
  intro e;subst e;rw [h] at h';cases h'
section
variable (P:Program) (w:World)
def ObjOk (H:Hp) (h:Heap) (a:Addr):HO->Prop
  | .lst xs=>xs.length<=sizeLine/\∃ (its:List Value) (n:Nat),Vals xs its/\h.get? a=some { cls:= .type "list",data:= .seq its.toArray n }
  | .tup xs=>xs.length<=sizeLine/\∃ its:List Value,Vals xs its/\IsTup h a its.toArray
  | .dK kvs=>kvs.length<=sizeLine/\(a == sysModules)=false/\∃ vs,KV kvs vs/\h.DictOf (Bs P w) a vs
  | .dT kvs=>kvs.length<=sizeLine/\(a == sysModules)=false/\∃ xs:List (List Key × Addr × Value),
      Paired (λ (p:List Key × V) (q:List Key × Addr × Value)=>p.1=q.1/\H q.2.1=some (.tup (p.1.map kV))/\RelV p.2 q.2.2) kvs xs/\
      ∃ o es ep,h.get? a=some o/\o.ExactDict/\o.data= .dict es ep/\es.toList=xs.map (entryOfKey (tupleKind (Bs P w)))/\(xs.map (·.1)).Nodup
  | .set S n=>h.SetOf (intKind P w) a S n
  | .ins C dx fs=>H dx=some (.own a)/\fs.length<=1000/\dx≠a/\h.get? a=some (PySem.W.instObj C dx)/\
      ∃ mA,h.Ns1 dx mA/\(∀ f,RelO (fs.lookup f) (mA f))/\PySem.Within mA (fs.map (·.1))
  | .own _=>∃ o,h.get? a=some o
  | .xd fs=>∃ mA,h.Ns1 a mA/\∀ f,RelO (fs.lookup f) (mA f)
  | .rng lo hi=>∃ t u v,h.get? a=some { cls:= .type "range",data:= .fields #[.int lo t, .int hi u, .int 1 v] }
  | .frz o u=>h.get? a=some o/\ObjOk H h a u
  | .tbl ps=>h.get? a=some { cls:= .none,data:= .fields ps }
  | .met f x=>h.get? a=some (PySem.W.methodObj (.ref f) (.ref x))
  | .ext φ=>φ h/\(∃ o,h.get? a=some o)/\∀ h1 h2:Heap,φ h1->(∀ o,h1.get? a=some o->h2.get? a=some o)->φ h2
def HOk (H:Hp) (h:Heap):Prop:=∀ a o,H a=some o->ObjOk P w H h a o
end
section
variable {P:Program} {w:World} {H H':Hp} {h h':Heap} {a:Addr} {o:HO}
theorem ObjOk.lt (x:ObjOk P w H h a o):a<h.objs.size:=by
  cases o with
  | lst xs=>obtain ⟨_,_,_,_,e⟩:=x;exact Aa6 e
  | tup xs=>obtain ⟨_,_,_,p⟩:=x;exact p.lt
  | dK kvs=>obtain ⟨_,_,_,_,o,_,_,e,_⟩:=x;exact Aa6 e
  | dT kvs=>obtain ⟨_,_,_,_,o,_,_,e,_⟩:=x;exact Aa6 e
  | set S n=>obtain ⟨o,_,_,_,e,_⟩:=x;exact Aa6 e
  | ins C dx fs=>obtain ⟨_,_,_,e,_⟩:=x;exact Aa6 e
  | own y=>obtain ⟨_,e⟩:=x;exact Aa6 e
  | xd fs=>obtain ⟨_,⟨_,_,_,e,_⟩,_⟩:=x;exact Aa6 e
  | rng lo hi=>obtain ⟨_,_,_,e⟩:=x;exact Aa6 e
  | frz ob u=>obtain ⟨e,_⟩:=x;exact Aa6 e
  | tbl ps=>exact Aa6 (show h.get? a=some _ from x)
  | met f y=>exact Aa6 (show h.get? a=some _ from x)
  | ext φ=>obtain ⟨_,⟨_,e⟩,_⟩:=x;exact Aa6 e
theorem Paired.mapP {α β:Type} {F G:α->β->Prop}:∀ {l₁:List α} {l₂:List β},Paired F l₁ l₂->(∀ a b,F a b->G a b)->Paired G l₁ l₂
  | _,_, .nil,_=> .nil
  | _,_, .cons r t,f=> .cons (f _ _ r) (Paired.mapP t f)
theorem ObjOk.stay (x:ObjOk P w H h a o) (k:∀ b u,(b=a\/H b=some (.own a))->h.get? b=some u->h'.get? b=some u)
    (ho:∀ b,H b=some (.own a)->H' b=some (.own a)) (ht:∀ b xs,H b=some (.tup xs)->H' b=some (.tup xs)):ObjOk P w H' h' a o:=by
  induction o with
  | lst xs=>obtain ⟨z,its,n,r,e⟩:=x;exact ⟨z,its,n,r,k _ _ (.inl rfl) e⟩
  | tup xs=>obtain ⟨z,its,r,ob,e,c⟩:=x;exact ⟨z,its,r,ob,k _ _ (.inl rfl) e,c⟩
  | dK kvs=>obtain ⟨z,y,vs,r,ob,es,ep,e,c⟩:=x;exact ⟨z,y,vs,r,ob,es,ep,k _ _ (.inl rfl) e,c⟩
  | dT kvs=>
    obtain ⟨z,y,xs,r,ob,es,ep,e,c⟩:=x;exact ⟨z,y,xs,Paired.mapP r λ p q z=>⟨z.1,ht _ _ z.2.1,z.2.2⟩,ob,es,ep,k _ _ (.inl rfl) e,c⟩
  | set S n=>obtain ⟨ob,es,ep,t,e,c⟩:=x;exact ⟨ob,es,ep,t,k _ _ (.inl rfl) e,c⟩
  | ins C dx fs=>
    obtain ⟨d,z,ne,e,mA,⟨od,es,ep,e2,c⟩,r⟩:=x;exact ⟨ho _ d,z,ne,k _ _ (.inl rfl) e,mA,⟨od,es,ep,k _ _ (.inr d) e2,c⟩,r⟩
  | own y=>obtain ⟨ob,e⟩:=x;exact ⟨ob,k _ _ (.inl rfl) e⟩
  | xd fs=>obtain ⟨mA,⟨od,es,ep,e,c⟩,r⟩:=x;exact ⟨mA,⟨od,es,ep,k _ _ (.inl rfl) e,c⟩,r⟩
  | rng lo hi=>obtain ⟨t,u,v,e⟩:=x;exact ⟨t,u,v,k _ _ (.inl rfl) e⟩
  | frz ob u ih=>obtain ⟨e,q⟩:=x;exact ⟨k _ _ (.inl rfl) e,ih q⟩
  | tbl ps=>
    have e:h.get? a=some { cls:= .none,data:= .fields ps }:=x;show h'.get? a=some { cls:= .none,data:= .fields ps };exact k a _ (.inl rfl) e
  | met f y=>
    have e:h.get? a=some (PySem.W.methodObj (.ref f) (.ref y)):=x;show h'.get? a=some (PySem.W.methodObj (.ref f) (.ref y));exact k a _ (.inl rfl) e
  | ext φ=>obtain ⟨p,⟨o,e⟩,st⟩:=x;exact ⟨st _ _ p λ o q=>k _ _ (.inl rfl) q,⟨o,k _ _ (.inl rfl) e⟩,st⟩
theorem HOk.lt (x:HOk P w H h) (e:H a=some o):a<h.objs.size:=(x a o e).lt
theorem HOk.fresh (x:HOk P w H h) (e:h.objs.size<=a):H a=none:=by
  cases q:H a with
  | none=>rfl
  | some u=>exact absurd (Ab4 (x.lt q) e) (Nat.lt_irrefl _)
theorem HOk.kept (x:HOk P w H h) (k:∀ b u,h.get? b=some u->h'.get? b=some u):HOk P w H h':=λ a o e=>
  (x a o e).stay (λ b u _ q=>k b u q) (λ _ q=>q) λ _ _ q=>q
theorem HOk.laid (x:HOk P w H h) (k:∀ b u,h.get? b=some u->h'.get? b=some u) (hp:h.objs.size<=a) (new:ObjOk P w (upd H a o) h' a o):HOk P w (upd H a o) h':=λ b u e=>by
  have hn:=x.fresh hp;by_cases hb:b=a
  · subst hb;rw [Ae] at e;cases e;exact new
  · rw [Ak hb] at e;exact (x b u e).stay (λ c v _ q=>k c v q) (λ c q=>by rw [Ak (Ay q hn)];exact q) λ c xs q=>by rw [Ak (Ay q hn)];exact q
end
def Rd (H:Hp) (a:Addr) (u:HO):Prop:=H a=some u\/∃ o,H a=some (.frz o u)
theorem Rd.ok {P:Program} {w:World} {H:Hp} {h:Heap} {a:Addr} {u:HO} (r:Rd H a u) (x:HOk P w H h):ObjOk P w H h a u:=by
  rcases r with r | ⟨o,r⟩
  · exact x a u r
  · obtain ⟨_,q⟩:=x a _ r;exact q
def Mut:Option HO->Prop
  | some (.lst _)=>True
  | some (.dK _)=>True
  | some (.dT _)=>True
  | some (.set _ _)=>True
  | some (.ins _ _ _)=>True
  | some (.ext _)=>True
  | _=>False
section
variable {P:Program} {w:World} {H:Hp} {h h':Heap} {x e:Addr} {o':HO}
theorem HOk.write (ok:HOk P w H h) (mu:Mut (H x)) (he:e=x\/H e=some (.own x)) (k:∀ b u,b≠e->h.get? b=some u->h'.get? b=some u) (heo:∃ u,h'.get? e=some u)
    (new:ObjOk P w (upd H x o') h' x o'):HOk P w (upd H x o') h':=λ b u q=>by
  have nown:∀ c y,H c=some (.own y)->c≠x:=λ c y r z=>by subst z;rw [r] at mu;exact mu
  have ntup:∀ c xs,H c=some (.tup xs)->c≠x:=λ c xs r z=>by subst z;rw [r] at mu;exact mu
  by_cases hb:b=x
  · subst hb;rw [Ae] at q;cases q;exact new
  · rw [Ak hb] at q;by_cases hbe:b=e
    · have q':H b=some (.own x):=by
        rcases he with z | z
        · exact absurd (hbe.trans z) hb
        · rw [hbe];exact z
      rw [q] at q';cases q';obtain ⟨v,hv⟩:=heo;exact ⟨v,by rw [hbe];exact hv⟩
    · refine (ok b u q).stay (λ c v hc r=>k c v ?_ r) (λ c r=>by rw [Ak (nown c b r)];exact r) λ c xs r=>by rw [Ak (ntup c xs r)];exact r
      rcases hc with rfl | hc
      · exact hbe
      · rintro rfl;rcases he with z | z
        · exact nown c b hc z
        · rw [hc] at z;cases z;exact hb rfl
end
structure Un (fs ex:List Addr) (H H':Hp) (h h':Heap):Prop where
  keep:∀ b o,h.get? b=some o->H b=none->b∉fs->b∉ex->h'.get? b=some o
  slot:∀ b o,h.get? b=some o->H b=none->b∈fs->b∉ex->∃ sl,h'.get? b=some { o with slots:=sl }
  free:∀ b o,h.get? b=some o->H b=none->b∉ex->H' b=none
  there:∀ b o,h.get? b=some o->b∉ex->∃ o',h'.get? b=some o'
  tups:∀ b xs,H b=some (.tup xs)->H' b=some (.tup xs)
  frzs:∀ b o u,H b=some (.frz o u)->H' b=some (.frz o u)
  tbls:∀ b ps,H b=some (.tbl ps)->∃ more,H' b=some (.tbl (ps++more))
section
variable {fs fs' ex ex':List Addr} {H H1 H2:Hp} {h h1 h2 h':Heap} {a x e:Addr} {o:HO}
theorem Un.any (u:Un fs ex H H1 h h1) {b:Addr} {ob:Obj} (q:h.get? b=some ob) (n:H b=none) (hx:b∉ex):∃ sl,h1.get? b=some { ob with slots:=sl }:=by
  by_cases hb:b∈fs
  · exact u.slot b ob q n hb hx
  · exact ⟨ob.slots,u.keep b ob q n hb hx⟩
theorem Un.kept (k:∀ b u,h.get? b=some u->h'.get? b=some u):Un fs ex H H h h':=
  ⟨λ b ob q _ _ _=>k b ob q,λ b ob q _ _ _=>⟨ob.slots,k b ob q⟩,λ _ _ _ n _=>n,λ b ob q _=>⟨ob,k b ob q⟩,λ _ _ q=>q,λ _ _ _ q=>q,λ _ ps q=>⟨#[],by rw [q];simp⟩⟩
theorem Un.refl:Un fs ex H H h h:=Un.kept λ _ _ q=>q
theorem Un.laid (k:∀ b u,h.get? b=some u->h'.get? b=some u) (hp:h.objs.size<=a) (hn:H a=none):Un fs ex H (upd H a o) h h' where
  keep:=λ b u q _ _ _=>k b u q
  slot:=λ b u q _ _ _=>⟨u.slots,k b u q⟩
  free:=λ b u q n _=>by rw [Ak (Ac2 (Ab4 (Aa6 q) hp))];exact n
  there:=λ b u q _=>⟨u,k b u q⟩
  tups:=λ b xs q=>by rw [Ak (Ay q hn)];exact q
  frzs:=λ b u xs q=>by rw [Ak (Ay q hn)];exact q
  tbls:=λ b ps q=>⟨#[],by rw [Ak (Ay q hn),q];simp⟩
theorem Un.write (mu:Mut (H x)) (he:e=x\/H e=some (.own x)) (k:∀ b u,b≠e->h.get? b=some u->h'.get? b=some u) (heo:∃ u,h'.get? e=some u):Un fs ex H (upd H x o) h h':=by
  have hx:∀ b,H b=none->b≠x:=λ b n z=>by subst z;rw [n] at mu;exact mu
  have hb:∀ b,H b=none->b≠e:=λ b n z=>by
    subst z;rcases he with r | r
    · exact hx b n r
    · rw [n] at r;cases r
  have hm:∀ b u,H b=some u->¬ Mut (some u)->b≠x:=λ b u q nm z=>by subst z;rw [q] at mu;exact nm mu
  refine ⟨λ b u q n _ _=>k b u (hb b n) q,λ b u q n _ _=>⟨u.slots,k b u (hb b n) q⟩,λ b u q n _=>by rw [Ak (hx b n)];exact n,λ b u q _=> ?_,
    λ b xs q=>by rw [Ak (hm b _ q λ z=>z)];exact q,λ b u xs q=>by rw [Ak (hm b _ q λ z=>z)];exact q,λ b ps q=>⟨#[],by rw [Ak (hm b _ q λ z=>z),q];simp⟩⟩
  by_cases hbe:b=e
  · subst hbe;exact heo
  · exact ⟨u,k b u hbe q⟩
end
def trk (h:Heap) (H:Hp):List Addr:=(Aa9 h.objs.size).filter λ a=>(H a).isSome
def K3 (h:Heap) (H:Hp):Heap:=PySem.W.hideAll h (trk h H)
theorem NV (h:Heap) (H:Hp):(K3 h H).objs.size=h.objs.size:=PySem.W.hideAll_size _ _
theorem OV {h:Heap} {H:Hp} {b:Addr} {o:Obj} (e:h.get? b=some o) (n:H b=none):(K3 h H).get? b=some o:=
  PySem.W.hideAll_get _ e λ hm=>by
    have q:(H b).isSome=true:=(Ah4.mp hm).2;rw [n] at q;simp at q
theorem RB {h:Heap} {H:Hp} {b:Addr} {o:Obj} (e:(K3 h H).get? b=some o):h.get? b=some o/\H b=none:=by
  have e':h.get? b=some o:=PySem.W.of_hideAll (trk h H) e;refine ⟨e',?_⟩;cases q:H b with
  | none=>rfl
  | some x=>
    have hm:b∈trk h H:=Ah4.mpr ⟨Af1.mpr (Aa6 e'),by simp [q]⟩;have z:(K3 h H).get? b=none:=PySem.W.hideAll_none (trk h H) hm;rw [z] at e;cases e
def Q7 (g h:Heap) (L:Addr):List (Addr × Obj):=(Aa9 h.objs.size).filterMap λ a=>if a=L\/(g.get? a).isSome=true then none else (h.get? a).map λ o=>(a,o)
def B9 (g h:Heap) (L d:Addr):List (Addr × Obj):=(Q7 g h L).filter λ p=>decide (p.1≠d)
structure Mod (K:PySem.W.Frag) (mg:Str->Option Value) (base:Heap):Prop where
  kin:K.In base
  glob:base.Ns mainGlobals mg
  blt:∃ mb,base.Ns builtinsNs mb/\∀ x:Str,x≠"__name__"->mb x=bootBuiltins x
  nolimit:base.NoLimit
structure Cx where
  prog:Program
  w:World
  K:PySem.W.Frag
  mg:Str->Option Value
  base:Heap
  A:Around
  N:List Str
  s₀:Shared
  H₀:Hp
  env:Env
  outer:List Env
  stack:List Env
  ex:List Addr
  fn:Str->Bool
  calm:Bool
  pn:List (Addr × Obj)
  xe:Value->Shared->Prop
def frs (l:List Env):List Addr:=l.filterMap (·.frame)
abbrev Cx.fs (X:Cx):List Addr:=frs X.outer
def Vis (sc:Scope) (x:Str):Prop:=sc.names.lookup x=some .local\/sc.names.lookup x=some .cell\/sc.names.lookup x=some .free
def Loc (sc:Scope) (x:Str):Prop:=sc.names.lookup x=some .local\/sc.names.lookup x=some .cell
def bL (env:Env) (h:Heap) (m:Str->Option Value) (x:Str) (u:Value):Prop:=
  (env.kindOf x=some .local/\m x=some u)\/((env.kindOf x=some .cell\/env.kindOf x=some .free)/\∃ c,env.cells.lookup x=some c/\h.IsCell c (some u))
structure Cx.Ok (X:Cx):Prop where
  mod:Mod X.K X.mg X.base
  kind:X.env.scope.kind= .function
  glob:X.env.globals=mainGlobals
  blt:X.env.builtins=builtinsNs
  above:X.s₀.heap.objs.size<=X.env.locals
  inj:∀ x y c,X.env.cells.lookup x=some c->X.env.cells.lookup y=some c->x=y
  has:∀ x,(X.env.kindOf x=some .cell\/X.env.kindOf x=some .free)->∃ c,X.env.cells.lookup x=some c
  cab:∀ x c,X.fn x=true->X.env.cells.lookup x=some c->X.s₀.heap.objs.size<=c
  hd:X.calm=true->X.A.handled=none
  frames:X.A.frames=some X.stack
  stk:X.stack=X.outer\/(X.stack=X.env::X.outer/\X.env.frame=some X.env.locals)
  exf:∀ b∈X.ex,b≠X.env.locals/\∀ x c,X.env.cells.lookup x=some c->c≠b
  bs:∀ b o,X.base.get? b=some o->X.s₀.heap.get? b=some o/\X.H₀ b=none
  bsz:X.base.objs.size<=X.s₀.heap.objs.size
  noex:∀ b o,X.base.get? b=some o->b∉X.ex
  exfs:∀ b∈X.ex,b∉X.fs
  funs:X.s₀.heap.FunFrames X.base X.outer
  frf:∀ b∈X.fs,X.H₀ b=none
structure Inv (X:Cx) (pins:List (Addr × Obj)) (σ:List (Option V)) (H:Hp) (s:Shared):Prop where
  ok:X.Ok
  os:s.os=X.s₀.os
  bare:AllBare s.gens
  base:Un X.fs X.ex X.H₀ H X.s₀.heap s.heap
  loc:∃ m,s.heap.Ns X.env.locals m/\∀ (i:Nat) (x:Str) (v:V),X.N[i]?=some x->σ[i]?=some (some v)->Vis X.env.scope x->∃ u,RelV v u/\bL X.env s.heap m x u
  cell:∀ x c,X.env.cells.lookup x=some c->∃ v,s.heap.IsCell c v
  free:H X.env.locals=none
  freeC:∀ x c,X.env.cells.lookup x=some c->H c=none
  pin:∀ p∈X.pn++pins,s.heap.get? p.1=some p.2/\H p.1=none/\p.1≠X.env.locals/\p.1∉X.fs/\∀ v,p.2.data≠ .cell v
  hok:HOk X.prog X.w H s.heap
  len:σ.length=X.N.length
section
variable {X:Cx} {pins:List (Addr × Obj)} {σ:List (Option V)} {H H':Hp} {s:Shared} {h':Heap}
theorem Cx.Ok.nofr (ok:X.Ok) {b:Addr} {o:Obj} (e:X.base.get? b=some o):b∉X.fs:=λ hb=>by
  have:=(ok.funs.mem hb).1;rw [e] at this;cases this
theorem Inv.bs (I:Inv X pins σ H s):∀ b o,X.base.get? b=some o->s.heap.get? b=some o/\H b=none:=λ b o e=>
  ⟨I.base.keep b o (I.ok.bs b o e).1 (I.ok.bs b o e).2 (I.ok.nofr e) (I.ok.noex b o e),I.base.free b o (I.ok.bs b o e).1 (I.ok.bs b o e).2 (I.ok.noex b o e)⟩
theorem Inv.bk (I:Inv X pins σ H s):∀ b o,X.base.get? b=some o->s.heap.get? b=some o:=λ b o e=>(I.bs b o e).1
theorem Inv.mod (I:Inv X pins σ H s):Mod X.K X.mg X.base:=I.ok.mod
theorem Inv.kIn (I:Inv X pins σ H s):X.K.In s.heap:=I.ok.mod.kin.keeps I.bk
theorem Inv.fr (I:Inv X pins σ H s):∃ m,Fr X.base X.env.locals s.heap m:=
  let ⟨m,hn,_⟩:=I.loc
  ⟨m,hn,I.bk,Ab8 I.ok.bsz I.ok.above⟩
theorem Inv.lt (I:Inv X pins σ H s):X.env.locals<s.heap.objs.size:=let ⟨_,hn,_⟩:=I.loc;hn.lt
theorem Inv.sz (I:Inv X pins σ H s):X.s₀.heap.objs.size<=s.heap.objs.size:=Ab8 I.ok.above (Nat.le_of_lt I.lt)
theorem Inv.nofs (I:Inv X pins σ H s) {a:Addr} (h:s.heap.objs.size<=a):a∉X.fs:=λ hb=>by
  obtain ⟨_,o,ho,_⟩:=I.ok.funs.mem hb;exact absurd (Ab4 (Aa6 ho) (Ab8 I.sz h)) (Nat.lt_irrefl _)
theorem Inv.cne (I:Inv X pins σ H s):∀ x c,X.env.cells.lookup x=some c->c≠X.env.locals:=λ x c e z=>by
  obtain ⟨v,o,ho,hd⟩:=I.cell x c e;obtain ⟨m,⟨o',es,ep,ho',hd',_⟩,_⟩:=I.loc;rw [z,ho'] at ho;cases ho;rw [hd'] at hd;cases hd
theorem Inv.funs (I:Inv X pins σ H s):s.heap.FunFrames X.base X.outer:=by
  have all:∀ (l:List Env),(∀ b∈frs l,b∈X.fs)->X.s₀.heap.FunFrames X.base l->s.heap.FunFrames X.base l:=by
    intro l
    induction l with
    | nil=>intro _ _;trivial
    | cons env r ih=>
      intro hs hl;obtain ⟨hk,⟨L,o,hf,hn,ho,hd⟩,hr⟩:=hl;have hL:L∈X.fs:=hs L (by unfold frs;rw [List.filterMap_cons,hf];exact Ad7);obtain ⟨sl,e⟩:=I.base.slot L o ho (I.ok.frf L hL) hL λ z=>I.ok.exfs L z hL;exact ⟨hk,⟨L,_,hf,hn,e,hd⟩,ih (λ b hb=>hs b (by unfold frs;rw [List.filterMap_cons,hf];exact Ad3 _ hb)) hr⟩
  exact all X.outer (λ _ hb=>hb) I.ok.funs
theorem Inv.stack (I:Inv X pins σ H s):s.heap.FunFrames X.base X.stack:=by
  rcases I.ok.stk with e | ⟨e,hf⟩
  · rw [e];exact I.funs
  · rw [e];obtain ⟨m,hn,_⟩:=I.loc;refine .cons (by rw [I.ok.kind];decide) hf hn ?_ I.funs;exact Heap.get?_none_of_le (Ab8 I.ok.bsz I.ok.above)
theorem Inv.stkSub (I:Inv X pins σ H s):∀ b∈frs X.stack,b∈X.env.locals::X.fs:=λ b hb=>by
  rcases I.ok.stk with e | ⟨e,hf⟩
  · rw [e] at hb;exact Ad3 _ hb
  · rw [e] at hb;unfold frs at hb;rw [List.filterMap_cons,hf] at hb;exact hb
theorem Inv.stkFree (I:Inv X pins σ H s):∀ b∈frs X.stack,H b=none:=λ b hb=>by
  rcases Ab5.mp (I.stkSub b hb) with e | hb
  · rw [e];exact I.free
  · obtain ⟨_,o,ho,_⟩:=I.ok.funs.mem hb;exact I.base.free b o ho (I.ok.frf b hb) λ z=>I.ok.exfs b z hb
theorem Inv.step {g':Array GenState} {t':Nat} {d':Drawn} {ch:List Addr} (I:Inv X pins σ H s)
    (hch:∀ b∈ch,(b∈X.ex\/X.s₀.heap.objs.size<=b)/\b≠X.env.locals/\(∀ x c,X.env.cells.lookup x=some c->c≠b)/\∀ p∈X.pn++pins,p.1≠b)
    (keep:∀ b o,b≠X.env.locals->b∉X.fs->b∉ch->s.heap.get? b=some o->H b=none->h'.get? b=some o)
    (slot:∀ b o,b≠X.env.locals->b∈X.fs->b∉ch->s.heap.get? b=some o->H b=none->∃ sl,h'.get? b=some { o with slots:=sl }) (free:∀ b o,b∉ch->s.heap.get? b=some o->H b=none->H' b=none)
    (there:∀ b o,b∉ch->s.heap.get? b=some o->∃ o',h'.get? b=some o')
    (tups:∀ b xs,H b=some (.tup xs)->H' b=some (.tup xs)) (frzs:∀ b o u,H b=some (.frz o u)->H' b=some (.frz o u)) (tbls:∀ b ps,H b=some (.tbl ps)->∃ more,H' b=some (.tbl (ps++more)))
    (ns:∀ m,s.heap.Ns X.env.locals m->h'.Ns X.env.locals m) (hok:HOk X.prog X.w H' h') (hg:AllBare g'):
    Inv X pins σ H' { s with heap:=h',gens:=g',drawn:=d',toks:=t' }:=by
  have neL:∀ b o,X.s₀.heap.get? b=some o->b≠X.env.locals:=λ b o e=>Ac2 (Ab4 (Aa6 e) I.ok.above);have neC:∀ b o,X.s₀.heap.get? b=some o->b∉X.ex->b∉ch:=λ b o e hx hb=>by
    rcases (hch b hb).1 with z | z
    · exact hx z
    · exact absurd (Ab4 (Aa6 e) z) (Nat.lt_irrefl _)
  have cellK:∀ x c,X.env.cells.lookup x=some c->∀ v,s.heap.IsCell c v->h'.IsCell c v:=λ x c e v ⟨o,ho,hd⟩=>by
    have nch:c∉ch:=λ z=>(hch c z).2.2.1 x c e rfl;by_cases hc:c∈X.fs
    · obtain ⟨sl,q⟩:=slot c o (I.cne x c e) hc nch ho (I.freeC x c e);exact ⟨_,q,hd⟩
    · exact ⟨o,keep c o (I.cne x c e) hc nch ho (I.freeC x c e),hd⟩
  refine ⟨I.ok,I.os,hg,⟨λ b o e n hb hx=> ?_,λ b o e n hb hx=> ?_,λ b o e n hx=> ?_,λ b o e hx=> ?_,λ b xs e=>tups b xs (I.base.tups b xs e),λ b o xs e=>frzs b o xs (I.base.frzs b o xs e),λ b ps e=> ?_⟩,?_,λ x c e=> ?_,?_,λ x c e=> ?_,λ p hp=> ?_,hok,I.len⟩
  · exact keep b o (neL b o e) hb (neC b o e hx) (I.base.keep b o e n hb hx) (I.base.free b o e n hx)
  · obtain ⟨sl,e1⟩:=I.base.slot b o e n hb hx;obtain ⟨sl',e2⟩:=slot b _ (neL b o e) hb (neC b o e hx) e1 (I.base.free b o e n hx);exact ⟨sl',e2⟩
  · obtain ⟨o',e1⟩:=I.base.there b o e hx;exact free b o' (neC b o e hx) e1 (I.base.free b o e n hx)
  · obtain ⟨o',e1⟩:=I.base.there b o e hx;exact there b o' (neC b o e hx) e1
  · obtain ⟨m1,e1⟩:=I.base.tbls b ps e;obtain ⟨m2,e2⟩:=tbls b _ e1;exact ⟨m1++m2,by rw [e2,Array.append_assoc]⟩
  · obtain ⟨m,hn,hl⟩:=I.loc;refine ⟨m,ns m hn,λ i x v e1 e2 e3=> ?_⟩;obtain ⟨u,r,l⟩:=hl i x v e1 e2 e3;refine ⟨u,r,?_⟩;rcases l with l | ⟨k,c,e,z⟩
    · exact .inl l
    · exact .inr ⟨k,c,e,cellK x c e _ z⟩
  · obtain ⟨v,z⟩:=I.cell x c e;exact ⟨v,cellK x c e v z⟩
  · obtain ⟨m,⟨o,_,_,ho,_⟩,_⟩:=I.loc;exact free _ o (λ z=>(hch _ z).2.1 rfl) ho I.free
  · obtain ⟨v,o,ho,hd⟩:=I.cell x c e;exact free c o (λ z=>(hch c z).2.2.1 x c e rfl) ho (I.freeC x c e)
  · obtain ⟨e,n,ne,nf,d⟩:=I.pin p hp;have nch:p.1∉ch:=λ z=>(hch p.1 z).2.2.2 p hp rfl;exact ⟨keep p.1 p.2 ne nf nch e n,free p.1 p.2 nch e n,ne,nf,d⟩
theorem Inv.un {t':Nat} (I:Inv X pins σ H s) (u:Un X.fs [] H H' s.heap h') (hok:HOk X.prog X.w H' h'):Inv X pins σ H' { s with heap:=h',toks:=t' }:=by
  obtain ⟨m,⟨o,es,ep,ho,r⟩,_⟩:=id I.loc;obtain ⟨sl,hL⟩:=u.any ho I.free (by simp);exact I.step (g':=s.gens) (d':=s.drawn) (ch:=[]) (λ _ z=>nomatch z) (λ b o _ hb _ e n=>u.keep b o e n hb (by simp)) (λ b o _ hb _ e n=>u.slot b o e n hb (by simp)) (λ b o _ e n=>u.free b o e n (by simp)) (λ b o _ e=>u.there b o e (by simp)) u.tups u.frzs u.tbls (λ m' hm=>by
    obtain ⟨o',es',ep',ho',r'⟩:=hm;rw [ho] at ho';cases ho';exact ⟨_,es',ep',hL,r'⟩) hok I.bare
theorem Inv.call {g':Array GenState} {t':Nat} {d':Drawn} {ch:List Addr} (I:Inv X pins σ H s) (u:Un (frs X.stack) ch H H' s.heap h') (hok:HOk X.prog X.w H' h') (hg:AllBare g')
    (hch:∀ b∈ch,(b∈X.ex\/X.s₀.heap.objs.size<=b)/\b≠X.env.locals/\(∀ x c,X.env.cells.lookup x=some c->c≠b)/\∀ p∈X.pn++pins,p.1≠b):
    Inv X pins σ H' { s with heap:=h',gens:=g',drawn:=d',toks:=t' }:=by
  obtain ⟨m,⟨o,es,ep,ho,r⟩,_⟩:=id I.loc;obtain ⟨sl,hL⟩:=u.any ho I.free λ z=>(hch _ z).2.1 rfl;exact I.step (ch:=ch) hch (λ b o hL hb hc e n=>u.keep b o e n (λ z=>(Ab5.mp (I.stkSub b z)).elim hL hb) hc) (λ b o _ _ hc e n=>u.any e n hc) (λ b o hc e n=>u.free b o e n hc) (λ b o hc e=>u.there b o e hc) u.tups u.frzs u.tbls (λ m' hm=>by
    obtain ⟨o',es',ep',ho',r'⟩:=hm;rw [ho] at ho';cases ho';exact ⟨_,es',ep',hL,r'⟩) hok hg
theorem Inv.turned {t':Nat} {it:Addr} (I:Inv X pins σ H s) (k:∀ b o,b≠it->s.heap.get? b=some o->h'.get? b=some o) (hn:H it=none) (hL:it≠X.env.locals)
    (h1:it∈X.ex\/X.s₀.heap.objs.size<=it) (h2:∀ x c,X.env.cells.lookup x=some c->c≠it) (h3:∀ p∈X.pn++pins,p.1≠it):Inv X pins σ H { s with heap:=h',toks:=t' }:=by
  have nit:∀ b u,H b=some u->b≠it:=λ b u e z=>by rw [z,hn] at e;cases e
  refine I.step (g':=s.gens) (d':=s.drawn) (ch:=[it]) (λ b hb=> ?_) (λ b o _ _ hc e _=>k b o (λ z=>hc (by simp [z])) e) (λ b o _ _ hc e _=>⟨o.slots,k b o (λ z=>hc (by simp [z])) e⟩) (λ _ _ _ _ n=>n)
    (λ b o hc e=>⟨o,k b o (λ z=>hc (by simp [z])) e⟩) (λ _ _ e=>e) (λ _ _ _ e=>e) (λ b ps e=>⟨#[],by rw [e];simp⟩) (λ m hm=> ?_) (λ b u e=> ?_) I.bare
  · have e:b=it:=by simpa using hb
    subst e;exact ⟨h1,hL,h2,h3⟩
  · obtain ⟨o,es,ep,ho,r⟩:=hm;exact ⟨o,es,ep,k _ o (Ne.symm hL) ho,r⟩
  · refine (I.hok b u e).stay (λ c v hc q=>k c v ?_ q) (λ _ q=>q) λ _ _ q=>q;rcases hc with z | z
    · rw [z];exact nit b u e
    · exact nit c _ z
theorem Inv.tok (I:Inv X pins σ H s) (t:Nat):Inv X pins σ H { s with toks:=t }:=I.un (h':=s.heap) (t':=t) Un.refl I.hok
theorem Inv.kept {t':Nat} (I:Inv X pins σ H s) (k:∀ b u,s.heap.get? b=some u->h'.get? b=some u):Inv X pins σ H { s with heap:=h',toks:=t' }:=I.un (Un.kept k) (I.hok.kept k)
theorem Inv.laid {a:Addr} {o:HO} {t':Nat} (I:Inv X pins σ H s) (k:∀ b u,s.heap.get? b=some u->h'.get? b=some u) (hp:s.heap.objs.size<=a) (new:ObjOk X.prog X.w (upd H a o) h' a o):
    Inv X pins σ (upd H a o) { s with heap:=h',toks:=t' }:=I.un (Un.laid k hp (I.hok.fresh hp)) (I.hok.laid k hp new)
theorem Inv.write {x e:Addr} {o:HO} {t':Nat} (I:Inv X pins σ H s) (mu:Mut (H x)) (he:e=x\/H e=some (.own x)) (k:∀ b u,b≠e->s.heap.get? b=some u->h'.get? b=some u) (heo:∃ u,h'.get? e=some u)
    (new:ObjOk X.prog X.w (upd H x o) h' x o):Inv X pins σ (upd H x o) { s with heap:=h',toks:=t' }:=I.un (Un.write mu he k heo) (I.hok.write mu he k heo new)
theorem Inv.weak {σ':List (Option V)} (I:Inv X pins σ H s) (hl:σ'.length=σ.length) (w:∀ (i:Nat) v,σ'[i]?=some (some v)->σ[i]?=some (some v)):Inv X pins σ' H s:=
  ⟨I.ok,I.os,I.bare,I.base,let ⟨m,hn,hl'⟩:=I.loc;⟨m,hn,λ i x v e1 e2 e3=>hl' i x v e1 (w i v e2) e3⟩,I.cell,I.free,I.freeC,I.pin,I.hok,hl.trans I.len⟩
theorem Inv.pins_of {pins':List (Addr × Obj)} (I:Inv X pins σ H s) (h:∀ p∈pins',s.heap.get? p.1=some p.2/\H p.1=none/\p.1≠X.env.locals/\p.1∉X.fs/\∀ v,p.2.data≠ .cell v):Inv X pins' σ H s:=
  ⟨I.ok,I.os,I.bare,I.base,I.loc,I.cell,I.free,I.freeC,λ p hp=>(List.mem_append.mp hp).elim (λ z=>I.pin p (List.mem_append_left _ z)) (h p),I.hok,I.len⟩
theorem Il {N:List Str} (hN:N.Nodup) {i j:Nat} {x:Str} (a:N[i]?=some x) (b:N[j]?=some x):i=j:=by
  obtain ⟨h1,e1⟩:=Ac3.mp a;obtain ⟨h2,e2⟩:=Ac3.mp b;exact (List.getElem_inj hN).mp (e1.trans e2.symm)
theorem N3 {M:Model} {A:Around} {E:Value->Shared->Prop} {i:Nat} {x:Str} {v:V} {u:Value} {Q:Unit->Shared->Prop} (I:Inv X pins σ H s) (hN:X.N.Nodup) (hi:X.N[i]?=some x) (hx:Loc X.env.scope x) (r:RelV v u)
    (h:∀ s',Inv X pins (σ.set i (some v)) H s'->(∃ a,Heap.SameBut a s.heap s'.heap/\(a=X.env.locals\/X.env.cells.lookup x=some a))->Q () s') (hf:X.fn x=true\/X.env.scope.names.lookup x=some .local:=by first | exact .inl rfl | exact .inr rfl | assumption):wpAny M A (storeName X.env x u) Q E s:=by
  obtain ⟨m,hn,hl⟩:=id I.loc;have hcls:(X.env.scope.kind == .class||(X.env.scope.kind == .module&&X.env.locals != X.env.globals))=false:=by rw [I.ok.kind];rfl
  have hiσ:i<σ.length:=by rw [I.len];exact (Ac3.mp hi).1
  have cne:=I.cne;have tracked:∀ {a:Addr} {h':Heap},(∃ o,s.heap.get? a=some o/\H a=none)->Heap.SameBut a s.heap h'->HOk X.prog X.w H h':=λ {a h'} ha hs b ob e=>by
    obtain ⟨_,_,hfree⟩:=ha;refine (I.hok b ob e).stay (λ c w' hc q=>(hs.2 c ?_).trans q) (λ _ q=>q) λ _ _ q=>q;rintro rfl;rcases hc with rfl | hc
    · rw [hfree] at e;cases e
    · rw [hfree] at hc;cases hc
  rcases hx with hk | hk
  · refine wpAny_storeName_local hk hn (λ h' hn' hs=> ?_) hcls;obtain ⟨oL,_,_,hoL,_⟩:=id hn;refine h _ ⟨I.ok,I.os,I.bare,⟨λ b o e n hb hx=> ?_,λ b o e n hb hx=> ?_,I.base.free,λ b o e hx=> ?_,I.base.tups,I.base.frzs,I.base.tbls⟩,⟨_,hn',λ j y v' e1 e2 e3=> ?_⟩,λ y c e=> ?_,I.free,I.freeC,λ p hp=> ?_,tracked ⟨oL,hoL,I.free⟩ hs,by simpa using I.len⟩ ⟨_,hs, .inl rfl⟩
    · exact (hs.2 b (Ac2 (Ab4 (Aa6 e) I.ok.above))).trans (I.base.keep b o e n hb hx)
    · obtain ⟨sl,e1⟩:=I.base.slot b o e n hb hx;exact ⟨sl,(hs.2 b (Ac2 (Ab4 (Aa6 e) I.ok.above))).trans e1⟩
    · obtain ⟨o',e1⟩:=I.base.there b o e hx;exact ⟨o',(hs.2 b (Ac2 (Ab4 (Aa6 e) I.ok.above))).trans e1⟩
    · by_cases hj:j=i
      · subst hj;rw [hi] at e1;cases e1;rw [List.getElem?_set_self hiσ] at e2;cases e2;exact ⟨u,r, .inl ⟨hk,by simp⟩⟩
      · rw [List.getElem?_set_ne (Ne.symm hj)] at e2;obtain ⟨u',r',q⟩:=hl j y v' e1 e2 e3;refine ⟨u',r',?_⟩;rcases q with ⟨k,e⟩ | ⟨k,c,e,z⟩
        · refine .inl ⟨k,?_⟩;have:y≠x:=λ e=>hj (Il hN e1 (e▸hi));simp [this,e]
        · exact .inr ⟨k,c,e,z.sameBut hs (cne y c e)⟩
    · obtain ⟨w',z⟩:=I.cell y c e;exact ⟨w',z.sameBut hs (cne y c e)⟩
    · obtain ⟨e,n,ne,nf,d⟩:=I.pin p hp;exact ⟨(hs.2 p.1 ne).trans e,n,ne,nf,d⟩
  · have hfn:X.fn x=true:=by
      rcases hf with z | z
      · exact z
      · rw [z] at hk;cases hk
    obtain ⟨c,hc⟩:=I.ok.has x (.inl hk);obtain ⟨w',z⟩:=I.cell x c hc;refine wpAny_storeName_cell I.ok.kind hk hc z (λ h' hc' hs=> ?_);obtain ⟨oc,hoc,hocd⟩:=id z;refine h { s with heap:=h' } ⟨I.ok,I.os,I.bare,⟨λ b o e n hb hx=> ?_,λ b o e n hb hx=> ?_,I.base.free,λ b o e hx=> ?_,I.base.tups,I.base.frzs,I.base.tbls⟩,⟨m,hn.sameBut hs (Ne.symm (cne x c hc)),λ j y v' e1 e2 e3=> ?_⟩,λ y c' e=> ?_,I.free,I.freeC,λ p hp=> ?_,tracked ⟨oc,hoc,I.freeC x c hc⟩ hs,by simpa using I.len⟩ ⟨c,hs, .inr hc⟩
    · exact (hs.2 b (Ac2 (Ab4 (Aa6 e) (I.ok.cab x c hfn hc)))).trans (I.base.keep b o e n hb hx)
    · obtain ⟨sl,e1⟩:=I.base.slot b o e n hb hx;exact ⟨sl,(hs.2 b (Ac2 (Ab4 (Aa6 e) (I.ok.cab x c hfn hc)))).trans e1⟩
    · obtain ⟨o',e1⟩:=I.base.there b o e hx;exact ⟨o',(hs.2 b (Ac2 (Ab4 (Aa6 e) (I.ok.cab x c hfn hc)))).trans e1⟩
    · by_cases hj:j=i
      · subst hj;rw [hi] at e1;cases e1;rw [List.getElem?_set_self hiσ] at e2;cases e2;exact ⟨u,r, .inr ⟨.inl hk,c,hc,hc'⟩⟩
      · rw [List.getElem?_set_ne (Ne.symm hj)] at e2;obtain ⟨u',r',q⟩:=hl j y v' e1 e2 e3;refine ⟨u',r',?_⟩;rcases q with q | ⟨k,c',e,z'⟩
        · exact .inl q
        · refine .inr ⟨k,c',e,z'.sameBut hs ?_⟩;rintro rfl;exact hj (Il hN e1 (I.ok.inj _ _ _ e hc▸hi))
    · by_cases hcc:c'=c
      · subst hcc;exact ⟨_,hc'⟩
      · obtain ⟨w2,z2⟩:=I.cell y c' e;exact ⟨w2,z2.sameBut hs hcc⟩
    · obtain ⟨e,n,ne,nf,d⟩:=I.pin p hp;refine ⟨(hs.2 p.1 ?_).trans e,n,ne,nf,d⟩;intro q;rw [q,hoc] at e;have q':oc=p.2:=Ad8.inj e;exact d w' (by rw [<-q'];exact hocd)
theorem Ea {M:Model} {A:Around} {E:Value->Shared->Prop} {i:Nat} {x:Str} {v:V} {u:Value} {Q:Unit->Shared->Prop} (I:Inv X pins σ H s) (hN:X.N.Nodup) (hi:X.N[i]?=some x) (hx:Loc X.env.scope x) (r:RelV v u)
    (h:∀ s',Inv X pins (σ.set i (some v)) H s'->Q () s') (hf:X.fn x=true\/X.env.scope.names.lookup x=some .local:=by first | exact .inl rfl | exact .inr rfl | assumption):wpAny M A (storeName X.env x u) Q E s:=
  N3 I hN hi hx r (λ s' I' _=>h s' I') hf
theorem Inv.call' {s':Shared} {ch:List Addr} (I:Inv X pins σ H s) (ho:s'.os=s.os) (u:Un (frs X.stack) ch H H' s.heap s'.heap) (hok:HOk X.prog X.w H' s'.heap) (hg:AllBare s'.gens)
    (hch:∀ b∈ch,(b∈X.ex\/X.s₀.heap.objs.size<=b)/\b≠X.env.locals/\(∀ x c,X.env.cells.lookup x=some c->c≠b)/\∀ p∈X.pn++pins,p.1≠b):Inv X pins σ H' s':=by
  obtain ⟨h',g',d',t',o'⟩:=s';have e:o'=s.os:=ho;subst e;exact I.call (g':=g') (t':=t') (d':=d') u hok hg hch
end
abbrev XK:=Value->Option Addr->Hp->Prop
abbrev St:=List (Option V)
abbrev VK:=V->Hp->Prop
abbrev TE:=St->Hp->VK->Prop
abbrev TT:=St->Hp->(Bool->Hp->Prop)->Prop
abbrev TA:=St->Hp->(List V->Hp->Prop)->Prop
structure Ends where
  nx:St->Hp->Prop
  rt:VK
  bk:St->Hp->Prop:=λ _ _=>False
  ct:St->Hp->Prop:=λ _ _=>False
abbrev TS:=Ends->St->Hp->Prop
def EP (X:Cx) (pins:List (Addr × Obj)) (σ:St) (Q:VK) (u:Value) (s':Shared):Prop:=∃ v H',Inv X pins σ H' s'/\RelV v u/\Q v H'
def TP (X:Cx) (pins:List (Addr × Obj)) (σ:St) (Q:Bool->Hp->Prop) (b:Bool) (s':Shared):Prop:=∃ H',Inv X pins σ H' s'/\Q b H'
def AP (X:Cx) (pins:List (Addr × Obj)) (σ:St) (Q:List V->Hp->Prop) (us:List Value) (s':Shared):Prop:=∃ vs H',Inv X pins σ H' s'/\Vals vs us/\Q vs H'
def SP (X:Cx) (pins:List (Addr × Obj)) (D:Ends) (f:Flow) (s':Shared):Prop:=
  match f with
  | .next=>∃ σ' H',Inv X pins σ' H' s'/\D.nx σ' H'
  | .brk=>∃ σ' H',Inv X pins σ' H' s'/\D.bk σ' H'
  | .cont=>∃ σ' H',Inv X pins σ' H' s'/\D.ct σ' H'
  | .ret u=>∃ v σ' H',Inv X pins σ' H' s'/\RelV v u/\D.rt v H'
def PE (X:Cx) (e:Expr) (t:TE):Prop:=
  ∀ (pins:List (Addr × Obj)) (s:Shared) (σ:St) (H:Hp) (Q:VK),Inv X pins σ H s->t σ H Q->wpAny (model X.prog X.w) X.A (eval e X.env) (EP X pins σ Q) X.xe s
def PT (X:Cx) (e:Expr) (t:TT):Prop:=
  ∀ (pins:List (Addr × Obj)) (s:Shared) (σ:St) (H:Hp) (Q:Bool->Hp->Prop),Inv X pins σ H s->t σ H Q->wpAny (model X.prog X.w) X.A (isTrue e X.env (eval e X.env)) (TP X pins σ Q) X.xe s
def PW (X:Cx) (e:Expr) (t:TT):Prop:=
  ∀ (whole:Sem Value) (pins:List (Addr × Obj)) (s:Shared) (σ:St) (H:Hp) (Q:Bool->Hp->Prop),Inv X pins σ H s->t σ H Q->wpAny (model X.prog X.w) X.A (isTrue e X.env whole) (TP X pins σ Q) X.xe s
theorem PW.pt {X:Cx} {e:Expr} {t:TT} (h:PW X e t):PT X e t:=h _
def PA (X:Cx) (es:List Expr) (t:TA):Prop:=
  ∀ (pos:Pos) (pins:List (Addr × Obj)) (s:Shared) (σ:St) (H:Hp) (Q:List V->Hp->Prop),Inv X pins σ H s->t σ H Q->wpAny (model X.prog X.w) X.A (spliced (backTo pos (starEach es X.env))) (AP X pins σ Q) X.xe s
def PS (X:Cx) (st:Stmt) (t:TS):Prop:=
  ∀ (pins:List (Addr × Obj)) (s:Shared) (σ:St) (H:Hp) (D:Ends),Inv X pins σ H s->t D σ H->wpAny (model X.prog X.w) X.A (exec st X.env) (SP X pins D) X.xe s
def PSs (X:Cx) (st:List Stmt) (t:TS):Prop:=
  ∀ (pins:List (Addr × Obj)) (s:Shared) (σ:St) (H:Hp) (D:Ends),Inv X pins σ H s->t D σ H->wpAny (model X.prog X.w) X.A (execs st X.env) (SP X pins D) X.xe s
theorem thn {α:Type} {t:Sem α} {Q Q':α->Shared->Prop} {M:Model} {A:Around} {E:Value->Shared->Prop} {s:Shared} (h:wpAny M A t Q E s) (hQ:∀ a s,Q a s->Q' a s):wpAny M A t Q' E s:=Ad5 h hQ λ _ _ x=>x
section
variable {X:Cx}
theorem bin {a b:Expr} {ta tb:TE} (ha:PE X a ta) (hb:PE X b tb) {pins:List (Addr × Obj)} {s:Shared} {σ:St} {H:Hp} {R:V->V->Hp->Prop} (I:Inv X pins σ H s) (h:ta σ H λ x H1=>tb σ H1 λ y H2=>R x y H2)
    {α:Type} {Q:α->Shared->Prop} {f:Value->Value->Sem α}
    (hf:∀ v u s2 x y H2,Inv X pins σ H2 s2->RelV x v->RelV y u->R x y H2->wpAny (model X.prog X.w) X.A (f v u) Q X.xe s2):
    wpAny (model X.prog X.w) X.A (eval a X.env) (λ v s₁=>wpAny (model X.prog X.w) X.A (eval b X.env) (λ u s₂=>wpAny (model X.prog X.w) X.A (f v u) Q X.xe s₂) X.xe s₁) X.xe s:=by
  refine thn (ha pins s σ H _ I h) λ v s1 ⟨x,H1,I1,r1,q1⟩=> ?_;refine thn (hb pins s1 σ H1 _ I1 q1) λ u s2 ⟨y,H2,I2,r2,q2⟩=> ?_;exact hf v u s2 x y H2 I2 r1 r2 q2
def SU (i:Nat):TE:=λ σ H Q=>∃ v,σ[i]?=some (some v)/\Q v H
def tC (v:V):TE:=λ _ H Q=>Q v H
theorem S9 {i:Nat} {x:Str} {pos:Pos} (hN:X.N[i]?=some x) (hv:Vis X.env.scope x) (hd:(x == ("__debug__":Str))=false:=by decide) (hcd:(x == ("__classdict__":Str))=false:=by decide):PE X (.Name x pos) (SU i):=by
  intro pins s σ H Q I h;obtain ⟨v,e,h⟩:=h;obtain ⟨m,hn,hl⟩:=I.loc;obtain ⟨u,r,l⟩:=hl i x v hN e hv;have fin:EP X pins σ Q u s:=⟨v,H,I,r,h⟩;rcases l with ⟨hk,hm⟩ | ⟨hk,c,hc,hcell⟩
  · exact wpAny_Name (wpAny_loadName_local I.ok.kind hk hn hm fin) hd
  · rcases hk with hk | hk
    · exact wpAny_Name (wpAny_loadName_cell I.ok.kind hk hc hcell fin) hd
    · exact wpAny_Name (wpAny_loadName_free I.ok.kind hk hc hcell fin hcd) hd
theorem Ac {i j pos}:PE X (.Constant (.int i) j pos) (tC (.int i)):=λ _ _ _ H _ I h=>wpAny_Constant_int ⟨.int i,H,I.tok _,⟨_,rfl⟩,h⟩
theorem EN {b j pos}:PE X (.Constant (.bool b) j pos) (tC (.bl b)):=λ _ _ _ H _ I h=>Constant_bool ⟨.bl b,H,I,rfl,h⟩
theorem Cr {j pos}:PE X (.Constant .none j pos) (tC .non):=λ _ _ _ H _ I h=>Constant_none ⟨.non,H,I,rfl,h⟩
theorem Al {x j pos}:PE X (.Constant (.str x) j pos) (tC (.str x)):=λ _ _ _ H _ I h=>Calls.Constant_str ⟨.str x,H,I.tok _,⟨_,rfl⟩,h⟩
def Gl (X:Cx) (x:Str):Prop:=X.env.kindOf x=some .globalImplicit
theorem HY {E:Value->Shared->Prop} {pins:List (Addr × Obj)} {s:Shared} {σ:St} {H:Hp} {x:Str} {u:Value} {pos:Pos} {Q:Value->Shared->Prop} (I:Inv X pins σ H s) (hg:Gl X x) (hm:X.mg x=some u) (h:Q u s)
    (hd:(x == ("__debug__":Str))=false:=by decide):wpAny (model X.prog X.w) X.A (eval (.Name x pos) X.env) Q E s:=
  Calls.Name_function_global I.ok.kind hg (Calls.loadGlobal_global (by rw [I.ok.glob];exact I.mod.glob.keeps I.bk) hm h) hd
theorem Ck {E:Value->Shared->Prop} {pins:List (Addr × Obj)} {s:Shared} {σ:St} {H:Hp} {x:Str} {u:Value} {pos:Pos} {Q:Value->Shared->Prop} (I:Inv X pins σ H s) (hg:Gl X x) (hm:X.mg x=none) (hv:bootBuiltins x=some u) (h:Q u s)
    (hn:x≠"__name__":=by decide) (hd:(x == ("__debug__":Str))=false:=by decide):wpAny (model X.prog X.w) X.A (eval (.Name x pos) X.env) Q E s:=by
  obtain ⟨mb,h1,h2⟩:=I.mod.blt;exact Calls.Name_function_global I.ok.kind hg (Calls.loadGlobal_builtin (by rw [I.ok.glob];exact I.mod.glob.keeps I.bk) hm (by rw [I.ok.blt];exact h1.keeps I.bk) ((h2 x hn).trans hv) h) hd
theorem K1 {x:Str} {v:V} {u:Value} {pos:Pos} (hg:Gl X x) (hm:X.mg x=some u) (r:RelV v u) (hd:(x == ("__debug__":Str))=false:=by decide):PE X (.Name x pos) (tC v):=
  λ _ _ _ H _ I h=>HY I hg hm ⟨v,H,I,r,h⟩ hd
theorem QZ {x:Str} {v:V} {u:Value} {pos:Pos} (hg:Gl X x) (hm:X.mg x=none) (hv:bootBuiltins x=some u) (r:RelV v u) (hn:x≠"__name__":=by decide) (hd:(x == ("__debug__":Str))=false:=by decide):PE X (.Name x pos) (tC v):=
  λ _ _ _ H _ I h=>Ck I hg hm hv ⟨v,H,I,r,h⟩ hn hd
variable {a b:Expr} {ta tb:TE} {pos:Pos}
def PC (X:Cx) (op:CmpOp) (a b:Expr) (t:TE):Prop:=
  ∀ (pins:List (Addr × Obj)) (s:Shared) (σ:St) (H:Hp) (Q:VK),Inv X pins σ H s->t σ H Q->
    wpAny (model X.prog X.w) X.A (eval a X.env) (λ v s₁=>wpAny (model X.prog X.w) X.A (eval b X.env) (λ u s₂=>wpAny (model X.prog X.w) X.A (compareOp op v u) (EP X pins σ Q) X.xe s₂) X.xe s₁) X.xe s
theorem P4 (b:Expr) {op:CmpOp} (h:op≠ .In) (h2:op≠ .NotIn):behindInMarks op b=false:=by
  have e1:(op == CmpOp.In)=false:=by cases op <;> first | rfl | exact absurd rfl h
  have e2:(op == CmpOp.NotIn)=false:=by cases op <;> first | rfl | exact absurd rfl h2
  cases b <;> simp [behindInMarks,e1,e2]
def tB (t:TE):TT:=λ σ H Q=>t σ H λ x H1=>∃ c,x= .bl c/\Q c H1
theorem cm {op:CmpOp} {t:TE} (h:PC X op a b t) (h1:behindInMarks op b=false:=by first | exact P4 _ (by decide) (by decide) | rfl):PT X (.Compare a [op] [b] pos) (tB t):=by
  intro pins s σ H Q I hw;refine wpAny_isTrue_Compare1 (thn (h pins s σ H _ I hw) λ v s1 h1=>thn h1 λ u s2 h2=>thn h2 λ c s3 ⟨x,H1,I1,r1,q1⟩=> ?_) h1;obtain ⟨d,rfl,q⟩:=q1;cases r1;exact Ae5 ⟨H1,I1,q⟩
theorem A6 {e:Expr} {t:TE} (h:PE X e t) (he:∀ whole,isTrue e X.env whole=(do let v <-whole;standAt e.pos;holding [v] (truthy v)):=by intro _;rfl):PT X e (tB t):=by
  intro pins s σ H Q I hw;refine isTrue_plain (thn (h pins s σ H _ I hw) λ v s1 ⟨x,H1,I1,r1,q1⟩=> ?_) (he _);obtain ⟨d,rfl,q⟩:=q1;cases r1;exact Ae5 ⟨H1,I1,q⟩
variable {tA tB':TT} {B9:List Expr}
def tOr (t u:TT):TT:=λ σ H Q=>t σ H λ c H1=>if c=true then Q true H1 else u σ H1 Q
def TU (t:TT):TT:=λ σ H Q=>t σ H λ c H1=>Q (!c) H1
theorem Je (ha:PT X a tA):PW X (.BoolOp .Or [a] pos) tA:=by
  intro wh pins s σ H Q I h;refine isTrue_or (thn (ha pins s σ H Q I h) λ c s1 e=> ?_);cases c with
  | false=>exact isTrue_or_nil e
  | true=>exact e
theorem Lu (ha:PT X a tA) (hb:PW X (.BoolOp .Or (b::B9) pos) tB'):PW X (.BoolOp .Or (a::b::B9) pos) (tOr tA tB'):=by
  intro wh pins s σ H Q I h;refine isTrue_or (thn (ha pins s σ H _ I h) λ c s1 ⟨H1,I1,q1⟩=> ?_);cases c with
  | true=>exact ⟨H1,I1,q1⟩
  | false=>exact hb wh pins s1 σ H1 Q I1 q1
theorem DJ (ha:PT X a tA):PT X (.UnaryOp .Not a pos) (TU tA):=by
  intro pins s σ H Q I h;exact isTrue_not (ha pins s σ H (λ c H1=>Q (!c) H1) I h)
def RT (ta tb:TE):TE:=λ σ H Q=>ta σ H λ x H1=>∃ c,x= .bl c/\if c=true then tb σ H1 Q else Q (.bl false) H1
def Uw (ta tb:TE):TE:=λ σ H Q=>ta σ H λ x H1=>∃ c,x= .bl c/\if c=true then Q (.bl true) H1 else tb σ H1 Q
def RL (ta:TE):TE:=λ σ H Q=>ta σ H λ x H1=>∃ c,x= .bl c/\Q (.bl (!c)) H1
theorem DI {op} {t:TE} (h:PE X a t):PE X (.BoolOp op [a] pos) t:=λ pins s σ H Q I hw=>BoolOp_one (h pins s σ H Q I hw)
theorem Dm (ha:PE X a ta) (hb:PE X (.BoolOp .And (b::B9) pos) tb):PE X (.BoolOp .And (a::b::B9) pos) (RT ta tb):=by
  intro pins s σ H Q I h;refine BoolOp_and (thn (ha pins s σ H _ I h) λ v s1 ⟨x,H1,I1,r1,q1⟩=> ?_);obtain ⟨c,rfl,q1⟩:=q1;cases r1;refine Ae5 ?_;cases c with
  | true=>exact hb pins s1 σ H1 Q I1 q1
  | false=>exact ⟨.bl false,H1,I1,rfl,q1⟩
theorem Y0 (ha:PE X a ta) (hb:PE X (.BoolOp .Or (b::B9) pos) tb):PE X (.BoolOp .Or (a::b::B9) pos) (Uw ta tb):=by
  intro pins s σ H Q I h;refine BoolOp_or (thn (ha pins s σ H _ I h) λ v s1 ⟨x,H1,I1,r1,q1⟩=> ?_);obtain ⟨c,rfl,q1⟩:=q1;cases r1;refine Ae5 ?_;cases c with
  | false=>exact hb pins s1 σ H1 Q I1 q1
  | true=>exact ⟨.bl true,H1,I1,rfl,q1⟩
theorem Mf (ha:PE X a ta):PE X (.UnaryOp .Not a pos) (RL ta):=by
  intro pins s σ H Q I h;refine UnaryOp_ (thn (ha pins s σ H _ I h) λ v s1 ⟨x,H1,I1,r1,q1⟩=> ?_);obtain ⟨c,rfl,q1⟩:=q1;cases r1;exact not_of (Ae5 ⟨.bl (!c),H1,I1,rfl,q1⟩)
def tIf (t:TT) (ta tb:TE):TE:=λ σ H Q=>t σ H λ c H1=>if c=true then ta σ H1 Q else tb σ H1 Q
theorem A1 {c:Expr} (hc:PT X c tA) (ha:PE X a ta) (hb:PE X b tb):PE X (.IfExp c a b pos) (tIf tA ta tb):=by
  intro pins s σ H Q I h;refine wpAny_IfExp (thn (hc pins s σ H _ I h) λ d s1 ⟨H1,I1,q1⟩=> ?_);cases d with
  | true=>exact ha pins s1 σ H1 Q I1 q1
  | false=>exact hb pins s1 σ H1 Q I1 q1
end
def SqL (K:PySem.W.Frag) (H:Hp) (a:Addr) (xs:List V):Prop:=
  Rd H a (.lst xs)\/
    ∃ (o:Obj) (its:Array Value) (n:Nat),K.lookup a=some o/\o.cls= .type "list"/\o.dict=none/\o.data= .seq its n/\its.size<=sizeLine/\Vals xs its.toList
def SqT (K:PySem.W.Frag) (H:Hp) (a:Addr) (xs:List V):Prop:=
  Rd H a (.tup xs)\/
    ∃ (o:Obj) (its:Array Value) (n:Nat),K.lookup a=some o/\o.cls= .type "tuple"/\o.data= .seq its n/\its.size<=sizeLine/\Vals xs its.toList
def cc:Value->Option V
  | .none=>some .non
  | .bool b=>some (.bl b)
  | .int i _=>some (.int i)
  | .str x _=>some (.str x)
  | .bytes b _=>some (.byt b)
  | .float b _=>some (.flt b)
  | .ref a=>some (.ref a)
  | .type n=>some (.ty n)
  | _=>none
theorem RelV.abs {x:V} {u:Value} (r:RelV x u):cc u=some x:=by
  cases x with
  | non=>cases r;rfl
  | bl _=>cases r;rfl
  | int _=>obtain ⟨t,rfl⟩:=r;rfl
  | str _=>obtain ⟨t,rfl⟩:=r;rfl
  | byt _=>obtain ⟨t,rfl⟩:=r;rfl
  | flt _=>obtain ⟨t,rfl⟩:=r;rfl
  | ref _=>cases r;rfl
  | ty _=>cases r;rfl
theorem RelV.inj {x y:V} {u:Value} (r:RelV x u) (q:RelV y u):x=y:=Ad8.inj (r.abs.symm.trans q.abs)
theorem Vals.inj:∀ {xs ys:List V} {us:List Value},Vals xs us->Vals ys us->xs=ys
  | _,_,_, .nil, .nil=>rfl
  | _,_,_, .cons r t, .cons r' t'=>by rw [r.inj r',Vals.inj t t']
section
variable {X:Cx} {pins:List (Addr × Obj)} {σ:St} {H:Hp} {s:Shared} {a:Addr} {xs ys:List V}
theorem SqL.of {K:PySem.W.Frag} (h:H a=some (.lst xs)):SqL K H a xs:= .inl (.inl h)
theorem SqT.of {K:PySem.W.Frag} (h:H a=some (.tup xs)):SqT K H a xs:= .inl (.inl h)
theorem Inv.list (I:Inv X pins σ H s) (h:SqL X.K H a xs):∃ its:List Value,Vals xs its/\PlainL s.heap a its.toArray/\xs.length<=sizeLine:=by
  rcases h with h | ⟨o,its,n,hk,hc,hd,hs,hz,r⟩
  · obtain ⟨z,its,n,r,e⟩:=h.ok I.hok;exact ⟨its,r,⟨_,n,e,rfl,rfl,rfl⟩,z⟩
  · refine ⟨its.toList,r,⟨o,n,I.kIn a o hk,hc,hd,by simpa using hs⟩,?_⟩;have e:=r.length;simp only [Array.length_toList] at e;omega
theorem Inv.tuple (I:Inv X pins σ H s) (h:SqT X.K H a xs):∃ its:List Value,Vals xs its/\IsTup s.heap a its.toArray/\xs.length<=sizeLine:=by
  rcases h with h | ⟨o,its,n,hk,hc,hs,hz,r⟩
  · obtain ⟨z,its,r,p⟩:=h.ok I.hok;exact ⟨its,r,p,z⟩
  · refine ⟨its.toList,r,⟨o,I.kIn a o hk,hc,n,by simpa using hs⟩,?_⟩;have e:=r.length;simp only [Array.length_toList] at e;omega
theorem Inv.list_inj (I:Inv X pins σ H s) (h:SqL X.K H a xs) (h':SqL X.K H a ys):xs=ys:=by
  obtain ⟨its,r,⟨o,n,e,_,_,d⟩,_⟩:=I.list h;obtain ⟨its',r',⟨o',n',e',_,_,d'⟩,_⟩:=I.list h';rw [e] at e';cases e';rw [d] at d';injection d' with d1 _;have:its=its':=by simpa using congrArg Array.toList d1
  subst this;exact r.inj r'
theorem Inv.tuple_inj (I:Inv X pins σ H s) (h:SqT X.K H a xs) (h':SqT X.K H a ys):xs=ys:=by
  obtain ⟨its,r,⟨o,e,_,n,d⟩,_⟩:=I.tuple h;obtain ⟨its',r',⟨o',e',_,n',d'⟩,_⟩:=I.tuple h';rw [e] at e';cases e';rw [d] at d';injection d' with d1 _;have:its=its':=by simpa using congrArg Array.toList d1
  subst this;exact r.inj r'
end
abbrev Cx.wish (X:Cx) (E:Value->Shared->Prop):Cx:={ X with xe:=E }
abbrev Cx.nox (X:Cx):Cx:=X.wish λ _ _=>False
theorem Cx.Ok.wish {X:Cx} (ok:X.Ok) (E:Value->Shared->Prop):(X.wish E).Ok:=
  ⟨ok.mod,ok.kind,ok.glob,ok.blt,ok.above,ok.inj,ok.has,ok.cab,ok.hd,ok.frames,ok.stk,ok.exf,ok.bs,ok.bsz,ok.noex,ok.exfs,ok.funs,ok.frf⟩
theorem Cx.Ok.unwish {X:Cx} {E:Value->Shared->Prop} (ok:(X.wish E).Ok):X.Ok:=
  ⟨ok.mod,ok.kind,ok.glob,ok.blt,ok.above,ok.inj,ok.has,ok.cab,ok.hd,ok.frames,ok.stk,ok.exf,ok.bs,ok.bsz,ok.noex,ok.exfs,ok.funs,ok.frf⟩
section
variable {X:Cx} {pins:List (Addr × Obj)} {σ:St} {H:Hp} {s:Shared} {E:Value->Shared->Prop}
theorem Inv.wish (I:Inv X pins σ H s) (E:Value->Shared->Prop):Inv (X.wish E) pins σ H s:=⟨I.ok.wish E,I.os,I.bare,I.base,I.loc,I.cell,I.free,I.freeC,I.pin,I.hok,I.len⟩
theorem Inv.unwish (I:Inv (X.wish E) pins σ H s):Inv X pins σ H s:=⟨I.ok.unwish,I.os,I.bare,I.base,I.loc,I.cell,I.free,I.freeC,I.pin,I.hok,I.len⟩
theorem SP.unwish {D:Ends} {f:Flow} {s':Shared} (h:SP (X.wish E) pins D f s'):SP X pins D f s':=by
  cases f with
  | next=>obtain ⟨σ',H',I,q⟩:=h;exact ⟨σ',H',I.unwish,q⟩
  | brk=>obtain ⟨σ',H',I,q⟩:=h;exact ⟨σ',H',I.unwish,q⟩
  | cont=>obtain ⟨σ',H',I,q⟩:=h;exact ⟨σ',H',I.unwish,q⟩
  | ret u=>obtain ⟨v,σ',H',I,r,q⟩:=h;exact ⟨v,σ',H',I.unwish,r,q⟩
theorem PSs.nox {st:List Stmt} {t:TS} (h:PSs X.nox st t):PSs X st t:=λ pins s σ H D I hw=>
  Ad5 (h pins s σ H D (I.wish _) hw) (λ _ _ q=>q.unwish) λ _ _ z=>False.elim z
end
section
variable {X:Cx} {st:Stmt} {B9:List Stmt} {t u:TS} {e:Expr} {te:TE} {pos:Pos}
def RW:TS:=λ D σ H=>D.nx σ H
def Wf (t u:TS):TS:=λ D σ H=>t { D with nx:=u D } σ H
theorem A9:PSs X [] RW:=λ _ _ σ H _ I h=>wpAny_execs_nil ⟨σ,H,I,h⟩
theorem Ad (h1:PS X st t) (h2:PSs X B9 u):PSs X (st::B9) (Wf t u):=by
  intro pins s σ H D I h;refine wpAny_execs_cons (thn (h1 pins s σ H { D with nx:=u D } I h) λ f s1 q=> ?_);cases f with
  | next=>
    obtain ⟨σ',H',I',q⟩:=q;exact h2 pins s1 σ' H' D I' q
  | ret v=>exact q
  | brk=>exact q
  | cont=>exact q
theorem Af (h1:PS X st t):PSs X [st] t:=by
  intro pins s σ H D I h;refine wpAny_execs_cons (thn (h1 pins s σ H D I h) λ f s1 q=> ?_);cases f with
  | next=>exact wpAny_execs_nil q
  | ret v=>exact q
  | brk=>exact q
  | cont=>exact q
theorem Inv.quiet {pins:List (Addr × Obj)} {σ:St} {H:Hp} {s:Shared} (I:Inv X pins σ H s):interactive X.env=false:=by simp [interactive,I.ok.kind]
def R4 (te:TE):TS:=λ D σ H=>te σ H λ _ H1=>D.nx σ H1
theorem Av (he:PE X e te) (hs:swapsWith e none pos.line X.env=pure false:=by rfl):PS X (.Expr e pos) (R4 te):=by
  intro pins s σ H D I h;exact wpAny_Expr_any (thn (he pins s σ H _ I h) λ v s1 ⟨x,H1,I1,r1,q1⟩=>⟨σ,H1,I1,q1⟩) I.quiet hs
def bg (te:TE):TS:=λ D σ H=>te σ H D.rt
theorem An (he:PE X e te):PS X (.Return (some e) pos) (bg te):=by
  intro pins s σ H D I h;exact wpAny_Return_some (thn (he pins s σ H _ I h) λ v s1 ⟨x,H1,I1,r1,q1⟩=>⟨x,σ,H1,I1,r1,q1⟩)
def Rv (c:TT) (t u:TS):TS:=λ D σ H=>c σ H λ b H1=>if b=true then t D σ H1 else u D σ H1
theorem Bb {c:Expr} {a b:List Stmt} {tc:TT} (hc:PT X c tc) (ha:PSs X a t) (hb:PSs X b u):PS X (.If c a b pos) (Rv tc t u):=by
  intro pins s σ H D I h;refine wpAny_If (thn (hc pins s σ H _ I h) λ d s1 ⟨H1,I1,q1⟩=> ?_);cases d with
  | true=>exact ha pins s1 σ H1 D I1 q1
  | false=>exact hb pins s1 σ H1 D I1 q1
end
abbrev TG:=V->St->Hp->(St->Hp->Prop)->Prop
abbrev TGs:=List V->St->Hp->(St->Hp->Prop)->Prop
def PG (X:Cx) (target:Expr) (t:TG):Prop:=
  ∀ (pins:List (Addr × Obj)) (s:Shared) (σ:St) (H:Hp) (v:V) (u:Value) (Q:St->Hp->Prop),Inv X pins σ H s->RelV v u->t v σ H Q->
    wpAny (model X.prog X.w) X.A (assign target X.env u) (λ _ s'=>∃ σ' H',Inv X pins σ' H' s'/\Q σ' H') X.xe s
def PGs (X:Cx) (ts:List Expr) (t:TGs):Prop:=
  ∀ (pins:List (Addr × Obj)) (s:Shared) (σ:St) (H:Hp) (vs:List V) (us:List Value) (Q:St->Hp->Prop),Inv X pins σ H s->Vals vs us->t vs σ H Q->
    wpAny (model X.prog X.w) X.A (assignInOrder ((assignEach ts X.env).map (·.2)) us) (λ _ s'=>∃ σ' H',Inv X pins σ' H' s'/\Q σ' H') X.xe s
abbrev TIp:=V->V->Hp->VK->Prop
def PIp (X:Cx) (op:Operator) (t:TIp):Prop:=
  ∀ (pins:List (Addr × Obj)) (s:Shared) (σ:St) (H:Hp) (x y:V) (v u:Value) (Q:VK),Inv X pins σ H s->RelV x v->RelV y u->t x y H Q->
    wpAny (model X.prog X.w) X.A (inplaceOp op v u) (EP X pins σ Q) X.xe s
section
variable {X:Cx} {pos:Pos}
def AO (i:Nat):TG:=λ v σ H Q=>Q (σ.set i (some v)) H
theorem Bf {i:Nat} {x:Str} (hN:X.N.Nodup) (hi:X.N[i]?=some x) (hx:Loc X.env.scope x) (hf:X.fn x=true\/X.env.scope.names.lookup x=some .local:=by first | exact .inl rfl | exact .inr rfl | assumption):PG X (.Name x pos) (AO i):=by
  intro pins s σ H v u Q I r h;exact wpAny_assign_Name (Ea I hN hi hx r (λ s' I'=>⟨_,H,I',h⟩) hf)
def Jm:TGs:=λ vs σ H Q=>vs=[]/\Q σ H
def Cc (t:TG) (u:TGs):TGs:=λ vs σ H Q=>∃ v r,vs=v::r/\t v σ H λ σ' H'=>u r σ' H' Q
theorem K0:PGs X [] Jm:=by
  intro pins s σ H vs us Q I r h;obtain ⟨e,h⟩:=h;subst e;cases r;exact assignInOrder_nil ⟨σ,H,I,h⟩
theorem Bt {e:Expr} {es:List Expr} {t:TG} {u:TGs} (h1:PG X e t) (h2:PGs X es u)
    (hs:(assignEach (e::es) X.env).map (·.2)=assign e X.env::(assignEach es X.env).map (·.2):=by rfl):PGs X (e::es) (Cc t u):=by
  intro pins s σ H vs us Q I r h;obtain ⟨v,vr,e1,h⟩:=h;subst e1;cases r with
  | cons r rr=>
    rw [hs];refine assignInOrder_cons (thn (h1 pins s σ H _ _ _ I r h) λ _ s1 ⟨σ1,H1,I1,q1⟩=> ?_);exact h2 pins s1 σ1 H1 _ _ Q I1 rr q1
def Jk (K:PySem.W.Frag) (n:Nat) (t:TGs):TG:=λ v σ H Q=>∃ a xs,v= .ref a/\SqT K H a xs/\xs.length=n/\t xs σ H Q
theorem O4 {es:List Expr} {k:Nat} {t:TGs} {n:Nat} (hc:X.calm=true) (h:PGs X es t)
    (hn:(assignEach es X.env).length=n:=by rfl) (hst:(assignEach es X.env).findIdx? (·.1)=none:=by rfl):PG X (.Tuple es k pos) (Jk X.K n t):=by
  intro pins s σ H v u Q I r hw;obtain ⟨a,xs,e1,hq,hl,hw⟩:=hw;subst e1;cases r;obtain ⟨its,rv,ht,hz⟩:=I.tuple hq;refine assign_Tuple_tuple (I.ok.hd hc) ht (by simp [hn, <-hl,rv.length]) hst λ h' hx=> ?_;have I1:Inv X pins σ H { s with heap:=h' }:=I.kept (t':=s.toks) λ b o e=>hx b o (Ac2 (Aa6 e)) e;exact h pins _ σ H xs _ Q I1 (by simpa using rv) hw
def Pq (te:TE) (g:TG):TS:=λ D σ H=>te σ H λ x H1=>g x σ H1 D.nx
theorem Pu {tg e:Expr} {te:TE} {g:TG} (he:PE X e te) (hg:PG X tg g) (hs:swapsWithSole [tg] e pos.line X.env=pure false:=by rfl) (hw:swappedStores [tg] e X.env=pure none:=by rfl)
    (h1:(assignEach [tg] X.env).map (·.2)=[assign tg X.env]:=by rfl):PS X (.Assign [tg] e pos) (Pq te g):=by
  intro pins s σ H D I h;refine wpAny_Assign_stores (thn (he pins s σ H _ I h) λ v s1 ⟨x,H1,I1,r1,q1⟩=> ?_) hs hw;rw [h1];exact thn (hg pins s1 σ H1 x v _ I1 r1 q1) λ _ s2 q=>q
theorem Ap {i:Nat} {x:Str} {e:Expr} {te:TE} {pos':Pos} (hN:X.N.Nodup) (hi:X.N[i]?=some x) (hx:Loc X.env.scope x) (he:PE X e te) (hs:swapsWith e (some (.Name x pos')) pos.line X.env=pure false:=by rfl) (hf:X.fn x=true\/X.env.scope.names.lookup x=some .local:=by first | exact .inl rfl | exact .inr rfl | assumption):
    PS X (.Assign [.Name x pos'] e pos) (Pq te (AO i)):=by
  intro pins s σ H D I h;refine wpAny_Assign_Name (thn (he pins s σ H _ I h) λ v s1 ⟨y,H1,I1,r1,q1⟩=> ?_) hs;exact Ea I1 hN hi hx r1 (λ s2 I2=>⟨_,H1,I2,q1⟩) hf
def Um (i:Nat) (te:TE) (ti:TIp):TS:=λ D σ H=>∃ x,σ[i]?=some (some x)/\te σ H λ y H1=>ti x y H1 λ z H2=>D.nx (σ.set i (some z)) H2
theorem Pj {i:Nat} {x:Str} {e:Expr} {te:TE} {op:Operator} {ti:TIp} {pos':Pos} (hN:X.N.Nodup) (hi:X.N[i]?=some x) (hx:Loc X.env.scope x) (he:PE X e te) (ho:PIp X op ti) (hf:X.fn x=true\/X.env.scope.names.lookup x=some .local:=by first | exact .inl rfl | exact .inr rfl | assumption):
    PS X (.AugAssign (.Name x pos') op e pos) (Um i te ti):=by
  intro pins s σ H D I h;obtain ⟨v,e1,h⟩:=h;obtain ⟨m,hn,hl⟩:=I.loc;have vis:Vis X.env.scope x:=by rcases hx with k | k;exact .inl k;exact .inr (.inl k)
  obtain ⟨u,r,l⟩:=hl i x v hi e1 vis;refine wpAny_AugAssign_Name ?_;have go:wpAny (model X.prog X.w) X.A (eval e X.env) (λ w s₂=>wpAny (model X.prog X.w) X.A (inplaceOp op u w) (λ r s₃=>wpAny (model X.prog X.w) X.A (storeName X.env x r) (λ _=>SP X pins D .next) X.xe s₃) X.xe s₂) X.xe s:=by
    refine thn (he pins s σ H _ I h) λ w s1 ⟨y,H1,I1,r1,q1⟩=> ?_;refine thn (ho pins s1 σ H1 v y u w _ I1 r r1 q1) λ z s2 ⟨zv,H2,I2,r2,q2⟩=> ?_;exact Ea I2 hN hi hx r2 (λ s3 I3=>⟨_,H2,I3,q2⟩) hf
  rcases l with ⟨hk,hm⟩ | ⟨hk,c,hc,hcell⟩
  · exact wpAny_loadName_local I.ok.kind hk hn hm go
  · rcases hk with hk | hk
    · exact wpAny_loadName_cell I.ok.kind hk hc hcell go
    · rcases hx with k | k
      · have:X.env.scope.names.lookup x=some .free:=hk;rw [k] at this;cases this
      · have:X.env.scope.names.lookup x=some .free:=hk;rw [k] at this;cases this
end
section
variable {X:Cx} {pos:Pos}
end
structure It where
  go:Nat->Hp->Prop
  yld:Nat->Hp->V->Hp->Prop
  stop:Nat->Hp->Prop
def DD (X:Cx) (pins:List (Addr × Obj)) (H:Hp) (b:Addr):Prop:=
  H b=none/\b≠X.env.locals/\b∉X.fs/\(b∈X.ex\/X.s₀.heap.objs.size<=b)/\(∀ x c,X.env.cells.lookup x=some c->c≠b)/\∀ p∈X.pn++pins,p.1≠b
theorem Inv.fpOk {X:Cx} {pins:List (Addr × Obj)} {σ:St} {H H':Hp} {s:Shared} {b:Addr} (I:Inv X pins σ H s) (hb:s.heap.objs.size<=b) (hn:H' b=none):DD X pins H' b:=by
  refine ⟨hn,Ag8 (Ab4 I.lt hb),I.nofs hb, .inr (Ab8 I.sz hb),λ x c e z=> ?_,λ p hp z=> ?_⟩
  · obtain ⟨v,q⟩:=I.cell x c e;exact absurd (Ab4 q.lt (by rw [z];exact hb)) (Nat.lt_irrefl _)
  · exact absurd (Ab4 (Aa6 (I.pin p hp).1) (by rw [z];exact hb)) (Nat.lt_irrefl _)
structure Turn (P:Program) (w:World) (K:PySem.W.Frag) (tg:Expr) (J:It) (fp:List Addr) (it:Addr) (tn:Nat->Heap->Prop):Prop where
  mem:it∈fp
  obj:∀ i h,tn i h->∀ b∈fp,∃ o,h.get? b=some o/\∀ v,o.data≠ .cell v
  keep:∀ i h h',tn i h->(∀ b∈fp,∀ o,h.get? b=some o->h'.get? b=some o)->tn i h'
  item:∀ (X:Cx),X.prog=P->X.w=w->X.K=K->X.calm=true->∀ (i:Nat) (pins:List (Addr × Obj)) (s:Shared) (σ:St) (H:Hp) (E:Value->Shared->Prop),Inv X pins σ H s->(∀ b∈fp,DD X pins H b)->tn i s.heap->J.go i H->
    wpAny (model P w) X.A (pyNext (.ref it)) (λ r s1=>∃ u,r=some u/\
      wpAny (model P w) X.A (letOwnedTupleGo tg (.ref it) u) (λ _ s2=>∃ x H',Inv X pins σ H' s2/\RelV x u/\J.yld i H x H'/\tn (i+1) s2.heap/\∀ b∈fp,H' b=none) E s1) E s
  done:∀ (X:Cx),X.prog=P->X.w=w->X.K=K->X.calm=true->∀ (i:Nat) (pins:List (Addr × Obj)) (s:Shared) (σ:St) (H:Hp) (E:Value->Shared->Prop),Inv X pins σ H s->(∀ b∈fp,DD X pins H b)->tn i s.heap->J.stop i H->
    wpAny (model P w) X.A (pyNext (.ref it)) (λ r s1=>r=none/\Inv X pins σ H s1) E s
  self:∀ (A:Around) (i:Nat) (s:Shared) (Q:Value->Shared->Prop) (E:Value->Shared->Prop),tn i s.heap->Q (.ref it) s->wpAny (model P w) A (pyIter (.ref it)) Q E s
abbrev TI:=St->Hp->(It->Hp->Prop)->Prop
def PIE (X:Cx) (pins:List (Addr × Obj)) (σ:St) (tg:Expr) (R:It->Hp->Prop) (itv:Value) (s2:Shared):Prop:=
  ∃ (it:Addr) (fp:List Addr) (tn:Nat->Heap->Prop) (J:It) (H':Hp),itv= .ref it/\Inv X pins σ H' s2/\Turn X.prog X.w X.K tg J fp it tn/\tn 0 s2.heap/\(∀ b∈fp,DD X pins H' b)/\R J H'
def PI (X:Cx) (tg iter:Expr) (wi:TI):Prop:=
  ∀ (pins:List (Addr × Obj)) (s:Shared) (σ:St) (H:Hp) (R:It->Hp->Prop),Inv X pins σ H s->wi σ H R->
    wpAny (model X.prog X.w) X.A (eval iter X.env) (λ v s1=>wpAny (model X.prog X.w) X.A (pyIter v) (PIE X pins σ tg R) X.xe s1) X.xe s
theorem Nk {M:Model} {A:Around} {E:Value->Shared->Prop} {s:Shared} {tg:Expr} {it:Addr} {u:Value} {o:Obj} {n:String} {vs:Array Value} {Q:Unit->Shared->Prop} (ho:s.heap.get? it=some o) (hc:o.cls= .type n) (hd:o.data= .fields vs)
    (hn:["enumerate","zip","dict_itemiterator","dict_reverseitemiterator","odict_iterator","itertools.zip_longest","itertools.pairwise"].contains n=false) (hQ:Q () s):wpAny M A (letOwnedTupleGo tg (.ref it) u) Q E s:=by
  unfold letOwnedTupleGo;cases tg <;> first
    | exact Aa5 hQ
    | (cases u <;> first
        | exact Aa5 hQ
        | (refine Aa0 (wpAny_load ho ?_)
           rw [hc,hd];show wpAny M A (if (["enumerate","zip","dict_itemiterator","dict_reverseitemiterator","odict_iterator","itertools.zip_longest","itertools.pairwise"].contains n&&vs[0]? == some (rawInt _))=true then _ else _) Q E s;rw [if_neg (by intro h;rw [hn,Ac5] at h;cases h)];exact Aa5 hQ))
def Itl (K:PySem.W.Frag) (a:Addr):It:=
  ⟨λ i H=>∃ xs x,SqL K H a xs/\xs[i]?=some x,λ i H x H'=>H'=H/\∀ xs,SqL K H a xs->xs[i]?=some x,λ i H=>∃ xs,SqL K H a xs/\xs.length<=i⟩
def Itt (K:PySem.W.Frag) (a:Addr):It:=
  ⟨λ i H=>∃ xs x,SqT K H a xs/\xs[i]?=some x,λ i H x H'=>H'=H/\∀ xs,SqT K H a xs->xs[i]?=some x,λ i H=>∃ xs,SqT K H a xs/\xs.length<=i⟩
def Itr (lo:Int) (n:Nat):It:=⟨λ i _=>i<n,λ i H x H'=>H'=H/\x= .int (lo+i),λ i _=>n<=i⟩
theorem Kn {P:Program} {w:World} {K:PySem.W.Frag} {tg:Expr} (a it:Addr):Turn P w K tg (Itl K a) [it] it (λ i h=>h.IsListIter it a i) where
  mem:=by simp
  obj:=λ i h st b hb=>by
    have e:b=it:=by simpa using hb
    subst e;obtain ⟨o,e,c,d⟩:=st;exact ⟨o,e,λ v z=>by rw [d] at z;cases z⟩
  keep:=λ i h h' st k=>st.at λ o e=>k it (by simp) o e
  item:=by
    intro X hP hw hK hc i pins s σ H E I hf st hg;subst hP hw hK;obtain ⟨xs,x,hq,hx⟩:=hg;obtain ⟨its,rv,p,hz⟩:=I.list hq;obtain ⟨u,hu,ru⟩:=rv.get hx;obtain ⟨f0,f1,f2,f3,f4,f5⟩:=hf it (by simp);refine wpAny_pyNext_list_item st p.isList (x:=u) (by simpa using hu) λ h' st' sb=> ?_;have I1:Inv X pins σ H { s with heap:=h' }:=I.turned (t':=s.toks) (λ b o hb e=>(sb.2 b hb).trans e) f0 f1 f3 f4 f5;obtain ⟨o,e,c,d⟩:=id st';exact ⟨u,rfl,Nk (s:={ s with heap:=h' }) e c d (by decide) ⟨x,H,I1,ru,⟨rfl,λ ys hy=>by rw [I.list_inj hy hq];exact hx⟩,st',λ b hb=>(hf b hb).1⟩⟩
  done:=by
    intro X hP hw hK hc i pins s σ H E I hf st hg;subst hP hw hK;obtain ⟨xs,hq,hx⟩:=hg;obtain ⟨its,rv,p,hz⟩:=I.list hq;obtain ⟨f0,f1,f2,f3,f4,f5⟩:=hf it (by simp);have hl:=rv.length;exact wpAny_pyNext_list_end (I.ok.hd hc) st p.isList (by simp;omega) λ h' eb=>⟨rfl,I.turned (t':=s.toks) (λ b o hb e=>eb b o hb e) f0 f1 f3 f4 f5⟩
  self:=λ _ _ _ _ _ st h=>wpAny_pyIter_listiter st h
theorem Iz {P:Program} {w:World} {K:PySem.W.Frag} {tg:Expr} (a it:Addr):Turn P w K tg (Itt K a) [it] it (λ i h=>h.IsTupleIter it a i) where
  mem:=by simp
  obj:=λ i h st b hb=>by
    have e:b=it:=by simpa using hb
    subst e;obtain ⟨o,e,c,d⟩:=st;exact ⟨o,e,λ v z=>by rw [d] at z;cases z⟩
  keep:=λ i h h' st k=>st.at λ o e=>k it (by simp) o e
  item:=by
    intro X hP hw hK hc i pins s σ H E I hf st hg;subst hP hw hK;obtain ⟨xs,x,hq,hx⟩:=hg;obtain ⟨its,rv,p,hz⟩:=I.tuple hq;obtain ⟨u,hu,ru⟩:=rv.get hx;obtain ⟨f0,f1,f2,f3,f4,f5⟩:=hf it (by simp);refine wpAny_pyNext_tuple_item st (show s.heap.IsTuple a its.toArray from p) (x:=u) (by simpa using hu) λ h' st' sb=> ?_;have I1:Inv X pins σ H { s with heap:=h' }:=I.turned (t':=s.toks) (λ b o hb e=>(sb.2 b hb).trans e) f0 f1 f3 f4 f5;obtain ⟨o,e,c,d⟩:=id st';exact ⟨u,rfl,Nk (s:={ s with heap:=h' }) e c d (by decide) ⟨x,H,I1,ru,⟨rfl,λ ys hy=>by rw [I.tuple_inj hy hq];exact hx⟩,st',λ b hb=>(hf b hb).1⟩⟩
  done:=by
    intro X hP hw hK hc i pins s σ H E I hf st hg;subst hP hw hK;obtain ⟨xs,hq,hx⟩:=hg;obtain ⟨its,rv,p,hz⟩:=I.tuple hq;obtain ⟨f0,f1,f2,f3,f4,f5⟩:=hf it (by simp);have hl:=rv.length;exact wpAny_pyNext_tuple_end (I.ok.hd hc) st (show s.heap.IsTuple a its.toArray from p) (by simp;omega) λ h' eb=>⟨rfl,I.turned (t':=s.toks) (λ b o hb e=>eb b o hb e) f0 f1 f3 f4 f5⟩
  self:=λ _ _ _ _ _ st h=>wpAny_pyIter_tupleiter st h
theorem MF {P:Program} {w:World} {K:PySem.W.Frag} {tg:Expr} (it:Addr) (lo:Int) (n:Nat):Turn P w K tg (Itr lo n) [it] it (λ i h=>IsRangeIter h it (lo+(i:Nat)*1) ((n:Int) - (i:Nat)) 1) where
  mem:=by simp
  obj:=λ i h st b hb=>by
    have e:b=it:=by simpa using hb
    subst e;exact ⟨_,st,λ v z=>by
      have z':Data.fields _=Data.cell v:=z;cases z'⟩
  keep:=λ i h h' st k=>k it (by simp) _ st
  item:=by
    intro X hP hw hK hc i pins s σ H E I hf st hg;subst hP hw hK;obtain ⟨f0,f1,f2,f3,f4,f5⟩:=hf it (by simp);have W:=Walks.range (prog:=X.prog) (w:=X.w) (I.ok.hd hc) it lo 1 n;refine W.item i s _ _ hg st λ v h' tk hv st' kk=> ?_;obtain ⟨t,rfl⟩:=hv;have I1:Inv X pins σ H { s with heap:=h',toks:=tk }:=I.turned (λ b o hb e=>kk b o (by simpa using hb) e) f0 f1 f3 f4 f5;refine ⟨_,rfl,Nk (s:={ s with heap:=h',toks:=tk }) (n:="range_iterator") st' rfl rfl (by decide) ⟨.int (lo+i),H,I1,⟨t,?_⟩,⟨rfl,rfl⟩,st',λ b hb=>(hf b hb).1⟩⟩;rw [Int.mul_one]
  done:=by
    intro X hP hw hK hc i pins s σ H E I hf st hg;subst hP hw hK;obtain ⟨f0,f1,f2,f3,f4,f5⟩:=hf it (by simp);exact wpAny_pyNext_range_end (I.ok.hd hc) st (by have:n<=i:=hg;omega) λ h' eb=>⟨rfl,I.turned (t':=s.toks) (λ b o hb e=>eb b o hb e) f0 f1 f3 f4 f5⟩
  self:=λ _ _ _ _ _ st h=>wpAny_pyIter_rangeiter st h
section
variable {X:Cx} {tg:Expr}
def PM (K:PySem.W.Frag) (tl:TE):TI:=λ σ H R=>tl σ H λ x H1=>∃ a,x= .ref a/\(∃ xs,SqL K H1 a xs)/\R (Itl K a) H1
def Sk (K:PySem.W.Frag) (tl:TE):TI:=λ σ H R=>tl σ H λ x H1=>∃ a,x= .ref a/\(∃ xs,SqT K H1 a xs)/\R (Itt K a) H1
theorem Q9 {l:Expr} {tl:TE} (hl:PE X l tl):PI X tg l (PM X.K tl):=by
  intro pins s σ H R I h;refine thn (hl pins s σ H _ I h) λ v s1 ⟨x,H1,I1,r1,q1⟩=> ?_;obtain ⟨a,e,⟨xs,hq⟩,q⟩:=q1;subst e;cases r1;obtain ⟨its,rv,p,hz⟩:=I1.list hq;refine wpAny_pyIter_list p.isList ?_;refine ⟨s1.heap.objs.size,[s1.heap.objs.size],_,_,H1,rfl,I1.kept (t':=s1.toks) λ b o e=>Aa1 _ e,Kn a _,⟨_,Aa8 _ rfl,rfl,rfl⟩,λ b hb=> ?_,q⟩;have e:b=s1.heap.objs.size:=by simpa using hb
  subst e;exact I1.fpOk (Aa7 _) (I1.hok.fresh (Aa7 _))
theorem Sn {l:Expr} {tl:TE} (hl:PE X l tl):PI X tg l (Sk X.K tl):=by
  intro pins s σ H R I h;refine thn (hl pins s σ H _ I h) λ v s1 ⟨x,H1,I1,r1,q1⟩=> ?_;obtain ⟨a,e,⟨xs,hq⟩,q⟩:=q1;subst e;cases r1;obtain ⟨its,rv,p,hz⟩:=I1.tuple hq;refine wpAny_pyIter_tuple (show s1.heap.IsTuple a its.toArray from p) ?_;refine ⟨s1.heap.objs.size,[s1.heap.objs.size],_,_,H1,rfl,I1.kept (t':=s1.toks) λ b o e=>Aa1 _ e,Iz a _,⟨_,Aa8 _ rfl,rfl,rfl⟩,λ b hb=> ?_,q⟩;have e:b=s1.heap.objs.size:=by simpa using hb
  subst e;exact I1.fpOk (Aa7 _) (I1.hok.fresh (Aa7 _))
theorem LZ {pins:List (Addr × Obj)} {σ:St} {H:Hp} {s:Shared} {R:It->Hp->Prop} {E:Value->Shared->Prop} {lo hi:Int} {t u v:Tok} {tk:Nat} (I:Inv X pins σ H s) (h1: -(2 ^ 62)<=lo) (h2:lo<2 ^ 62) (h3: -(2 ^ 62)<=hi) (h4:hi<2 ^ 62)
    (q:R (Itr lo (hi - lo).toNat) H):wpAny (model X.prog X.w) X.A (pyIter (.ref s.heap.objs.size)) (PIE X pins σ tg R) E { s with heap:=s.heap.push { cls:= .type "range",data:= .fields #[.int lo t, .int hi u, .int 1 v] },toks:=tk }:=by
  refine wpAny_pyIter_range (IsRange.new ..) (small_one h1 h2 h3 h4) ?_;have I1:Inv X pins σ H { s with heap:=s.heap.push { cls:= .type "range",data:= .fields #[.int lo t, .int hi u, .int 1 v] },toks:=tk }:=I.kept λ b o e=>Aa1 _ e;refine ⟨(s.heap.push { cls:= .type "range",data:= .fields #[.int lo t, .int hi u, .int 1 v] }).objs.size,[(s.heap.push { cls:= .type "range",data:= .fields #[.int lo t, .int hi u, .int 1 v] }).objs.size],_,_,H,rfl,
    I1.kept (t':=tk) λ b o e=>Aa1 _ e,MF _ lo (hi - lo).toNat,?_,λ b hb=> ?_,q⟩
  · have e1:lo+((0:Nat):Int)*1=lo:=by simp
    have e2:(((hi - lo).toNat:Nat):Int) - ((0:Nat):Int)=Builtin.Range.rangeSize lo hi 1:=by rw [rangeSize_one];split <;> omega
    show IsRangeIter _ _ (lo+((0:Nat):Int)*1) ((((hi - lo).toNat:Nat):Int) - ((0:Nat):Int)) 1;rw [e1,e2];exact Aa8 _ rfl
  · have e:b=(s.heap.push { cls:= .type "range",data:= .fields #[.int lo t, .int hi u, .int 1 v] }).objs.size:=by simpa using hb
    subst e;exact I1.fpOk (Aa7 _) (I1.hok.fresh (Aa7 _))
def Si (ta:TA):TI:=λ σ H R=>ta σ H λ vs H1=>∃ j:Int,vs=[.int j]/\ -(2 ^ 62)<=j/\j<2 ^ 62/\R (Itr 0 j.toNat) H1
def Sg (ta:TA):TI:=λ σ H R=>ta σ H λ vs H1=>∃ i j:Int,vs=[.int i, .int j]/\(-(2 ^ 62)<=i/\i<2 ^ 62/\ -(2 ^ 62)<=j/\j<2 ^ 62)/\R (Itr i (j - i).toNat) H1
theorem Fs {a:Expr} {ta:TA} {p pos:Pos} (hg:Gl X "range") (hm:X.mg "range"=none) (ha:PA X [a] ta) (hs:starEach [a] X.env=[(false,eval a X.env)]:=by rfl):PI X tg (.Call (.Name "range" p) [a] [] pos) (Si ta):=by
  intro pins s σ H R I h;refine Call_ (Ck I hg hm boot_range (PyProof.Rows.callWith_type1 (thn (ha pos pins s σ H _ I h) λ us s1 ⟨vs,H1,I1,r1,q1⟩=> ?_) hs rfl));obtain ⟨j,e,q1,q2,q⟩:=q1;subst e;cases r1 with
  | cons r rr=>
    cases rr;obtain ⟨t,rfl⟩:=r;exact call_range_1 (LZ I1 (by omega) (by omega) q1 q2 (by simpa using q))
theorem J7 {a b:Expr} {ta:TA} {p pos:Pos} (hg:Gl X "range") (hm:X.mg "range"=none) (ha:PA X [a,b] ta) (hs:starEach [a,b] X.env=[(false,eval a X.env),(false,eval b X.env)]:=by rfl) (hs2:starEach [b] X.env=[(false,eval b X.env)]:=by rfl):
    PI X tg (.Call (.Name "range" p) [a,b] [] pos) (Sg ta):=by
  intro pins s σ H R I h;refine Call_ (Ck I hg hm boot_range (PyProof.Rows.callWith_type1 (thn (ha pos pins s σ H _ I h) λ us s1 ⟨vs,H1,I1,r1,q1⟩=> ?_) (by rw [hs,hs2]) (by rw [hs2];rfl)));obtain ⟨i,j,e,⟨q1,q2,q3,q4⟩,q⟩:=q1;subst e;cases r1 with
  | cons r rr=>
    cases rr with
    | cons r' rr=>
      cases rr;obtain ⟨t,rfl⟩:=r;obtain ⟨t',rfl⟩:=r';exact call_range_2 (LZ I1 q1 q2 q3 q4 q)
def W7 (wi:TI) (g:TG) (tb:TS):TS:=λ D σ H=>wi σ H λ J H1=>∃ W:Nat->Nat->St->Hp->Prop,(∃ m,W 0 m σ H1)/\∀ i m σ H,W i m σ H->
  (J.stop i H/\D.nx σ H)\/(J.go i H/\∃ N:St->Hp->Prop,(∀ σ' H',N σ' H'->∃ m',m'<m/\W (i+1) m' σ' H')/\∀ x H',J.yld i H x H'->g x σ H' λ σ2 H2=>tb { D with nx:=N,ct:=N,bk:=D.nx } σ2 H2)
def IT (fp:List Addr) (h:Heap):List (Addr × Obj):=fp.filterMap λ b=>(h.get? b).map λ o=>(b,o)
theorem Ej {fp:List Addr} {h:Heap} {b:Addr} {o:Obj} (hb:b∈fp) (e:h.get? b=some o):(b,o)∈IT fp h:=List.mem_filterMap.mpr ⟨b,hb,by rw [e];rfl⟩
theorem Ny {fp:List Addr} {h:Heap} {p:Addr × Obj} (hp:p∈IT fp h):p.1∈fp/\h.get? p.1=some p.2:=by
  obtain ⟨b,hb,e⟩:=List.mem_filterMap.mp hp;cases q:h.get? b with
  | none=>rw [q] at e;cases e
  | some o=>
    rw [q] at e;have e':(b,o)=p:=Ad8.inj e;subst e';exact ⟨hb,q⟩
theorem Inv.pinned {pins:List (Addr × Obj)} {σ:St} {H:Hp} {s:Shared} {fp:List Addr} (I:Inv X pins σ H s) (hf:∀ b∈fp,DD X pins H b) (ho:∀ b∈fp,∃ o,s.heap.get? b=some o/\∀ v,o.data≠ .cell v):Inv X (pins++IT fp s.heap) σ H s:=
  I.pins_of λ p hp=>(List.mem_append.mp hp).elim (λ z=>I.pin p (Ab6 _ z)) λ z=>by
    obtain ⟨hb,e⟩:=Ny z;obtain ⟨f0,f1,f2,_⟩:=hf p.1 hb;obtain ⟨o,e',d⟩:=ho p.1 hb;rw [e] at e';cases e';exact ⟨e,f0,f1,f2,d⟩
theorem Inv.unpinned {pins pl:List (Addr × Obj)} {σ:St} {H:Hp} {s:Shared} (I:Inv X (pins++pl) σ H s):Inv X pins σ H s:=I.pins_of λ p hp=>I.pin p (Ab6 _ (List.mem_append_left _ hp))
theorem Hc {iter:Expr} {body:List Stmt} {wi:TI} {g:TG} {tb:TS} {pos:Pos} (hp:PassesOwn (model X.prog X.w) X.A X.env X.xe) (hc:X.calm=true) (hi:PI X tg iter wi) (hg:PG X tg g) (hb:PSs X body tb)
    (hs:∀ x,foldedSetIterable iter X.env x=pure x:=by intro _;rfl):PS X (.For tg iter body [] pos) (W7 wi g tb):=by
  intro pins s σ H D I h;refine wpAny_For (thn (hi pins s σ H _ I h) λ v s1 h1=>thn h1 λ itv s2 h2=> ?_) hs;obtain ⟨it,fp,tn,J,H2,e,I2,T,st2,f2,W,⟨m0,w0⟩,turn⟩:=h2;subst e;have stat:∀ {H':Hp},(∀ b∈fp,H' b=none)->∀ b∈fp,DD X pins H' b:=λ hn b hb=>⟨hn b hb,(f2 b hb).2⟩;refine codeAny_forLoop_any (λ n s'=>∃ i σ' H',Inv X pins σ' H' s'/\tn i s'.heap/\(∀ b∈fp,H' b=none)/\W i n σ' H') ?_ m0 ⟨0,σ,H2,I2,st2,λ b hb=>(f2 b hb).1,w0⟩;rintro n s3 ⟨i,σ3,H3,I3,st3,fr3,w3⟩;rcases turn i n σ3 H3 w3 with ⟨stop,qn⟩ | ⟨go,N,hN,step⟩
  · refine wpAny_passesOwn hp (thn (T.done X rfl rfl rfl hc i pins s3 σ3 H3 X.xe I3 (stat fr3) st3 stop) λ r s4 ⟨hr,I4⟩=> ?_);subst hr;exact wpAny_execs_nil ⟨σ3,H3,I4,qn⟩
  · refine wpAny_passesOwn hp (thn (T.item X rfl rfl rfl hc i pins s3 σ3 H3 X.xe I3 (stat fr3) st3 go) λ r s4 ⟨u,hr,h4⟩=> ?_);subst hr;refine wpAny_passesOwn hp (thn h4 λ _ s5 ⟨x,H5,I5,r5,y5,st5,fr5⟩=> ?_);have I5':=I5.pinned (stat fr5) (T.obj _ _ st5);refine wpAny_passesOwn hp (thn (hg _ s5 σ3 H5 x u _ I5' r5 (step x H5 y5)) λ _ s6 ⟨σ6,H6,I6,q6⟩=> ?_);refine wpAny_passesOwn hp (thn (hb _ s6 σ6 H6 _ I6 q6) λ f s7 q7=> ?_);have again:∀ {σ7:St} {H7:Hp},Inv X (pins++IT fp s5.heap) σ7 H7 s7->N σ7 H7->∃ m,m<n/\∃ i σ' H',Inv X pins σ' H' s7/\tn i s7.heap/\(∀ b∈fp,H' b=none)/\W i m σ' H':=λ {σ7 H7} I7 n7=>by
      obtain ⟨m',hm,w7⟩:=hN σ7 H7 n7;refine ⟨m',hm,i+1,σ7,H7,I7.unpinned,T.keep _ _ _ st5 λ b hb o e=>(I7.pin (b,o) (Ab6 _ (Ab6 _ (Ej hb e)))).1,λ b hb=> ?_,w7⟩;obtain ⟨o,e,d⟩:=T.obj _ _ st5 b hb;exact (I7.pin (b,o) (Ab6 _ (Ab6 _ (Ej hb e)))).2.1
    cases f with
    | next=>obtain ⟨σ7,H7,I7,n7⟩:=q7;exact again I7 n7
    | cont=>obtain ⟨σ7,H7,I7,n7⟩:=q7;exact again I7 n7
    | brk=>obtain ⟨σ7,H7,I7,q7⟩:=q7;exact ⟨σ7,H7,I7.unpinned,q7⟩
    | ret v=>obtain ⟨x7,σ7,H7,I7,r7,q7⟩:=q7;exact ⟨x7,σ7,H7,I7.unpinned,r7,q7⟩
end
abbrev R2:=V->V->Hp->VK->Prop
def OpR (X:Cx) (f:Value->Value->Sem Value) (r:R2):Prop:=
  ∀ (pins:List (Addr × Obj)) (s:Shared) (σ:St) (H:Hp) (x y:V) (v u:Value) (Q:VK),Inv X pins σ H s->RelV x v->RelV y u->r x y H Q->
    wpAny (model X.prog X.w) X.A (f v u) (EP X pins σ Q) X.xe s
def UnR (X:Cx) (f:Value->Sem Value) (r:V->Hp->VK->Prop):Prop:=
  ∀ (pins:List (Addr × Obj)) (s:Shared) (σ:St) (H:Hp) (x:V) (v:Value) (Q:VK),Inv X pins σ H s->RelV x v->r x H Q->
    wpAny (model X.prog X.w) X.A (f v) (EP X pins σ Q) X.xe s
def Cf (X:Cx) (f:Value) (r:List V->Hp->VK->Prop):Prop:=
  ∀ (pins:List (Addr × Obj)) (s:Shared) (σ:St) (H:Hp) (xs:List V) (us:List Value) (Q:VK),Inv X pins σ H s->Vals xs us->r xs H Q->
    wpAny (model X.prog X.w) X.A (call f us) (EP X pins σ Q) X.xe s
def bz (X:Cx) (r:V->Hp->(Bool->Hp->Prop)->Prop):Prop:=
  ∀ (pins:List (Addr × Obj)) (s:Shared) (σ:St) (H:Hp) (x:V) (v:Value) (Q:Bool->Hp->Prop),Inv X pins σ H s->RelV x v->r x H Q->
    wpAny (model X.prog X.w) X.A (truthy v) (TP X pins σ Q) X.xe s
def tOp (r:R2) (ta tb:TE):TE:=λ σ H Q=>ta σ H λ x H1=>tb σ H1 λ y H2=>r x y H2 Q
def tUn (r:V->Hp->VK->Prop) (ta:TE):TE:=λ σ H Q=>ta σ H λ x H1=>r x H1 Q
def rI (C:Int->Int->Prop) (g:Int->Int->V):R2:=λ x y H Q=>∃ i j,x= .int i/\y= .int j/\C i j/\Q (g i j) H
def rI0 (g:Int->Int->V):R2:=λ x y H Q=>∃ i j,x= .int i/\y= .int j/\Q (g i j) H
def rU (g:Int->V):V->Hp->VK->Prop:=λ x H Q=>∃ i,x= .int i/\Q (g i) H
section
variable {X:Cx} {a b c:Expr} {ta tb tc:TE} {pos:Pos}
theorem SR (ha:PE X a ta) (hb:PE X b tb) {pins:List (Addr × Obj)} {s:Shared} {σ:St} {H:Hp} {R:V->V->Hp->Prop} (I:Inv X pins σ H s)
    (h:ta σ H λ x H1=>tb σ H1 λ y H2=>R x y H2) {Q:Value->Shared->Prop} {f:Value->Value->Sem Value}
    (hf:∀ v u s2 x y H2,Inv X pins σ H2 s2->RelV x v->RelV y u->R x y H2->wpAny (model X.prog X.w) X.A (f v u) Q X.xe s2):
    wpAny (model X.prog X.w) X.A (eval a X.env) (λ v s₁=>wpAny (model X.prog X.w) X.A (eval b X.env) (λ u s₂=>wpAny (model X.prog X.w) X.A (f v u) Q X.xe s₂) X.xe s₁) X.xe s:=by
  refine thn (ha pins s σ H _ I h) λ v s1 ⟨x,H1,I1,r1,q1⟩=> ?_;refine thn (hb pins s1 σ H1 _ I1 q1) λ u s2 ⟨y,H2,I2,r2,q2⟩=> ?_;exact hf v u s2 x y H2 I2 r1 r2 q2
theorem Aj {op:Operator} {r:R2} (ho:OpR X (binaryOp op) r) (ha:PE X a ta) (hb:PE X b tb):PE X (.BinOp a op b pos) (tOp r ta tb):=by
  intro pins s σ H Q I h;exact wpAny_BinOp (SR ha hb I h λ v u s2 x y H2 I2 rx ry q=>ho pins s2 σ H2 x y v u Q I2 rx ry q)
theorem RO {op:UnaryOp} {r:V->Hp->VK->Prop} (ho:UnR X (unaryOp op) r) (ha:PE X a ta):PE X (.UnaryOp op a pos) (tUn r ta):=by
  intro pins s σ H Q I h;exact UnaryOp_ (thn (ha pins s σ H _ I h) λ v s1 ⟨x,H1,I1,r1,q1⟩=>ho pins s1 σ H1 x v Q I1 r1 q1)
theorem opI {f:Value->Value->Sem Value} {C:Int->Int->Prop} {g:Int->Int->Int}
    (rule:∀ (i j:Int) (t u:Tok) (s:Shared) (Q:Value->Shared->Prop) (E:Value->Shared->Prop),C i j->Q (.int (g i j) s.toks) { s with toks:=s.toks+1 }->wpAny (model X.prog X.w) X.A (f (.int i t) (.int j u)) Q E s):
    OpR X f (rI C λ i j=> .int (g i j)):=by
  intro pins s σ H x y v u Q I rx ry h;obtain ⟨i,j,rfl,rfl,hc,q⟩:=h;obtain ⟨t,rfl⟩:=rx;obtain ⟨t',rfl⟩:=ry;exact rule i j t t' s _ _ hc ⟨.int (g i j),H,I.tok _,⟨_,rfl⟩,q⟩
theorem QG {f:Value->Value->Sem Value} {g:Int->Int->Int}
    (rule:∀ (i j:Int) (t u:Tok) (s:Shared) (Q:Value->Shared->Prop) (E:Value->Shared->Prop),Q (.int (g i j) s.toks) { s with toks:=s.toks+1 }->wpAny (model X.prog X.w) X.A (f (.int i t) (.int j u)) Q E s):
    OpR X f (rI0 λ i j=> .int (g i j)):=by
  intro pins s σ H x y v u Q I rx ry h;obtain ⟨i,j,rfl,rfl,q⟩:=h;obtain ⟨t,rfl⟩:=rx;obtain ⟨t',rfl⟩:=ry;exact rule i j t t' s _ _ ⟨.int (g i j),H,I.tok _,⟨_,rfl⟩,q⟩
theorem TN {f:Value->Value->Sem Value} {g:Int->Int->Bool}
    (rule:∀ (i j:Int) (t u:Tok) (s:Shared) (Q:Value->Shared->Prop) (E:Value->Shared->Prop),Q (.bool (g i j)) s->wpAny (model X.prog X.w) X.A (f (.int i t) (.int j u)) Q E s):
    OpR X f (rI0 λ i j=> .bl (g i j)):=by
  intro pins s σ H x y v u Q I rx ry h;obtain ⟨i,j,rfl,rfl,q⟩:=h;obtain ⟨t,rfl⟩:=rx;obtain ⟨t',rfl⟩:=ry;exact rule i j t t' s _ _ ⟨.bl (g i j),H,I,rfl,q⟩
def YD (i j:Int):Prop:=0<=j/\j<=1000000/\i.natAbs<2 ^ 64
def CMul (i j:Int):Prop:=(-(2 ^ 64)<i/\i<2 ^ 64)\/(-(2 ^ 64)<j/\j<2 ^ 64)
theorem CMul.ok {i j:Int} (h:CMul i j):IntMulOk i j:=by
  rcases h with ⟨h1,h2⟩ | ⟨h1,h2⟩
  · exact .of_left (intBits_le_64 h1 h2)
  · exact .of_right (intBits_le_64 h1 h2)
theorem Mj (k:Nat):(0:Int)<=2 ^ k:=by
  rw [two_pow_cast];exact Int.natCast_nonneg _
theorem AU:OpR X (binaryOp .Add) (rI0 λ i j=> .int (i+j)):=QG λ _ _ _ _ _ _ _ q=>add_int q
theorem E4:OpR X (binaryOp .Sub) (rI0 λ i j=> .int (i - j)):=QG λ _ _ _ _ _ _ _ q=>sub_int q
theorem Kz:OpR X (binaryOp .Mult) (rI CMul λ i j=> .int (i*j)):=opI λ _ _ _ _ _ _ _ hc q=>mul_int q hc.ok
theorem AH:OpR X (binaryOp .Mod) (rI (λ _ j=>0<j) λ i j=> .int (i%j)):=opI λ i j _ _ _ _ _ hc q=>by
  have h1:(0:Int)<j:=hc;exact mod_int' (by omega) (by rw [Int.fmod_eq_emod_of_nonneg i (by omega)];exact q)
theorem OJ:OpR X (binaryOp .Pow) (rI YD λ i j=> .int (i ^ j.toNat)):=opI λ _ _ _ _ _ _ _ hc q=>pow_int_small hc.1 hc.2.1 hc.2.2 q
theorem KH:OpR X (binaryOp .LShift) (rI YD λ i j=> .int (i*2 ^ j.toNat)):=opI λ _ _ _ _ _ _ _ hc q=>lshift_int_small hc.1 hc.2.1 hc.2.2 q
theorem S8:OpR X (binaryOp .RShift) (rI (λ _ j=>0<=j) λ i j=> .int (i / 2 ^ j.toNat)):=opI λ i j _ _ _ _ _ hc q=>
  rshift_int hc (by rw [Int.fdiv_eq_ediv_of_nonneg i (Mj _)];exact q)
theorem O3:OpR X (binaryOp .BitAnd) (rI0 λ i j=> .int (Builtin.bitAnd i j)):=QG λ _ _ _ _ _ _ _ q=>and_int q
theorem Pg:OpR X (inplaceOp .BitOr) (rI0 λ i j=> .int (Builtin.bitOr i j)):=QG λ _ _ _ _ _ _ _ q=>ior_int q
theorem unI {f:Value->Sem Value} {g:Int->Int}
    (rule:∀ (i:Int) (t:Tok) (s:Shared) (Q:Value->Shared->Prop) (E:Value->Shared->Prop),Q (.int (g i) s.toks) { s with toks:=s.toks+1 }->wpAny (model X.prog X.w) X.A (f (.int i t)) Q E s):
    UnR X f (rU λ i=> .int (g i)):=by
  intro pins s σ H x v Q I rx h;obtain ⟨i,rfl,q⟩:=h;obtain ⟨t,rfl⟩:=rx;exact rule i t s _ _ ⟨.int (g i),H,I.tok _,⟨_,rfl⟩,q⟩
theorem OD:UnR X (unaryOp .USub) (rU λ i=> .int (-i)):=unI λ _ _ _ _ _ q=>neg_int q
end
def Ti:V->V->Bool
  | .non, .non=>true | .non, .int _=>true | .int _, .non=>true | .non, .bl _=>true | .bl _, .non=>true | .non, .str _=>true | .str _, .non=>true
  | .int _, .int _=>true | .bl _, .bl _=>true | .str _, .str _=>true | .byt _, .byt _=>true
  | .int _, .str _=>true | .str _, .int _=>true | .bl _, .str _=>true | .str _, .bl _=>true
  | _,_=>false
def rEq:R2:=λ x y H Q=>Ti x y=true/\Q (.bl (decide (x=y))) H
def rNe:R2:=λ x y H Q=>Ti x y=true/\Q (.bl (!decide (x=y))) H
theorem MQ {i j:Int}:decide (V.int i=V.int j)=(i == j):=by
  rw [Ac6];simp
theorem Pi {i j:Bool}:decide (V.bl i=V.bl j)=(i == j):=by
  rw [Ac6];simp
theorem M6 {i j:Str}:decide (V.str i=V.str j)=(i == j):=by
  rw [Ac6];simp
theorem MY {i j:Array UInt8}:decide (V.byt i=V.byt j)=(i.toList == j.toList):=by
  rw [Ac6];cases i;cases j;simp
section
variable {X:Cx} {a b c:Expr} {ta tb tc:TE} {pos:Pos}
theorem AL {pins:List (Addr × Obj)} {σ:St} {H:Hp} {s:Shared} {Q:VK} {k k':Bool} (I:Inv X pins σ H s) (q:Q (.bl k) H) (e:k=k'):EP X pins σ Q (.bool k') s:=by
  subst e;exact ⟨.bl k,H,I,rfl,q⟩
theorem Bv:OpR X (compareOp .Eq) rEq:=by
  intro pins s σ H x y v u Q I rx ry h;obtain ⟨hs,q⟩:=h;cases x with
  | non=>
    cases rx;cases y with
    | non=>cases ry;exact PySem.EqNone.eq_none_none (AL I q (by simp))
    | bl j=>cases ry;exact PySem.EqNone.eq_none_bool (AL I q (by simp))
    | int j=>obtain ⟨t',rfl⟩:=ry;exact PySem.EqNone.eq_none_int (AL I q (by simp))
    | str j=>obtain ⟨t',rfl⟩:=ry;exact PySem.EqNone.eq_none_str (AL I q (by simp))
    | _=>exact absurd (show false=true from hs) Ab0
  | bl i=>
    cases rx;cases y with
    | non=>cases ry;exact PySem.EqNone.eq_bool_none (AL I q (by simp))
    | bl j=>cases ry;exact eq_bool (AL I q Pi)
    | str j=>obtain ⟨t',rfl⟩:=ry;exact PySem.EqMixed.eq_bool_str (AL I q (by simp))
    | _=>exact absurd (show false=true from hs) Ab0
  | int i=>
    obtain ⟨t,rfl⟩:=rx;cases y with
    | non=>cases ry;exact PySem.EqNone.eq_int_none (AL I q (by simp))
    | int j=>obtain ⟨t',rfl⟩:=ry;exact eq_int (AL I q MQ)
    | str j=>obtain ⟨t',rfl⟩:=ry;exact PySem.EqMixed.eq_int_str (AL I q (by simp))
    | _=>exact absurd (show false=true from hs) Ab0
  | str i=>
    obtain ⟨t,rfl⟩:=rx;cases y with
    | non=>cases ry;exact PySem.EqNone.eq_str_none (AL I q (by simp))
    | bl j=>cases ry;exact PySem.EqMixed.eq_str_bool (AL I q (by simp))
    | int j=>obtain ⟨t',rfl⟩:=ry;exact PySem.EqMixed.eq_str_int (AL I q (by simp))
    | str j=>obtain ⟨t',rfl⟩:=ry;exact eq_str (AL I q M6)
    | _=>exact absurd (show false=true from hs) Ab0
  | byt i=>
    obtain ⟨t,rfl⟩:=rx;cases y with
    | byt j=>obtain ⟨t',rfl⟩:=ry;exact PySem.W.eq_bytes (AL I q MY)
    | _=>exact absurd (show false=true from hs) Ab0
  | _=>cases y <;> exact absurd (show false=true from hs) Ab0
theorem Lt:OpR X (compareOp .NotEq) rNe:=by
  intro pins s σ H x y v u Q I rx ry h;obtain ⟨hs,q⟩:=h;cases x with
  | non=>
    cases rx;cases y with
    | non=>cases ry;exact PySem.EqNone.ne_none_none (AL I q (by simp))
    | bl j=>cases ry;exact PySem.EqNone.ne_none_bool (AL I q (by simp))
    | int j=>obtain ⟨t',rfl⟩:=ry;exact PySem.EqNone.ne_none_int (AL I q (by simp))
    | str j=>obtain ⟨t',rfl⟩:=ry;exact PySem.EqNone.ne_none_str (AL I q (by simp))
    | _=>exact absurd (show false=true from hs) Ab0
  | bl i=>
    cases rx;cases y with
    | non=>cases ry;exact PySem.EqNone.ne_bool_none (AL I q (by simp))
    | bl j=>cases ry;exact ne_bool (AL I q (congrArg not Pi))
    | str j=>obtain ⟨t',rfl⟩:=ry;exact PySem.EqMixed.ne_bool_str (AL I q (by simp))
    | _=>exact absurd (show false=true from hs) Ab0
  | int i=>
    obtain ⟨t,rfl⟩:=rx;cases y with
    | non=>cases ry;exact PySem.EqNone.ne_int_none (AL I q (by simp))
    | int j=>obtain ⟨t',rfl⟩:=ry;exact ne_int (AL I q (congrArg not MQ))
    | str j=>obtain ⟨t',rfl⟩:=ry;exact PySem.EqMixed.ne_int_str (AL I q (by simp))
    | _=>exact absurd (show false=true from hs) Ab0
  | str i=>
    obtain ⟨t,rfl⟩:=rx;cases y with
    | non=>cases ry;exact PySem.EqNone.ne_str_none (AL I q (by simp))
    | bl j=>cases ry;exact PySem.EqMixed.ne_str_bool (AL I q (by simp))
    | int j=>obtain ⟨t',rfl⟩:=ry;exact PySem.EqMixed.ne_str_int (AL I q (by simp))
    | str j=>obtain ⟨t',rfl⟩:=ry;exact ne_str (AL I q (congrArg not M6))
    | _=>exact absurd (show false=true from hs) Ab0
  | byt i=>
    obtain ⟨t,rfl⟩:=rx;cases y with
    | byt j=>obtain ⟨t',rfl⟩:=ry;exact PySem.W.ne_bytes (AL I q (congrArg not MY))
    | _=>exact absurd (show false=true from hs) Ab0
  | _=>cases y <;> exact absurd (show false=true from hs) Ab0
theorem RV:OpR X (compareOp .LtE) (rI0 λ i j=> .bl (decide (i<=j))):=TN λ _ _ _ _ _ _ _ q=>le_int q
theorem Nl:OpR X (compareOp .Gt) (rI0 λ i j=> .bl (decide (j<i))):=TN λ _ _ _ _ _ _ _ q=>gt_int q
theorem NP:OpR X (compareOp .In) (λ x y H Q=>∃ i j,x= .str i/\y= .str j/\Q (.bl (!(Builtin.Str.occurrences j i 0 j.length 1).isEmpty)) H):=by
  intro pins s σ H x y v u Q I rx ry h;obtain ⟨i,j,rfl,rfl,q⟩:=h;obtain ⟨t,rfl⟩:=rx;obtain ⟨t',rfl⟩:=ry;exact in_str (AL I q rfl)
theorem OY:OpR X (compareOp .Is) (λ x y H Q=>y= .non/\Q (.bl (decide (x= .non))) H):=by
  intro pins s σ H x y v u Q I rx ry h;obtain ⟨rfl,q⟩:=h;cases ry;refine is_none_gen (AL I q ?_);cases x <;> first
    | (cases rx;rfl)
    | (obtain ⟨t,rfl⟩:=rx;rfl)
theorem AB (b:Expr) {op:CmpOp} (h:op≠ .In:=by decide) (h2:op≠ .NotIn:=by decide):behindInMarks op b=false:=by
  have e1:(op == CmpOp.In)=false:=by cases op <;> first | rfl | exact absurd rfl h
  have e2:(op == CmpOp.NotIn)=false:=by cases op <;> first | rfl | exact absurd rfl h2
  cases b <;> simp [behindInMarks,e1,e2]
theorem BO {op:CmpOp} {r:R2} (ho:OpR X (compareOp op) r) (ha:PE X a ta) (hb:PE X b tb) (hm:behindInMarks op b=false):PE X (.Compare a [op] [b] pos) (tOp r ta tb):=by
  intro pins s σ H Q I h;exact wpAny_Compare1 (SR ha hb I h λ v u s2 x y H2 I2 rx ry q=>ho pins s2 σ H2 x y v u Q I2 rx ry q) hm
def R3 (t:TE):TT:=λ σ H Q=>t σ H λ x H'=>∃ k,x= .bl k/\Q k H'
theorem AE {op:CmpOp} {r:R2} (ho:OpR X (compareOp op) r) (ha:PE X a ta) (hb:PE X b tb) (hm:behindInMarks op b=false):PT X (.Compare a [op] [b] pos) (R3 (tOp r ta tb)):=by
  intro pins s σ H Q I h;refine wpAny_isTrue_Compare1 (thn (ha pins s σ H _ I h) λ v s1 ⟨x,H1,I1,r1,q1⟩=>thn (hb pins s1 σ H1 _ I1 q1) λ u s2 ⟨y,H2,I2,r2,q2⟩=>
    thn (ho pins s2 σ H2 x y v u _ I2 r1 r2 q2) λ c s3 ⟨z,H3,I3,r3,k,e,q3⟩=> ?_) hm
  subst e;cases r3;exact Ae5 ⟨H3,I3,q3⟩
def OI (r r':R2) (ta tb tc:TE):TE:=λ σ H Q=>ta σ H λ x H1=>tb σ H1 λ y H2=>r x y H2 λ z H3=>∃ k,z= .bl k/\
  (if k=true then tc σ H3 λ w' H4=>r' y w' H4 Q else Q (.bl false) H3)
theorem Po {op op':CmpOp} {r r':R2} (ho:OpR X (compareOp op) r) (ho':OpR X (compareOp op') r') (ha:PE X a ta) (hb:PE X b tb) (hc:PE X c tc)
    (hm:lastMarks [op,op'] [b,c]=false:=by with_unfolding_all rfl):PE X (.Compare a [op,op'] [b,c] pos) (OI r r' ta tb tc):=by
  intro pins s σ H Q I h;refine Compare_chain (thn (ha pins s σ H _ I h) λ v s1 ⟨x,H1,I1,r1,q1⟩=>chain_link (thn (hb pins s1 σ H1 _ I1 q1) λ u s2 ⟨y,H2,I2,r2,q2⟩=>
    thn (ho pins s2 σ H2 x y v u _ I2 r1 r2 q2) λ d s3 ⟨z,H3,I3,r3,k,e,q3⟩=> ?_)) hm
  subst e;cases r3;refine Ae5 ?_;cases k with
  | false=>exact ite_ff ⟨.bl false,H3,I3,rfl,q3⟩
  | true=>exact ite_tt (chain_last (thn (hc pins s3 σ H3 _ I3 q3) λ w' s4 ⟨z',H4,I4,r4,q4⟩=>ho' pins s4 σ H4 y z' u w' Q I4 r2 r4 q4))
def bY (K:PySem.W.Frag) (x:V) (H:Hp) (k:Bool):Prop:=
  match x with
  | .non=>k=false
  | .bl b=>k=b
  | .int i=>k=(i != 0)
  | .str y=>y.length<=sizeLine/\k=((y.length:Int) != 0)
  | .byt y=>y.size<=sizeLine/\k=((y.size:Int) != 0)
  | .ref p=>(∃ xs,SqL K H p xs/\k= !xs.isEmpty)\/(∃ xs,SqT K H p xs/\k= !xs.isEmpty)\/∃ kvs,H p=some (.dK kvs)/\k= !kvs.isEmpty
  | _=>False
theorem MA {κ:Type} {kvs:List (κ × V)} {vs:List (κ × Value)} (r:KV kvs vs):(!vs.isEmpty)= !kvs.isEmpty:=by
  cases r <;> rfl
theorem Io {xs:List V} {its:List Value} (r:Vals xs its):(!its.toArray.isEmpty)= !xs.isEmpty:=by
  cases r <;> simp
theorem IR:(sizeLine:Nat)<2 ^ 63:=by rw [sizeLine_eq];decide
theorem bK:bz X (λ x H Q=>∃ k,bY X.K x H k/\Q k H):=by
  intro pins s σ H x v Q I rx h;obtain ⟨k,e,q⟩:=h;have hl:=IR;have hs:sizeLine=16777216:=sizeLine_eq;cases x with
  | non=>
    cases rx;have e':k=false:=e;subst e';exact truthy_none ⟨H,I,q⟩
  | bl b=>
    cases rx;have e':k=b:=e;subst e';exact Ae5 ⟨H,I,q⟩
  | int i=>
    obtain ⟨t,rfl⟩:=rx;have e':k=(i != 0):=e;subst e';exact PySem.P.truthy_int ⟨H,I,q⟩
  | str y=>
    obtain ⟨t,rfl⟩:=rx;obtain ⟨hy,e'⟩:y.length<=sizeLine/\k=((y.length:Int) != 0):=e;subst e';exact PySem.P.truthy_str (by omega) ⟨H,I.tok _,q⟩
  | byt y=>
    obtain ⟨t,rfl⟩:=rx;obtain ⟨hy,e'⟩:y.size<=sizeLine/\k=((y.size:Int) != 0):=e;subst e';exact PySem.W.truthy_bytes (by omega) ⟨H,I.tok _,q⟩
  | ref p=>
    cases rx;have e':(∃ xs,SqL X.K H p xs/\k= !xs.isEmpty)\/(∃ xs,SqT X.K H p xs/\k= !xs.isEmpty)\/∃ kvs,H p=some (.dK kvs)/\k= !kvs.isEmpty:=e;rcases e' with ⟨xs,hx,e'⟩ | ⟨xs,hx,e'⟩ | ⟨kvs,hx,e'⟩
    · subst e';obtain ⟨its,r,pl,hz⟩:=I.list hx;have hlen:=r.length;exact wpAny_truthy_list pl.isList (by simp only [Ab2];omega) ⟨H,I.tok _,by rw [Io r];exact q⟩
    · subst e';obtain ⟨its,r,pl,hz⟩:=I.tuple hx;have hlen:=r.length;exact truthy_tuple pl (by simp only [Ab2];omega) ⟨H,I.tok _,by rw [Io r];exact q⟩
    · subst e';obtain ⟨hz,hS,vs,r,m⟩:kvs.length<=sizeLine/\(p == sysModules)=false/\∃ vs,KV kvs vs/\s.heap.DictOf (Bs X.prog X.w) p vs:=I.hok p _ hx;have hlen:kvs.length=vs.length:=Paired.length r;exact wpAny_truthy_dict hS m (by omega) ⟨H,I.tok _,by rw [MA r];exact q⟩
  | _=>exact (show False from e).elim
theorem Ic {x:V} {us:List Value} (r:Vals [x] us):∃ u,us=[u]/\RelV x u:=by
  cases r with
  | cons r1 r2=>cases r2;exact ⟨_,rfl,r1⟩
theorem PZ {x y:V} {us:List Value} (r:Vals [x,y] us):∃ u w',us=[u,w']/\RelV x u/\RelV y w':=by
  cases r with
  | cons r1 r2=>
    cases r2 with
    | cons r3 r4=>cases r4;exact ⟨_,_,rfl,r1,r3⟩
theorem N0:Cf X (.type "int") (λ xs H Q=>(∃ i,xs=[.int i]/\Q (.int i) H)\/∃ k,xs=[.bl k]/\Q (.int (if k then 1 else 0)) H):=by
  intro pins s σ H xs us Q I r h;rcases h with ⟨i,rfl,q⟩ | ⟨k,rfl,q⟩
  · obtain ⟨u,rfl,t,rfl⟩:=Ic r;exact call_int_int ⟨.int i,H,I,⟨_,rfl⟩,q⟩
  · obtain ⟨u,rfl,r1⟩:=Ic r;cases r1;exact call_int_bool ⟨.int (if k then 1 else 0),H,I.tok _,⟨_,rfl⟩,q⟩
def WD (K:PySem.W.Frag) (x:V) (H:Hp) (n:Nat):Prop:=
  match x with
  | .str y=>y.length<=sizeLine/\n=y.length
  | .byt y=>y.size<=sizeLine/\n=y.size
  | .ref p=>(∃ xs,SqL K H p xs/\n=xs.length)\/∃ xs,SqT K H p xs/\n=xs.length
  | _=>False
theorem P7:Cf X (.builtin "len") (λ xs H Q=>∃ x n,xs=[x]/\WD X.K x H n/\Q (.int n) H):=by
  intro pins s σ H xs us Q I r h;obtain ⟨x,n,rfl,e,q⟩:=h;obtain ⟨u,rfl,rx⟩:=Ic r;have hl:=IR;have hs:sizeLine=16777216:=sizeLine_eq;cases x with
  | str y=>
    obtain ⟨t,rfl⟩:=rx;obtain ⟨hy,e'⟩:y.length<=sizeLine/\n=y.length:=e;subst e';exact len_str (by omega) ⟨.int _,H,I.tok _,⟨_,rfl⟩,q⟩
  | byt y=>
    obtain ⟨t,rfl⟩:=rx;obtain ⟨hy,e'⟩:y.size<=sizeLine/\n=y.size:=e;subst e';exact PySem.W.len_bytes (by omega) ⟨.int _,H,I.tok _,⟨_,rfl⟩,q⟩
  | ref p=>
    cases rx;have e':(∃ xs,SqL X.K H p xs/\n=xs.length)\/∃ xs,SqT X.K H p xs/\n=xs.length:=e;rcases e' with ⟨xs,hx,e'⟩ | ⟨xs,hx,e'⟩
    · subst e';obtain ⟨its,r',pl,hz⟩:=I.list hx;have hlen:=r'.length;exact Calls.call_len_list pl.isList (by simp only [Ab2];omega) ⟨.int xs.length,H,I.tok _,⟨_,by simp only [Ab2];rw [hlen]⟩,q⟩
    · subst e';obtain ⟨its,r',pl,hz⟩:=I.tuple hx;have hlen:=r'.length;exact len_tuple pl (by simp only [Ab2];omega) ⟨.int xs.length,H,I.tok _,⟨_,by simp only [Ab2];rw [hlen]⟩,q⟩
  | _=>exact (show False from e).elim
end
structure ObjM (h:Heap) (x dx C:Addr) (mA:Str->Option Value):Prop where
  obj:h.get? x=some (PySem.W.instObj C dx)
  ns:h.Ns1 dx mA
  ne:dx≠x
theorem NN {h:Heap} {dx:Addr} {mA:Str->Option Value} (n:h.Ns1 dx mA):∃ od,h.get? dx=some od/\∀ name,PySem.W.lookIn name od=some (mA name):=by
  obtain ⟨o,es,ep,ho,hd,hk,_,hm⟩:=n;refine ⟨o,ho,λ name=> ?_⟩;have e:=hm name;unfold nsFind findBy at e;rw [<-Array.find?_toList] at e;unfold PySem.W.lookIn;rw [hd];dsimp only;split
  · rename_i y q
    rw [q] at e;exact congrArg some e
  · rename_i q
    rw [q] at e;have a:es.toList.any (·.refKey)=false:=by
      rw [List.any_eq_false];intro y hy;obtain ⟨z,t,hkey⟩:=hk y (Array.mem_toList_iff.mp hy);simp [DictEntry.refKey,hkey]
    have a':¬ es.toList.any (·.refKey)=true:=by rw [a];exact Ab0
    rw [if_neg a'];exact congrArg some e
theorem ObjM.look {h:Heap} {x dx C:Addr} {mA:Str->Option Value} (I:ObjM h x dx C mA):∃ od,PySem.W.InstAt h x (PySem.W.instObj C dx) C (some od)/\∀ name,PySem.W.lookIn name od=some (mA name):=
  let ⟨od,ho,hl⟩:=NN I.ns
  ⟨od,⟨I.obj,rfl,rfl,ho⟩,hl⟩
section
variable {prog:Program} {w:World} {A:Around} {E:Value->Shared->Prop} {s:Shared} {K:PySem.W.Frag} {x dx C f:Addr} {mA:Str->Option Value} {name:Str} {v:Value}
theorem Rt {expr:Bool} {Q:Value->Shared->Prop} (X:K.In s.heap) (I:ObjM s.heap x dx C mA) (hg:PySem.W.plainGet K C name=true) (hh:PySem.W.hasDictIn K C=true)
    (ha:PySem.W.findIn K (.ref C) name=some none) (hv:mA name=some v) (hv':PySem.W.handedIn v=true) (h:Q v { s with toks:=s.toks+1 }):
    wpAny (model prog w) A (getAttr (.ref x) name expr) Q E s:=by
  obtain ⟨od,J,hl⟩:=I.look;exact PySem.W.get_value X J (PySem.W.plainGet_of hg).1 (PySem.W.findObj_own hh ha rfl (by rw [hl,hv])) hv' h
theorem Ps {pl:Sem Bool} {Q:Value × List Value->Shared->Prop} (X:K.In s.heap) (I:ObjM s.heap x dx C mA) (hg:PySem.W.plainGet K C name=true)
    (hf:PySem.W.findIn K (.ref C) name=some (some (.ref f))) (ht:PySem.W.isFn K (.ref f)=true) (hv:mA name=none) (h:Q (.ref f,[.ref x]) s):
    wpAny (model prog w) A (getMethod (.ref x) name pl) Q E s:=by
  obtain ⟨od,J,hl⟩:=I.look;exact PySem.W.method_fn X J (PySem.W.plainGet_of hg).1 (PySem.W.plainGet_of hg).2 hf (beq_iff_eq.mp ht) (by show (PySem.W.lookIn name od).map (·.isSome)=some false;rw [hl,hv];rfl) h
theorem Qg {ns:List Str} {Q:Unit->Shared->Prop} (X:K.In s.heap) (I:ObjM s.heap x dx C mA)
    (hs:PySem.W.findIn K (.ref C) "__setattr__"=some (some (.builtin "object.__setattr__"))) (hp:PySem.W.plainOver K C=true) (ht:PySem.W.takerIn K C name=some none) (hh:PySem.W.hasDictIn K C=true)
    (hw:PySem.Within mA ns) (hsz:ns.length<=sizeLine)
    (h:∀ h',ObjM h' x dx C (λ y=>if y=name then some v else mA y)->Heap.SameBut dx s.heap h'->Q () { s with heap:=h',toks:=s.toks+2 }):
    wpAny (model prog w) A (setAttr (.ref x) name v) Q E s:=by
  obtain ⟨od,J,hl⟩:=I.look;refine PySem.W.set_plain X J hs (PySem.W.osa_open (s:={ s with toks:=s.toks+1 }) (r:=none) X J hp ht λ b=> ?_);obtain ⟨cd,hc,hd'⟩:=PySem.W.any_some hh;have hx:s.heap.get? x=some ⟨.ref C,some dx, .plain, #[]⟩:=I.obj;refine Aa0 (Aa5 (Aa0 (Aa0 (wpAny_loadPart hx (Aa0 (PySem.W.Looks.here (s:={ s with toks:=s.toks+1 }) (PySem.W.looks_clsIn X hc) ?_))))));rw [hd'];refine Aa5 (a:=some dx) (Aa0 (Aa5 (Aa0 ?_)));refine wpAny_nsSet1 (s:={ s with toks:=s.toks+1 }) I.ns λ h' hn2 hs2=> ?_;obtain ⟨oD,esD,epD,hoD,hdD,hcD⟩:=hn2.count (PySem.Within.cons name v hw);refine Aa0 (wpAny_lookBehind hoD (by rw [hdD];exact pastItsLine_dict (Ab8 hcD (by rw [Ac4];omega))) ?_);exact Aa5 (h _ ⟨(hs2.2 _ (Ne.symm I.ne)).trans I.obj,hn2,I.ne⟩ hs2)
theorem PD {R:Result->Shared->Prop} {vs:List Value} {kw:List (Str × Value)} (X:K.In s.heap) (hm:PySem.W.makesIn K C=true)
    (hi:PySem.W.findIn K (.ref C) "__init__"=some (some (.ref f))) (hf:PySem.W.typeIn K (.ref f)=some (.type "function"))
    (h:codeAny (model prog w) (A.under (.builtin "type.__call__" ⟨.ref C::vs,kw⟩)) (.call (.ref f) ⟨.ref (s.heap.objs.size+1)::vs,kw⟩) (PySem.W.InitBack (s.heap.objs.size+1) R)
      { s with heap:=(s.heap.push PySem.W.emptyDict).push (PySem.W.instObj C s.heap.objs.size) }):
    codeAny (model prog w) A (.call (.ref C) ⟨vs,kw⟩) R s:=by
  obtain ⟨hh,g,d,t,os⟩:=s;exact PySem.W.make_core (PySem.W.makes_of X hm) (PySem.W.looks_findIn X hi) (λ self=>PySem.W.bind_fn X self hf) (.inl rfl) h
end
def Bd (f:Str) (v:V):List (Str × V)->List (Str × V)
  | []=>[(f,v)]
  | (g,x)::r=>if g=f then (g,v)::r else (g,x)::Bd f v r
theorem Hk (f g:Str) (v:V):∀ fs:List (Str × V),(Bd f v fs).lookup g=if g=f then some v else fs.lookup g
  | []=>by
    show List.lookup g [(f,v)]=_;by_cases h:g=f
    · have hb:(g == f)=true:=beq_iff_eq.mpr h;simp only [List.lookup,hb,if_pos h]
    · have hb:(g == f)=false:=beq_eq_false_iff_ne.mpr h;simp only [List.lookup,hb,if_neg h]
  | (k,x)::r=>by
    have ih:=Hk f g v r;rw [show Bd f v ((k,x)::r)=(if k=f then (k,v)::r else (k,x)::Bd f v r) from rfl];by_cases hk:k=f
    · rw [if_pos hk];by_cases h:g=k
      · have hb:(g == k)=true:=beq_iff_eq.mpr h;simp only [List.lookup,hb,if_pos (h.trans hk)]
      · have hb:(g == k)=false:=beq_eq_false_iff_ne.mpr h;simp only [List.lookup,hb,if_neg (λ e:g=f=>h (e.trans hk.symm))]
    · rw [if_neg hk];by_cases h:g=k
      · have hb:(g == k)=true:=beq_iff_eq.mpr h;simp only [List.lookup,hb,if_neg (λ e:g=f=>hk (h.symm.trans e))]
      · have hb:(g == k)=false:=beq_eq_false_iff_ne.mpr h;simp only [List.lookup,hb];exact ih
theorem GR (f:Str) (v:V):∀ fs:List (Str × V),f∈(Bd f v fs).map (·.1)/\∀ g,g∈fs.map (·.1)->g∈(Bd f v fs).map (·.1)
  | []=>⟨by simp [Bd],λ g h=>by simp at h⟩
  | (k,x)::r=>by
    obtain ⟨i1,i2⟩:=GR f v r;rw [show Bd f v ((k,x)::r)=(if k=f then (k,v)::r else (k,x)::Bd f v r) from rfl];by_cases hk:k=f
    · rw [if_pos hk];subst hk;exact ⟨by simp,λ g h=>by simpa using h⟩
    · rw [if_neg hk];refine ⟨?_,λ g h=> ?_⟩
      · rw [Ag3];exact Ad3 _ i1
      · rw [Ag3] at h ⊢;rcases Ab5.mp h with e | e
        · exact Ab5.mpr (.inl e)
        · exact Ad3 _ (i2 g e)
theorem Hh (f:Str) (v:V):∀ fs:List (Str × V),(Bd f v fs).length<=fs.length+1
  | []=>by simp [Bd]
  | (k,x)::r=>by
    have ih:=Hh f v r;rw [show Bd f v ((k,x)::r)=(if k=f then (k,v)::r else (k,x)::Bd f v r) from rfl];by_cases hk:k=f
    · rw [if_pos hk,Ac4,Ac4];omega
    · rw [if_neg hk,Ac4,Ac4];omega
theorem RelO.some_of {v:V} {o:Option Value} (r:RelO (some v) o):∃ u,o=some u/\RelV v u:=by
  cases o with
  | none=>exact (show False from r).elim
  | some u=>exact ⟨u,rfl,r⟩
theorem RelO.none_of {o:Option Value} (r:RelO none o):o=none:=by
  cases o with
  | none=>rfl
  | some u=>exact (show False from r).elim
theorem NO {v:V} {u:Value} (r:RelV v u):PySem.W.handedIn u=true:=by
  cases v with
  | non=>cases (show u=Value.none from r);rfl
  | bl b=>cases (show u=Value.bool b from r);rfl
  | int i=>obtain ⟨t,e⟩:=(show ∃ t,u=Value.int i t from r);cases e;rfl
  | str x=>obtain ⟨t,e⟩:=(show ∃ t,u=Value.str x t from r);cases e;rfl
  | byt b=>obtain ⟨t,e⟩:=(show ∃ t,u=Value.bytes b t from r);cases e;rfl
  | flt b=>obtain ⟨t,e⟩:=(show ∃ t,u=Value.float b t from r);cases e;rfl
  | ref a=>cases (show u=Value.ref a from r);rfl
  | ty n=>cases (show u=Value.type n from r);rfl
section
variable {P:Program} {w:World} {H H':Hp} {h h':Heap} {a C dx:Addr} {fs fs':List (Str × V)}
theorem Gv (hok:HOk P w H h) (e:H a=some (.ins C dx fs)):∃ mA,ObjM h a dx C mA/\(∀ f,RelO (fs.lookup f) (mA f))/\PySem.Within mA (fs.map (·.1))/\fs.length<=1000/\H dx=some (.own a):=by
  obtain ⟨d,z,ne,ob,mA,n,r,q⟩:=(show ObjOk P w H h a (.ins C dx fs) from hok a _ e);exact ⟨mA,⟨ob,n,ne⟩,r,q,z,d⟩
end
structure Cls (K:PySem.W.Frag) (C:Addr):Prop where
  pg:PySem.W.plainGet K C Str.empty=true
  hd:PySem.W.hasDictIn K C=true
  po:PySem.W.plainOver K C=true
  sa:PySem.W.findIn K (.ref C) "__setattr__"=some (some (.builtin "object.__setattr__"))
theorem Cls.get {K:PySem.W.Frag} {C:Addr} (c:Cls K C) (f:Str):PySem.W.plainGet K C f=true:=c.pg
def NoAttr (K:PySem.W.Frag) (C:Addr) (f:Str):Prop:=PySem.W.findIn K (.ref C) f=some none
theorem NoAttr.taker {K:PySem.W.Frag} {C:Addr} {f:Str} (n:NoAttr K C f):PySem.W.takerIn K C f=some none:=by
  unfold PySem.W.takerIn;rw [show PySem.W.findIn K (.ref C) f=some none from n];rfl
structure Con (K:PySem.W.Frag) (C:Addr) (f:Str) (v:V) (u:Value):Prop where
  at_:PySem.W.findIn K (.ref C) f=some (some u)
  rel:RelV v u
  get:PySem.W.specialIn K u "__get__"=some none
  cp:PySem.W.copiedNames.contains f=false
structure Meth (K:PySem.W.Frag) (C:Addr) (m:Str) (f:Addr):Prop where
  at_:PySem.W.findIn K (.ref C) m=some (some (.ref f))
  fn:PySem.W.isFn K (.ref f)=true
  kp:PySem.W.keepIn K (.ref f)=true
section
variable {X:Cx} {pins:List (Addr × Obj)} {σ:St} {H:Hp} {s:Shared} {a C dx:Addr} {fs:List (Str × V)} {f:Str} {v:V} {A:Around} {E:Value->Shared->Prop}
theorem MI {b:Bool} {Q:Value->Shared->Prop} (I:Inv X pins σ H s) (e:H a=some (.ins C dx fs)) (c:Cls X.K C) (n:NoAttr X.K C f) (l:fs.lookup f=some v)
    (h:∀ u s',Inv X pins σ H s'->RelV v u->Q u s'):wpAny (model X.prog X.w) A (getAttr (.ref a) f b) Q E s:=by
  obtain ⟨mA,O,r,_,_,_⟩:=Gv I.hok e;obtain ⟨u,hu,ru⟩:=RelO.some_of (v:=v) (o:=mA f) (by rw [<-l];exact r f);exact Rt I.kIn O (c.get f) c.hd n hu (NO ru) (h u _ (I.tok _) ru)
theorem F4 {m:Str} {g:Addr} {pl:Sem Bool} {Q:Value × List Value->Shared->Prop} (I:Inv X pins σ H s) (e:H a=some (.ins C dx fs)) (c:Cls X.K C) (k:Meth X.K C m g) (l:fs.lookup m=none)
    (h:Q (.ref g,[.ref a]) s):wpAny (model X.prog X.w) A (getMethod (.ref a) m pl) Q E s:=by
  obtain ⟨mA,O,r,_,_,_⟩:=Gv I.hok e;have hn:mA m=none:=RelO.none_of (by rw [<-l];exact r m);exact Ps I.kIn O (c.get m) k.at_ k.fn hn h
theorem Md {y:V} {u:Value} {Q:Unit->Shared->Prop} (I:Inv X pins σ H s) (e:H a=some (.ins C dx fs)) (c:Cls X.K C) (n:NoAttr X.K C f) (hl:fs.length<1000) (ry:RelV y u)
    (h:∀ s',Inv X pins σ (upd H a (.ins C dx (Bd f y fs))) s'->Q () s'):wpAny (model X.prog X.w) A (setAttr (.ref a) f u) Q E s:=by
  obtain ⟨mA,O,r,wi,_,ho⟩:=Gv I.hok e;have hz:(fs.map (·.1)).length<=sizeLine:=by rw [Aa2,sizeLine_eq];omega
  refine Qg I.kIn O c.sa c.po n.taker c.hd wi hz λ h' O' sb=>h _ ?_;have hd:∃ o,h'.get? dx=some o:=let ⟨o,_,_,e',_⟩:=O'.ns;⟨o,e'⟩;refine I.write (x:=a) (e:=dx) (by rw [e];exact True.intro) (.inr ho) (λ b q hb z=>(sb.2 b hb).trans z) hd ?_;refine ⟨by rw [Ak O.ne];exact ho,?_,O.ne,O'.obj,_,O'.ns,λ g=> ?_,λ g hg=> ?_⟩
  · have:=Hh f y fs;omega
  · show RelO ((Bd f y fs).lookup g) (if g=f then some u else mA g);rw [Hk];by_cases q:g=f
    · rw [if_pos q,if_pos q];exact ry
    · rw [if_neg q,if_neg q];exact r g
  · by_cases q:g=f
    · rw [q];exact (GR f y fs).1
    · refine (GR f y fs).2 g (wi g λ z=>hg ?_);show (if g=f then some u else mA g)=none;rw [if_neg q];exact z
theorem Inv.made (I:Inv X pins σ H s):Inv X pins σ (upd (upd H s.heap.objs.size (.own (s.heap.objs.size+1))) (s.heap.objs.size+1) (.ins C s.heap.objs.size []))
    { s with heap:=(s.heap.push PySem.W.emptyDict).push (PySem.W.instObj C s.heap.objs.size) }:=by
  have e1:(s.heap.push PySem.W.emptyDict).get? s.heap.objs.size=some PySem.W.emptyDict:=Aa8 s.heap rfl;have e2:((s.heap.push PySem.W.emptyDict).push (PySem.W.instObj C s.heap.objs.size)).get? (s.heap.objs.size+1)=some (PySem.W.instObj C s.heap.objs.size):=by
    have:=Aa8 (s.heap.push PySem.W.emptyDict) (o:=PySem.W.instObj C s.heap.objs.size) rfl
    rwa [Ae4] at this
  have e3:(s.heap.push PySem.W.emptyDict).Ns s.heap.objs.size (λ _=>none):=⟨PySem.W.emptyDict, #[],_,e1,rfl,(λ e he=>absurd he (by simp)),λ _=>rfl⟩;have I1:=I.laid (a:=s.heap.objs.size) (o:= .own (s.heap.objs.size+1)) (h':=s.heap.push PySem.W.emptyDict) (t':=s.toks) (λ b u q=>Aa1 _ q) (Aa7 _) ⟨_,e1⟩;refine I1.laid (a:=s.heap.objs.size+1) (o:= .ins C s.heap.objs.size []) (t':=s.toks) (λ b u q=>Aa1 _ q) (Nat.le_of_eq (Ae4 _ _)) ?_;have ne:s.heap.objs.size≠s.heap.objs.size+1:=Ac2 (Nat.lt_succ_self _);refine ⟨by rw [Ak ne,Ae],Nat.zero_le _,ne,e2,λ _=>none,(Heap.Ns1.of_empty e3).at λ o q=>Aa1 _ q,λ _=>True.intro,λ y hy=>absurd rfl hy⟩
theorem Ro {prog:Program} {w:World} {env:Env} {e:Expr} {f:Str} {pos:Pos} {s:Shared} {Q:Value->Shared->Prop} (hb:attributeBase e f env (eval e env)=eval e env)
    (h:wpAny (model prog w) A (eval e env) (λ o s₁=>wpAny (model prog w) A (getAttr o f true) Q E s₁) E s):wpAny (model prog w) A (eval (.Attribute e f pos) env) Q E s:=
  Attribute_any_ h (by rw [arm_eval_Attribute,hb])
end
def Tt (K:PySem.W.Frag) (ta:TE) (f:Str):TE:=λ σ H Q=>ta σ H λ x H1=>∃ a C dx fs v,x= .ref a/\H1 a=some (.ins C dx fs)/\Cls K C/\NoAttr K C f/\fs.lookup f=some v/\Q v H1
def X4 (K:PySem.W.Frag) (ta tv:TE) (f:Str):TS:=λ D σ H=>tv σ H λ y H1=>ta σ H1 λ x H2=>∃ a C dx fs,x= .ref a/\H2 a=some (.ins C dx fs)/\Cls K C/\NoAttr K C f/\fs.length<1000/\
  D.nx σ (upd H2 a (.ins C dx (Bd f y fs)))
section
variable {X:Cx} {o e value:Expr} {f:Str} {pos pos' tpos:Pos} {ta tv:TE}
theorem Ta (he:PE X e ta) (hb:attributeBase e f X.env (eval e X.env)=eval e X.env):PE X (.Attribute e f pos) (Tt X.K ta f):=by
  intro pins s σ H Q I h;refine Ro hb (thn (he pins s σ H _ I h) λ u s1 ⟨x,H1,I1,rx,a,C,dx,fs,v,ex,ea,c,n,l,q⟩=> ?_);subst ex;obtain rfl:u=Value.ref a:=rx;exact MI I1 ea c n l λ u' s2 I2 ru=>⟨v,H1,I2,ru,q⟩
theorem CO (ha:PE X o ta) (hv:PE X value tv) (hs:swapsWith value (some (.Attribute o f pos')) pos.line X.env=pure false):PS X (.Assign [.Attribute o f pos'] value pos) (X4 X.K ta tv f):=by
  intro pins s σ H D I h;refine plainObj_wpAny_Assign_Attribute (thn (hv pins s σ H _ I h) λ u s1 ⟨y,H1,I1,ry,q⟩=>thn (ha pins s1 σ H1 _ I1 q) λ ov s2 ⟨x,H2,I2,rx,a,C,dx,fs,ex,ea,c,n,l,q2⟩=> ?_) hs;subst ex;obtain rfl:ov=Value.ref a:=rx;exact Md I2 ea c n l ry λ s3 I3=>⟨σ,_,I3,q2⟩
theorem RX {pl:Sem Bool} {m:Str} {apos:Pos} {args:List Expr} {pins:List (Addr × Obj)} {s:Shared} {σ:St} {H:Hp} {Q:Value->Shared->Prop} {te:TE} (he:PE X e te) (I:Inv X pins σ H s)
    (h:te σ H λ x H1=>∃ a C dx fs g,x= .ref a/\H1 a=some (.ins C dx fs)/\Cls X.K C/\Meth X.K C m g/\fs.lookup m=none/\
      ∀ s1,Inv X pins σ H1 s1->wpAny (model X.prog X.w) X.A (callWith pos (.ref g) [.ref a] (backTo pos (starEach args X.env)) (backToKw pos (keywordEach [] X.env))) Q X.xe s1)
    (ht:eval (.Call (.Attribute e m apos) args [] pos) X.env=(do
      let ov <-eval e X.env
      standAt apos.atName
      let (f,first) <-holding [ov] (getMethod ov m pl)
      callWith pos f first (backTo pos (starEach args X.env)) (backToKw pos (keywordEach [] X.env)))):
    wpAny (model X.prog X.w) X.A (eval (.Call (.Attribute e m apos) args [] pos) X.env) Q X.xe s:=by
  refine PySem.W.methodCall_KW (pl:=pl) (thn (he pins s σ H _ I h) λ u s1 ⟨x,H1,I1,rx,a,C,dx,fs,g,ex,ea,c,k,l,q⟩=> ?_) ht;subst ex;obtain rfl:u=Value.ref a:=rx;exact F4 I1 ea c k l (q s1 I1)
end
section
variable {X:Cx} {pins:List (Addr × Obj)} {σ:St} {H:Hp} {s:Shared} {A:Around} {E:Value->Shared->Prop} {Q:Value->Shared->Prop} {c:Value} {b:Bool}
inductive TyOf (K:PySem.W.Frag) (H:Hp):V->Value->Prop where
  | non:TyOf K H .non (.type "NoneType")
  | bl (x:Bool):TyOf K H (.bl x) (.type "bool")
  | int (i:Int):TyOf K H (.int i) (.type "int")
  | str (x:Str):TyOf K H (.str x) (.type "str")
  | flt (x:UInt64):TyOf K H (.flt x) (.type "float")
  | lst {a:Addr} {xs:List V} (e:H a=some (.lst xs)):TyOf K H (.ref a) (.type "list")
  | frz {a:Addr} {o:Obj} {xs:List V} (e:H a=some (.frz o (.lst xs))):TyOf K H (.ref a) (.type "list")
  | tup {a:Addr} {xs:List V} (e:H a=some (.tup xs)):TyOf K H (.ref a) (.type "tuple")
  | dK {a:Addr} {kvs:List (Key × V)} (e:H a=some (.dK kvs)):TyOf K H (.ref a) (.type "dict")
  | dT {a:Addr} {kvs:List (List Key × V)} (e:H a=some (.dT kvs)):TyOf K H (.ref a) (.type "dict")
  | ins {a C dx:Addr} {fs:List (Str × V)} (e:H a=some (.ins C dx fs)) (cl:Cls K C) (ha:PySem.W.findIn K (.ref C) "__class__"=some (some (.builtin "object.__class__")))
      (hn:PySem.W.specialIn K (.builtin "object.__class__") "__get__"=some (some (.builtin "getset_descriptor.__get__"))) (htk:PySem.W.takesIn K (.builtin "object.__class__")=some true)
      (hm:PySem.W.mroIn K C (.type "object")=some true):TyOf K H (.ref a) (.ref C)
theorem Km {x:V} {u t:Value} (I:Inv X pins σ H s) (rx:RelV x u) (ty:TyOf X.K H x t) (e:PySem.W.kitOne X.K t c=some b) (h:∀ tk,Q (.bool b) { s with toks:=tk }):
    wpAny (model X.prog X.w) A (call (.builtin "isinstance") [u,c]) Q E s:=by
  cases ty with
  | non=>cases (show u=Value.none from rx);exact PySem.W.kia_one PySem.W.kitx_none I.kIn True.intro e (λ z=>nomatch z) h
  | bl y=>cases (show u=Value.bool y from rx);exact PySem.W.kia_one PySem.W.kitx_bool I.kIn True.intro e (λ z=>nomatch z) h
  | int i=>obtain ⟨t,q⟩:=(show ∃ t,u=Value.int i t from rx);cases q;exact PySem.W.kia_one PySem.W.kitx_int I.kIn True.intro e (λ z=>nomatch z) h
  | str y=>obtain ⟨t,q⟩:=(show ∃ t,u=Value.str y t from rx);cases q;exact PySem.W.kia_one PySem.W.kitx_str I.kIn True.intro e (λ z=>nomatch z) h
  | flt y=>obtain ⟨t,q⟩:=(show ∃ t,u=Value.float y t from rx);cases q;exact PySem.W.kia_one PySem.W.kitx_float I.kIn True.intro e (λ z=>nomatch z) h
  | @lst a xs ea=>
    cases (show u=Value.ref a from rx);obtain ⟨_,_,n,_,h1⟩:=(show ObjOk X.prog X.w H s.heap a (.lst xs) from I.hok a _ ea);exact PySem.W.kia_one PySem.W.kitx_list I.kIn ⟨_,h1,rfl⟩ e (λ z=>nomatch z) h
  | @frz a ob xs ea=>
    cases (show u=Value.ref a from rx);obtain ⟨_,_,_,n,_,h1⟩:=(show ObjOk X.prog X.w H s.heap a (.frz ob (.lst xs)) from I.hok a _ ea);exact PySem.W.kia_one PySem.W.kitx_list I.kIn ⟨_,h1,rfl⟩ e (λ z=>nomatch z) h
  | @tup a xs ea=>
    cases (show u=Value.ref a from rx);obtain ⟨_,_,_,p⟩:=(show ObjOk X.prog X.w H s.heap a (.tup xs) from I.hok a _ ea);obtain ⟨o,h1,h2,_⟩:=p;exact PySem.W.kia_one PySem.W.kitx_tuple I.kIn ⟨o,h1,h2⟩ e (λ z=>nomatch z) h
  | @dK a kvs ea=>
    cases (show u=Value.ref a from rx);obtain ⟨_,_,vs,_,p⟩:=(show ObjOk X.prog X.w H s.heap a (.dK kvs) from I.hok a _ ea);obtain ⟨o,es,ep,h1,h2,_⟩:=p;exact PySem.W.kia_one PySem.W.kitx_dict I.kIn ⟨o,h1,h2.1⟩ e (λ z=>nomatch z) h
  | @dT a kvs ea=>
    cases (show u=Value.ref a from rx);obtain ⟨_,_,xs,_,o,es,ep,h1,h2,_⟩:=(show ObjOk X.prog X.w H s.heap a (.dT kvs) from I.hok a _ ea);exact PySem.W.kia_one PySem.W.kitx_dict I.kIn ⟨o,h1,h2.1⟩ e (λ z=>nomatch z) h
  | @ins a C dx fs ea cl ha hn htk hm=>
    cases (show u=Value.ref a from rx);obtain ⟨mA,O,_⟩:=Gv I.hok ea;obtain ⟨od,J,_⟩:=O.look;exact PySem.W.kia_one (PySem.W.kitx_own (cl.get _) cl.hd ha hn htk hm) I.kIn J e (λ z=>nomatch z) h
end
structure Room (k:Nat) (A:Around):Prop where
  hd:A.handled=none
  dp:A.depth+3*k+5<recursionLimit
  un:A.units+16*k+200<cLine
theorem Room.mono {j k:Nat} {A:Around} (r:Room k A) (h:j<=k):Room j A:=⟨r.hd,by have:=r.dp;omega,by have:=r.un;omega⟩
theorem Room.deeper {k:Nat} {A:Around} (r:Room (k+1) A) (env:Env):Room k (A.deeper env):=
  ⟨r.hd,by have:=r.dp;show A.depth+1+3*k+5<_;omega,by have:=r.un;show A.units+3+16*k+200<_;omega⟩
theorem Mr {A:Around} {C:Addr} {us:List Value} {kw:List (Str × Value)}:(A.under (.builtin "type.__call__" ⟨.ref C::us,kw⟩)).depth=A.depth+1:=by
  first | rfl | simp [Around.under,Code.weight,Code.isCreation,Code.isGuard,Code.isCaller,Code.frames,Code.isFrame,guardIds]
theorem My {A:Around} {C:Addr} {us:List Value} {kw:List (Str × Value)}:(A.under (.builtin "type.__call__" ⟨.ref C::us,kw⟩)).units=A.units+1:=by
  first | rfl | simp [Around.under,Code.cUnits,Code.frames,Code.isFrame]
theorem Room.make {k:Nat} {A:Around} (r:Room (k+1) A) (C:Addr) (us:List Value) (kw:List (Str × Value)):Room k (A.under (.builtin "type.__call__" ⟨.ref C::us,kw⟩)):=
  ⟨r.hd,by have:=r.dp;rw [Mr];omega,by have:=r.un;rw [My];omega⟩
theorem Room.depth {k:Nat} {A:Around} (r:Room k A):A.depth<recursionLimit:=by have:=r.dp;omega
theorem Room.units {k:Nat} {A:Around} (r:Room k A):A.units+64<cLine:=by have:=r.un;omega
theorem Room.units0 {k:Nat} {A:Around} (r:Room k A):A.units<cLine:=by have:=r.un;omega
def Pd:TA:=λ _ H Q=>Q [] H
def Sd (ta:TE) (tr:TA):TA:=λ σ H Q=>ta σ H λ x H1=>tr σ H1 λ xs H2=>Q (x::xs) H2
section
variable {X:Cx} {e:Expr} {es:List Expr} {te:TE} {t:TA} {pos:Pos}
theorem Ab:PA X [] Pd:=λ _ _ _ _ H Q I h=>Calls.spliced_nil ⟨[],H,I, .nil,h⟩
theorem Aa (ha:PE X e te) (hr:PA X es t) (hs:starEach (e::es) X.env=(false,eval e X.env)::starEach es X.env:=by rfl):PA X (e::es) (Sd te t):=by
  intro pos pins s σ H Q I h;rw [hs];show wpAny _ _ (spliced ((false,eval e X.env)::backTo pos (starEach es X.env))) _ _ s;refine Calls.spliced_cons (thn (ha pins s σ H _ I h) λ u s1 ⟨x,H1,I1,r1,q1⟩=> ?_);exact thn (hr pos pins s1 σ H1 _ I1 q1) λ us s2 ⟨xs,H2,I2,r2,q2⟩=>⟨x::xs,H2,I2, .cons r1 r2,q2⟩
def UB (t:TA):TE:=λ σ H Q=>t σ H λ xs H1=>xs.length<=sizeLine/\∀ p,H1 p=none->Q (.ref p) (upd H1 p (.tup xs))
def Y5 (t:TA):TE:=λ σ H Q=>t σ H λ xs H1=>xs.length<=sizeLine/\∀ p,H1 p=none->Q (.ref p) (upd H1 p (.lst xs))
theorem A2 {x1} (h:PA X es t):PE X (.Tuple es x1 pos) (UB t):=by
  intro pins s σ H Q I hq;refine wpAny_Tuple_spliced (thn (h pos pins s σ H _ I hq) λ us s1 ⟨xs,H1,I1,r,z,q⟩=>⟨by rw [<-r.length];exact z,?_⟩);have hf:H1 s1.heap.objs.size=none:=I1.hok.fresh (Aa7 _);refine ⟨.ref s1.heap.objs.size,upd H1 s1.heap.objs.size (.tup xs),I1.laid (t':=s1.toks) (λ b u e=>Aa1 _ e) (Aa7 _) ?_,rfl,q _ hf⟩;exact ⟨z,us,r,⟨_,Aa8 _ rfl,rfl,_,rfl⟩⟩
theorem Ar (h:PA X es t):PE X (.List es pos) (Y5 t):=by
  intro pins s σ H Q I hq;refine wpAny_List_spliced (thn (h pos pins s σ H _ I hq) λ us s1 ⟨xs,H1,I1,r,z,q⟩=>⟨by rw [<-r.length];exact z,?_⟩);have hf:H1 s1.heap.objs.size=none:=I1.hok.fresh (Aa7 _);refine ⟨.ref s1.heap.objs.size,upd H1 s1.heap.objs.size (.lst xs),I1.laid (t':=s1.toks) (λ b u e=>Aa1 _ e) (Aa7 _) ?_,rfl,q _ hf⟩;exact ⟨z,us,0,r,Aa8 _ rfl⟩
end
abbrev Sp:=List V->Hp->VK->XK->Prop
abbrev CXT:=List Env->Hp->Shared->XK->Value->Shared->Prop
structure Env0 (P:Program) (w:World) (K:PySem.W.Frag) (mg:Str->Option Value) (base:Heap) (A:Around) (outer:List Env) (s:Shared) (H:Hp):Prop where
  frames:A.frames=some outer
  mod:Mod K mg base
  bs:∀ b o,base.get? b=some o->s.heap.get? b=some o/\H b=none
  bsz:base.objs.size<=s.heap.objs.size
  funs:s.heap.FunFrames base outer
  frf:∀ b∈frs outer,H b=none
  hok:HOk P w H s.heap
  bare:AllBare s.gens
def CE (outer:List Env) (P:Program) (w:World) (H:Hp) (s:Shared) (Q:VK) (u:Value) (s':Shared):Prop:=
  ∃ v H',s'.os=s.os/\AllBare s'.gens/\Un (frs outer) [] H H' s.heap s'.heap/\HOk P w H' s'.heap/\RelV v u/\Q v H'
def CR (CX:CXT) (outer:List Env) (P:Program) (w:World) (H:Hp) (s:Shared) (Q:VK) (E:XK) (r:Result) (s':Shared):Prop:=
  match r with
  | .ok (.ret u)=>CE outer P w H s Q u s'
  | .ok _=>False
  | .error e=>CX outer H s E e s'
structure FnOk (P:Program) (w:World) (K:PySem.W.Frag) (mg:Str->Option Value) (base:Heap) (CX:CXT) (k:Nat) (f:Addr) (fd:FuncData) (ps:List Str) (sp:Sp):Prop where
  len:∀ vs H Q E,sp vs H Q E->vs.length=ps.length
  run:∀ (A:Around) (outer:List Env) (s:Shared) (H:Hp) (args:Args) (us:List Value) (vs:List V) (Q:VK) (E:XK),Room k A->Env0 P w K mg base A outer s H->BindsTo s fd args (ps.zip us)->Vals vs us->sp vs H Q E->
    codeAny (model P w) A (.call (.ref f) args) (CR CX outer P w H s Q E) s
theorem Env0.make {P:Program} {w:World} {K:PySem.W.Frag} {mg:Str->Option Value} {base:Heap} {A:Around} {outer:List Env} {s:Shared} {H:Hp} (e:Env0 P w K mg base A outer s H) (C:Addr) (us:List Value) (kw:List (Str × Value)):
    Env0 P w K mg base (A.under (.builtin "type.__call__" ⟨.ref C::us,kw⟩)) outer s H:=⟨by first | exact e.frames | (simpa [Around.under,Code.envs,Code.isFrame,pushEnvs] using e.frames),e.mod,e.bs,e.bsz,e.funs,e.frf,e.hok,e.bare⟩
section
variable {X:Cx} {pins:List (Addr × Obj)} {σ:St} {H:Hp} {s s':Shared}
theorem Inv.env0 (I:Inv X pins σ H s):Env0 X.prog X.w X.K X.mg X.base X.A X.stack s H:=
  ⟨I.ok.frames,I.ok.mod,I.bs,Ab8 I.ok.bsz I.sz,I.stack,I.stkFree,I.hok,I.bare⟩
theorem Inv.after {Q:VK} {u:Value} (I:Inv X pins σ H s) (h:CE X.stack X.prog X.w H s Q u s'):EP X pins σ Q u s':=by
  obtain ⟨v,H',os,bare,un,hok,r,q⟩:=h;obtain ⟨hh,g,d,t,os'⟩:=s';obtain rfl:os'=s.os:=os;exact ⟨v,H',I.call (h':=hh) (g':=g) (d':=d) (t':=t) (ch:=[]) un hok bare (λ b z=>absurd z (by simp)),r,q⟩
end
def Lb (sp:Sp) (dvs:List V) (E:XK) (t:TA):TE:=λ σ H Q=>t σ H λ vs H1=>sp (vs++dvs) H1 Q E
def FL (C:Addr) (m:Str) (sp:Sp) (dvs:List V) (E:XK) (ta:TE) (t:TA):TE:=λ σ H Q=>ta σ H λ x H1=>∃ a dx fs,x= .ref a/\H1 a=some (.ins C dx fs)/\fs.lookup m=none/\
  t σ H1 λ vs H2=>sp (x::(vs++dvs)) H2 Q E
def Ko (C:Addr) (sp:Sp) (dvs:List V) (E:XK) (t:TA):TE:=λ σ H Q=>t σ H λ vs H1=>∀ x dx,H1 x=none->H1 dx=none->dx≠x->
  sp (.ref x::(vs++dvs)) (upd (upd H1 dx (.own x)) x (.ins C dx [])) (λ v H2=>v= .non/\Q (.ref x) H2) E
def Binds (K:PySem.W.Frag) (fd:FuncData) (ps:List Str) (ds:List Value):Prop:=
  ∀ (s:Shared) (us:List Value),K.In s.heap->(us++ds).length=ps.length->BindsTo s fd ⟨us,[]⟩ (ps.zip (us++ds))
theorem Binds.all {K:PySem.W.Frag} {fd:FuncData} {ps:List Str} (h:∀ us:List Value,us.length=ps.length->bindArgs fd ⟨us,[]⟩=pure (ps.zip us)):Binds K fd ps []:=λ s us _ hl=>by
  rw [List.append_nil] at hl ⊢;exact .of_eq (h us hl)
def BP (CX:CXT) (X:Cx) (E:XK):Prop:=∀ (pins:List (Addr × Obj)) (σ:St) (H:Hp) (s:Shared) (e:Value) (s':Shared),Inv X pins σ H s->CX X.stack H s E e s'->X.xe e s'
section
variable {X:Cx} {CX:CXT} {k:Nat} {f C:Addr} {fd:FuncData} {ps:List Str} {sp:Sp} {dvs:List V} {ds:List Value} {E:XK} {x m:Str} {p pos apos:Pos} {e o:Expr} {es:List Expr} {ta:TE} {t:TA}
theorem Mp {pins:List (Addr × Obj)} {σ:St} {H:Hp} {s:Shared} {Q:VK} {us:List Value} {vs:List V} (F:FnOk X.prog X.w X.K X.mg X.base CX k f fd ps sp) (hr:Room k X.A) (hb:Binds X.K fd ps ds) (hd:Vals dvs ds) (hx:BP CX X E)
    (I:Inv X pins σ H s) (r:Vals vs us) (h:sp (vs++dvs) H Q E):wpAny (model X.prog X.w) X.A (call (.ref f) us) (EP X pins σ Q) X.xe s:=by
  have r2:Vals (vs++dvs) (us++ds):=r.append hd;have hl:(us++ds).length=ps.length:=by rw [<-r2.length];exact F.len _ _ _ _ h
  refine wpAny_call (codeAny_mono (F.run X.A X.stack s H ⟨us,[]⟩ (us++ds) (vs++dvs) Q E hr I.env0 (hb s us I.kIn hl) r2 h) λ r s' hq=> ?_);cases r with
  | error e=>exact hx pins σ H s e s' I hq
  | ok fl=>
    cases fl with
    | ret u=>exact I.after hq
    | next=>exact False.elim hq
    | brk=>exact False.elim hq
    | cont=>exact False.elim hq
theorem Nm (F:FnOk X.prog X.w X.K X.mg X.base CX k f fd ps sp) (hr:Room k X.A) (hg:Gl X x) (hm:X.mg x=some (.ref f)) (hk:PySem.W.keepIn X.K (.ref f)=true) (hb:Binds X.K fd ps ds) (hd:Vals dvs ds) (hx:BP CX X E)
    (ha:PA X (e::es) t) (hdb:(x == ("__debug__":Str))=false:=by decide) (he:starEach (e::es) X.env=(false,eval e X.env)::starEach es X.env:=by rfl) (hpl:(backTo pos (starEach es X.env)).any (·.1)=false:=by rfl):
    PE X (.Call (.Name x p) (e::es) [] pos) (Lb sp dvs E t):=by
  intro pins s σ H Q I h;refine Ag9 (HY I hg hm ?_ hdb);refine PySem.W.callWith_K (h₀:=X.base) I.ok.mod.kin hk (thn (ha pos pins s σ H _ I h) λ us s1 ⟨vs,H1,I1,r,q⟩=>⟨I1.kIn,?_⟩) he hpl;exact Mp F hr hb hd hx I1 r q
theorem MT {pl:Sem Bool} (he:PE X o ta) (c:Cls X.K C) (hm:Meth X.K C m f) (F:FnOk X.prog X.w X.K X.mg X.base CX k f fd ps sp) (hr:Room k X.A) (hb:Binds X.K fd ps ds) (hd:Vals dvs ds) (hx:BP CX X E) (ha:PA X (e::es) t)
    (hst:starEach (e::es) X.env=(false,eval e X.env)::starEach es X.env:=by rfl) (hpl:(backTo pos (starEach es X.env)).any (·.1)=false:=by rfl)
    (ht:eval (.Call (.Attribute o m apos) (e::es) [] pos) X.env=(do
      let ov <-eval o X.env
      standAt apos.atName
      let (f,first) <-holding [ov] (getMethod ov m pl)
      callWith pos f first (backTo pos (starEach (e::es) X.env)) (backToKw pos (keywordEach [] X.env))):=by rfl):
    PE X (.Call (.Attribute o m apos) (e::es) [] pos) (FL C m sp dvs E ta t):=by
  intro pins s σ H Q I h;refine PySem.W.methodCall_KW (pl:=pl) (thn (he pins s σ H _ I h) λ u s1 ⟨x,H1,I1,rx,a,dx,fs,ex,ea,l,q⟩=> ?_) ht;subst ex;obtain rfl:u=Value.ref a:=rx;refine F4 I1 ea c hm l ?_;refine PySem.W.callWith_K (first:=[.ref a]) (h₀:=X.base) I.ok.mod.kin hm.kp (thn (ha pos pins s1 σ H1 _ I1 q) λ us s2 ⟨vs,H2,I2,r,q2⟩=>⟨I2.kIn,?_⟩) hst hpl;exact Mp (us:= .ref a::us) (vs:= .ref a::vs) F hr hb hd hx I2 (.cons rfl r) q2
theorem La {pl:Sem Bool} (he:PE X o ta) (c:Cls X.K C) (hm:Meth X.K C m f) (F:FnOk X.prog X.w X.K X.mg X.base CX k f fd ps sp) (hr:Room k X.A) (hb:Binds X.K fd ps ds) (hd:Vals dvs ds) (hx:BP CX X E)
    (ht:eval (.Call (.Attribute o m apos) [] [] pos) X.env=(do
      let ov <-eval o X.env
      standAt apos.atName
      let (f,first) <-holding [ov] (getMethod ov m pl)
      callWith pos f first (backTo pos (starEach [] X.env)) (backToKw pos (keywordEach [] X.env))):=by rfl):
    PE X (.Call (.Attribute o m apos) [] [] pos) (FL C m sp dvs E ta Pd):=by
  intro pins s σ H Q I h;refine PySem.W.methodCall_KW (pl:=pl) (thn (he pins s σ H _ I h) λ u s1 ⟨x,H1,I1,rx,a,dx,fs,ex,ea,l,q⟩=> ?_) ht;subst ex;obtain rfl:u=Value.ref a:=rx;refine F4 I1 ea c hm l ?_;exact PySem.W.callWith_K0 (first:=[.ref a]) I1.kIn hm.kp (Mp (us:=[.ref a]) (vs:=[.ref a]) F hr hb hd hx I1 (.cons rfl .nil) q)
structure Mk (K:PySem.W.Frag) (C f:Addr):Prop where
  makes:PySem.W.makesIn K C=true
  init:PySem.W.findIn K (.ref C) "__init__"=some (some (.ref f))
  fn:PySem.W.isFn K (.ref f)=true
  kp:PySem.W.keepIn K (.ref C)=true
theorem ON {pins:List (Addr × Obj)} {σ:St} {H:Hp} {s:Shared} {Q:VK} {us:List Value} {vs:List V} (M:Mk X.K C f) (F:FnOk X.prog X.w X.K X.mg X.base CX k f fd ps sp) (hr:Room (k+1) X.A) (hb:Binds X.K fd ps ds) (hd:Vals dvs ds)
    (hx:BP CX X E) (I:Inv X pins σ H s) (r:Vals vs us)
    (h:∀ x dx,H x=none->H dx=none->dx≠x->sp (.ref x::(vs++dvs)) (upd (upd H dx (.own x)) x (.ins C dx [])) (λ v H2=>v= .non/\Q (.ref x) H2) E):
    wpAny (model X.prog X.w) X.A (call (.ref C) us) (EP X pins σ Q) X.xe s:=by
  have hq:=h (s.heap.objs.size+1) s.heap.objs.size (I.hok.fresh (Nat.le_succ _)) (I.hok.fresh (Aa7 _)) (Ac2 (Nat.lt_succ_self _));have I2:=Inv.made (C:=C) I;have r2:Vals (V.ref (s.heap.objs.size+1)::(vs++dvs)) (Value.ref (s.heap.objs.size+1)::(us++ds)):= .cons rfl (r.append hd);have hl:(Value.ref (s.heap.objs.size+1)::us++ds).length=ps.length:=by
    have e:=r2.length;rw [F.len _ _ _ _ hq] at e;exact e.symm
  refine wpAny_call (PD (f:=f) I.kIn M.makes M.init (beq_iff_eq.mp M.fn) (codeAny_mono (F.run _ X.stack _ _ ⟨Value.ref (s.heap.objs.size+1)::us,[]⟩ (Value.ref (s.heap.objs.size+1)::(us++ds)) _ _ E (hr.make C us [])
    (I2.env0.make C us []) (hb _ (Value.ref (s.heap.objs.size+1)::us) I2.kIn hl) r2 hq) λ r s' hq'=> ?_))
  cases r with
  | error e=>exact hx pins σ _ _ e s' I2 hq'
  | ok fl=>
    cases fl with
    | ret u=>
      obtain ⟨v,H',I3,rv,ev,q3⟩:=I2.after hq';subst ev;exact ⟨rv,⟨V.ref (s.heap.objs.size+1),H',I3,rfl,q3⟩⟩
    | next=>exact False.elim hq'
    | brk=>exact False.elim hq'
    | cont=>exact False.elim hq'
theorem QM (M:Mk X.K C f) (F:FnOk X.prog X.w X.K X.mg X.base CX k f fd ps sp) (hr:Room (k+1) X.A) (hg:Gl X x) (hm:X.mg x=some (.ref C)) (hb:Binds X.K fd ps ds) (hd:Vals dvs ds) (hx:BP CX X E)
    (ha:PA X (e::es) t) (hdb:(x == ("__debug__":Str))=false:=by decide) (he:starEach (e::es) X.env=(false,eval e X.env)::starEach es X.env:=by rfl) (hpl:(backTo pos (starEach es X.env)).any (·.1)=false:=by rfl):
    PE X (.Call (.Name x p) (e::es) [] pos) (Ko C sp dvs E t):=by
  intro pins s σ H Q I h;refine Ag9 (HY I hg hm ?_ hdb);refine PySem.W.callWith_K (h₀:=X.base) I.ok.mod.kin M.kp (thn (ha pos pins s σ H _ I h) λ us s1 ⟨vs,H1,I1,r,q⟩=>⟨I1.kIn,?_⟩) he hpl;exact ON M F hr hb hd hx I1 r q
end
section
variable {X:Cx} {CX:CXT} {k:Nat} {f C:Addr} {fd:FuncData} {ps ks:List Str} {sp:Sp} {E:XK} {x m:Str} {p pos apos kpos:Pos} {e o:Expr} {es:List Expr} {kws:List Keyword} {te ta:TE} {t tk:TA} {nm:Option Str}
structure KBinds (K:PySem.W.Frag) (fd:FuncData) (ps ks:List Str) (g:List Value->List Value->List Value) (gV:List V->List V->List V):Prop where
  to:∀ (s:Shared) (us ws:List Value),K.In s.heap->(g us ws).length=ps.length->BindsTo s fd ⟨us,ks.zip ws⟩ (ps.zip (g us ws))
  rel:∀ {vs:List V} {us:List Value} {zs:List V} {ws:List Value},Vals vs us->Vals zs ws->Vals (gV vs zs) (g us ws)
variable {g:List Value->List Value->List Value} {gV:List V->List V->List V}
end
structure FnScope (N P:List Str) (sc:Scope):Prop where
  kind:sc.kind= .function
  co:sc.isCoroutine=false
  gen:sc.isGenerator=false
  nd:N.Nodup
  pre:N.take P.length=P
  par:∀ x∈P,sc.names.lookup x=some .local\/sc.names.lookup x=some .cell
  nofree:∀ y∈sc.names,y.2≠ .free
theorem Kk {kindOf:Str->Option NameKind} {x:Str}:∀ {binds:List (Str × Value)} {m:Str->Option Value},(∀ v,(x,v)∉binds)->bindL kindOf binds m x=m x
  | [],_,_=>rfl
  | (n,v)::r,m,h=>by
    unfold bindL;rw [Kk λ w hw=>h w (Ad3 _ hw)];split
    · have:x≠n:=by rintro rfl;exact h v Ad7
      simp [this]
    · rfl
theorem Kb {kindOf:Str->Option NameKind} {x:Str}:∀ {binds:List (Str × Value)} {m:Str->Option Value},(∀ v,(x,v)∉binds)->bindC kindOf binds m x=m x
  | [],_,_=>rfl
  | (n,v)::r,m,h=>by
    unfold bindC;rw [Kb λ w hw=>h w (Ad3 _ hw)];split
    · rfl
    · have:x≠n:=by rintro rfl;exact h v Ad7
      simp [this]
theorem J6 {kindOf:Str->Option NameKind} {x:Str} {v:Value}:∀ {P:List Str} {vs:List Value} {i:Nat} {m:Str->Option Value},P.Nodup->P[i]?=some x->vs[i]?=some v->kindOf x=some .local->
    bindL kindOf (P.zip vs) m x=some v
  | [],_,_,_,_,h,_,_=>by simp at h
  | _::_,[],_,_,_,_,h,_=>by simp at h
  | p::P,w::vs,0,m,nd,h1,h2,hk=>by
    simp at h1 h2;subst h1;subst h2;show bindL kindOf ((p,w)::P.zip vs) m p=_;unfold bindL;rw [Kk λ v hv=>(List.nodup_cons.mp nd).1 (List.of_mem_zip hv).1,if_pos hk];simp
  | p::P,w::vs,i+1,m,nd,h1,h2,hk=>by
    show bindL kindOf ((p,w)::P.zip vs) m x=_;unfold bindL;exact J6 (i:=i) (List.nodup_cons.mp nd).2 (by simpa using h1) (by simpa using h2) hk
theorem J2 {kindOf:Str->Option NameKind} {x:Str} {v:Value}:∀ {P:List Str} {vs:List Value} {i:Nat} {m:Str->Option Value},P.Nodup->P[i]?=some x->vs[i]?=some v->kindOf x≠some .local->
    bindC kindOf (P.zip vs) m x=some v
  | [],_,_,_,_,h,_,_=>by simp at h
  | _::_,[],_,_,_,_,h,_=>by simp at h
  | p::P,w::vs,0,m,nd,h1,h2,hk=>by
    simp at h1 h2;subst h1;subst h2;show bindC kindOf ((p,w)::P.zip vs) m p=_;unfold bindC;rw [Kb λ v hv=>(List.nodup_cons.mp nd).1 (List.of_mem_zip hv).1,if_neg hk];simp
  | p::P,w::vs,i+1,m,nd,h1,h2,hk=>by
    show bindC kindOf ((p,w)::P.zip vs) m x=_;unfold bindC;exact J2 (i:=i) (List.nodup_cons.mp nd).2 (by simpa using h1) (by simpa using h2) hk
def start (N:List Str) (vs:List V):St:=vs.map some++Ab1 (N.length - vs.length) none
def EV (CX:CXT) (P:Program) (w:World) (K:PySem.W.Frag) (mg:Str->Option Value) (base:Heap) (N:List Str) (qual:Str) (scope:Scope) (f:Addr) (cd:Value) (A:Around) (outer:List Env) (s:Shared) (H:Hp) (E:XK):Cx where
  prog:=P
  w:=w
  K:=K
  mg:=mg
  base:=base
  A:=A.deeper (envOfC qual scope s.heap.objs.size f cd)
  N:=N
  s₀:=s
  H₀:=H
  env:=envOfC qual scope s.heap.objs.size f cd
  outer:=outer
  stack:=envOfC qual scope s.heap.objs.size f cd::outer
  ex:=[]
  calm:=true
  fn:=λ _=>true
  pn:=[]
  xe:=λ e s'=>wpAny (model P w) (A.deeper (envOfC qual scope s.heap.objs.size f cd)) (leaving (envOfC qual scope s.heap.objs.size f cd) e) (λ _ s''=>CX outer H s E e s'') (λ e' s''=>CX outer H s E e' s'') s'
theorem LQ {sc:Scope} {n:Nat} {x:Str} (h:sc.names.lookup x=some .cell):∃ c,(cellsFrom n sc.names []).lookup x=some c:=by
  have q:=PySem.W.cellsFrom_some sc.names n [] (.inl h);exact Option.isSome_iff_exists.mp q
theorem N2 {CX:CXT} {P:Program} {w:World} {K:PySem.W.Frag} {mg:Str->Option Value} {base:Heap} {N ps:List Str} {qual:Str} {scope:Scope} {f:Addr} {cd:Value} {A:Around} {outer:List Env} {s s1:Shared} {H:Hp} {E:XK} {us:List Value} {vs:List V}
    (S:FnScope N ps scope) (hd:A.handled=none) (e0:Env0 P w K mg base A outer s H) (hl:vs.length=ps.length) (r:Vals vs us)
    (x:InCallC s s.heap.objs.size (bindL (envOfC qual scope s.heap.objs.size f cd).kindOf (ps.zip us) λ _=>none) (cellsFrom (s.heap.objs.size+1) scope.names []) (bindC (envOfC qual scope s.heap.objs.size f cd).kindOf (ps.zip us) λ _=>none) s1):
    Inv (EV CX P w K mg base N qual scope f cd A outer s H E) [] (start N vs) H s1:=by
  have hpl:ps.length<=N.length:=by have:=congrArg List.length S.pre;rw [Ad1] at this;omega
  obtain ⟨h1,tk,rfl,hk⟩:=x.done;have noA:∀ b:Addr,b∉(EV CX P w K mg base N qual scope f cd A outer s H E).ex:=λ b z=>absurd (show b∈([]:List Addr) from z) (by simp);refine ⟨⟨e0.mod,S.kind,rfl,rfl,Aa7 _,λ y z c h1 h2=> ?_,λ y hy=> ?_,λ y c _ h=> ?_,λ _=>hd,Around.frames_deeper e0.frames, .inr ⟨rfl,rfl⟩,λ b z=>absurd z (noA b),e0.bs,e0.bsz,λ b _ _=>noA b,λ b z=>absurd z (noA b),e0.funs,e0.frf⟩,
    rfl,e0.bare,Un.kept hk,⟨_,x.toInCall.ns,λ i y v h1 h2 h3=> ?_⟩,λ y c h=>⟨_,x.cell y c h⟩,e0.hok.fresh (Aa7 _),λ y c h=> ?_,λ p hp=>absurd (show p∈([]:List (Addr × Obj)) from hp) (by simp),e0.hok.kept hk,?_⟩
  · exact name_of_addr x.apart (PySem.mem_of_lookup h1) (PySem.mem_of_lookup h2)
  · have hy:scope.names.lookup y=some .cell\/scope.names.lookup y=some .free:=hy;rcases hy with hy | hy
    · exact LQ hy
    · exact absurd rfl (S.nofree _ (PySem.mem_of_lookup hy))
  · exact Nat.le_of_lt (x.above y c (PySem.mem_of_lookup h))
  · have hi:i<vs.length:=by
      unfold start at h2;by_cases hi:i<vs.length
      · exact hi
      · rw [Ae9 (by simpa using hi)] at h2;rw [List.getElem?_replicate] at h2;split at h2 <;> cases h2
    have ha:vs[i]?=some v:=by
      unfold start at h2;rw [Af2 (by simpa using hi),Ad6] at h2;cases e:vs[i]? with
      | none=>rw [e] at h2;cases h2
      | some a=>rw [e] at h2;cases h2;rfl
    obtain ⟨u,hu,rv⟩:=r.get ha;have hp:ps[i]?=some y:=by
      rw [<-S.pre,List.getElem?_take_of_lt (by omega)];exact h1
    have ndP:ps.Nodup:=by rw [<-S.pre];exact S.nd.sublist (List.take_sublist _ _)
    refine ⟨u,rv,?_⟩;rcases S.par y (Af8 hp) with k | k
    · exact .inl ⟨k,J6 ndP hp hu k⟩
    · obtain ⟨c,e⟩:=LQ (n:=s.heap.objs.size+1) k;refine .inr ⟨.inl k,c,e,?_⟩;have q:=x.cell y c e;rw [J2 ndP hp hu (by show scope.names.lookup y≠_;rw [k];decide)] at q;exact q
  · exact e0.hok.fresh (Nat.le_of_lt (x.above y c (PySem.mem_of_lookup h)))
  · unfold start;show _=N.length;rw [Ac7,Aa2,Ac9];omega
theorem RI {CX:CXT} {P:Program} {w:World} {K:PySem.W.Frag} {mg:Str->Option Value} {base:Heap} {k:Nat} {f:Addr} {name qual:Str} {params:Arguments} {body:List Stmt} {scope:Scope} {dV kV doc pm cdv ct oc:Value} {an od:Option Addr}
    {osl:Array (Option Value)} {N ps:List Str} {sp:Sp} (lk:K.lookup f=some ⟨oc,od, .func (PySem.W.fnOf name qual params body scope dV kV doc pm an cdv ct),osl⟩) (hcd:PySem.W.codeIn K cdv qual=true) (S:FnScope N ps scope)
    (len:∀ vs H Q E,sp vs H Q E->vs.length=ps.length)
    (hbody:∀ (A:Around) (outer:List Env) (s:Shared) (H:Hp) (vs:List V) (Q:VK) (E:XK),Room k (A.deeper (envOfC qual scope s.heap.objs.size f cdv))->sp vs H Q E->
      ∃ t,PSs (EV CX P w K mg base N qual scope f cdv A outer s H E) body t/\t { nx:=λ _ H'=>Q .non H',rt:=Q } (start N vs) H):
    FnOk P w K mg base CX (k+1) f (PySem.W.fnOf name qual params body scope dV kV doc pm an cdv ct) ps sp:=by
  refine ⟨len,λ A outer s H args us vs Q E hr e0 hb r hsp=> ?_⟩;have hl:=len _ _ _ _ hsp;have KX:K.In s.heap:=e0.mod.kin.keeps λ b o e=>(e0.bs b o e).1;have lim:s.heap.NoLimit:=e0.mod.nolimit.keeps λ b o e=>(e0.bs b o e).1;have hkind:∀ y∈ps.zip us,scope.names.lookup y.1=some .local\/(scope.names.lookup y.1=some .cell/\((cellsFrom (s.heap.objs.size+1) scope.names []).lookup y.1).isSome=true):=λ ⟨n,v⟩ hy=>by
    rcases S.par n (List.of_mem_zip hy).1 with q | q
    · exact .inl q
    · exact .inr ⟨q,PySem.W.cellsFrom_some _ _ _ (.inl q)⟩
  refine codeAny_call_function hr.depth (KX _ _ lk) rfl S.co S.gen rfl (PySem.W.codeRec_of KX hcd) (hb _ _ _ _ ?_);refine wpAny_newFunctionEnv_cells S.kind hkind λ env he s1 x=> ?_;subst he;refine ⟨lim.keeps x.toInCall.keep,codeAny_func ?_⟩;obtain ⟨t,ht,hq⟩:=hbody A outer s H vs Q E (hr.deeper _) hsp;have I:Inv (EV CX P w K mg base N qual scope f cdv A outer s H E) [] (start N vs) H s1:=N2 S hr.hd e0 hl r x;refine Ad5 (ht [] s1 (start N vs) H _ I hq) (λ fl s' hs=> ?_) λ e s' hs=>hs;have fin:∀ {σ':St} {H':Hp} {v:V} {u:Value},Inv (EV CX P w K mg base N qual scope f cdv A outer s H E) [] σ' H' s'->RelV v u->Q v H'->CE outer P w H s Q u s':=
    λ {σ' H' v u} J rv q=>⟨v,H',J.os,J.bare,J.base,J.hok,rv,q⟩
  cases fl with
  | ret u=>
    obtain ⟨v,σ',H',J,rv,q⟩:=hs;exact fin J rv q
  | next=>
    obtain ⟨σ',H',J,q⟩:=hs;exact fin (v:=V.non) (u:=Value.none) J rfl q
  | brk=>
    obtain ⟨_,_,_,q⟩:=hs;exact False.elim q
  | cont=>
    obtain ⟨_,_,_,q⟩:=hs;exact False.elim q
section
variable {X:Cx} {x:Str} {p pos:Pos} {e:Expr} {es:List Expr} {t:TA} {id T:String} {r:List V->Hp->VK->Prop}
def tCB (r:List V->Hp->VK->Prop) (t:TA):TE:=λ σ H Q=>t σ H λ vs H1=>r vs H1 Q
theorem Am (hc:Cf X (.builtin id) r) (hg:Gl X x) (hm:X.mg x=none) (hv:bootBuiltins x=some (.builtin id)) (ha:PA X (e::es) t) (hn:x≠"__name__":=by decide) (hdb:(x == ("__debug__":Str))=false:=by decide)
    (he:starEach (e::es) X.env=(false,eval e X.env)::starEach es X.env:=by rfl) (hpl:(backTo pos (starEach es X.env)).any (·.1)=false:=by rfl):PE X (.Call (.Name x p) (e::es) [] pos) (tCB r t):=by
  intro pins s σ H Q I h;refine Ag9 (Ck I hg hm hv ?_ hn hdb);exact PyProof.Rows.callWith_builtin1 (thn (ha pos pins s σ H _ I h) λ us s1 ⟨vs,H1,I1,r1,q1⟩=>hc pins s1 σ H1 vs us Q I1 r1 q1) he hpl
theorem AC (hc:Cf X (.type T) r) (hg:Gl X x) (hm:X.mg x=none) (hv:bootBuiltins x=some (.type T)) (ha:PA X (e::es) t) (hn:x≠"__name__":=by decide) (hdb:(x == ("__debug__":Str))=false:=by decide)
    (he:starEach (e::es) X.env=(false,eval e X.env)::starEach es X.env:=by rfl) (hpl:(backTo pos (starEach es X.env)).any (·.1)=false:=by rfl):PE X (.Call (.Name x p) (e::es) [] pos) (tCB r t):=by
  intro pins s σ H Q I h;refine Ag9 (Ck I hg hm hv ?_ hn hdb);exact PyProof.Rows.callWith_type1 (thn (ha pos pins s σ H _ I h) λ us s1 ⟨vs,H1,I1,r1,q1⟩=>hc pins s1 σ H1 vs us Q I1 r1 q1) he hpl
end
end L2
namespace HT
open PySem PyProof.Rows
section
open PySem.SeqAt
open PySem.AutoSeq1 (wpAny_loadPart')
open PySem.MeetsSeq PySem.MeetsSeq2 PySem.MeetsSeq3
end
section
variable {prog:Program} {w:World} {A:Around} {E:Value->Shared->Prop} {s:Shared}
theorem cat_tup {t b:Addr} {vs ws:List Value} {Q:Value->Shared->Prop} (ht:IsTup s.heap t vs.toArray) (hb:IsTup s.heap b ws.toArray) (hv:vs≠[])
    (h1:ws=[]->Q (.ref t) s) (h2:ws≠[]->Q (.ref s.heap.objs.size) { s with heap:=s.heap.push { cls:= .type "tuple",data:= .seq (vs++ws).toArray } })
    (hsz:vs.length+ws.length<=sizeLine):wpAny (model prog w) A (binaryOp .Add (.ref t) (.ref b)) Q E s:=by
  obtain ⟨⟨cls,dd,data,sl⟩,ho,hc,n,hd⟩:=id ht;obtain ⟨⟨cls2,dd2,data2,sl2⟩,ho2,hc2,n2,hd2⟩:=id hb;simp only at hc hd hc2 hd2;subst hc hd hc2 hd2;have e:vs.toArray++ws.toArray=(vs++ws).toArray:=by simp
  by_cases hw:ws=[]
  · exact concat_meets ⟨_,ho,rfl⟩ ⟨_,ho2,rfl⟩ noFill_tuple_add seq_tuple_add PySem.F.slot_tuple_add PySem.F.entry_tuple_add (PySem.F.args_tuple_add_2 _ _)
      (tuple_addW1 t b vs.toArray ws.toArray n n2 dd dd2 sl sl2 (by simpa using hv) (by simp [hw])) ⟨ho,ho2,h1 hw⟩
  · refine concat_meets ⟨_,ho,rfl⟩ ⟨_,ho2,rfl⟩ noFill_tuple_add seq_tuple_add PySem.F.slot_tuple_add PySem.F.entry_tuple_add (PySem.F.args_tuple_add_2 _ _)
      (tuple_addW2 t b vs.toArray ws.toArray n n2 dd dd2 sl sl2 (by simpa using hv) (by simpa using hw) (by rw [Ab2,Ab2];exact hsz)) ⟨ho,ho2,?_⟩
    rw [e];exact h2 hw
def sIx (n d:Nat):Option Int->Nat
  | none=>d
  | some v=>if v<0 then (v+(n:Int)).toNat else min v.toNat n
theorem Tp (n d:Nat) (hd:d<=n) (o:Option Int):sIx n d o<=n:=by
  cases o with
  | none=>exact hd
  | some v=>
    show (if v<0 then (v+(n:Int)).toNat else min v.toNat n)<=n;by_cases hv:v<0
    · rw [if_pos hv];omega
    · rw [if_neg hv];exact Nat.min_le_right _ _
theorem Nb (v:Int) (n d:Nat):(if v<0 then max (v+(n:Int)) 0 else min v (n:Int))=((sIx n d (some v):Nat):Int):=by
  show (if v<0 then max (v+(n:Int)) 0 else min v (n:Int))=(((if v<0 then (v+(n:Int)).toNat else min v.toNat n):Nat):Int);by_cases hv:v<0
  · simp only [if_pos hv];omega
  · simp only [if_neg hv];omega
theorem Me (lo hi:Option Int) (n:Nat):Builtin.Slice.sliceAdjust lo hi 1 (n:Int)=(((sIx n 0 lo:Nat):Int),((sIx n n hi:Nat):Int)):=by
  have h1:¬ ((1:Int)<0):=by omega
  unfold Builtin.Slice.sliceAdjust;simp only [h1,if_false];refine Prod.ext ?_ ?_
  · cases lo with
    | none=>rfl
    | some v=>exact Nb v n 0
  · cases hi with
    | none=>rfl
    | some v=>exact Nb v n n
theorem Ml (i j:Nat):Builtin.Slice.slicePlaces (i:Int) (j:Int) 1=j - i:=by
  unfold Builtin.Slice.slicePlaces;have h1:(1:Int)>0:=by omega
  simp only [h1,if_true,Int.ediv_one];split <;> omega
theorem Jb {v:Value} {o:Option Int} {Q:Option Int->Shared->Prop} (p:IsPart v o) (h:Q o s):wpAny (model prog w) A (Builtin.Slice.slicePartIndex v) Q E s:=by
  cases p with
  | none=>exact slicePart_none h
  | int i t=>exact slicePart_int h
theorem DQ {sl:Addr} {vl vu:Value} {lo hi:Option Int} {n:Nat} {Q:Int × Int × Nat->Shared->Prop} (hs:s.heap.IsSliceOf sl vl vu .none) (pl:IsPart vl lo) (pu:IsPart vu hi)
    (h:Q (((sIx n 0 lo:Nat):Int),1,sIx n n hi - sIx n 0 lo) s):wpAny (model prog w) A (Builtin.Slice.sliceApplied (.ref sl) (pure (n:Int))) Q E s:=by
  obtain ⟨os,hos,hcs,hds⟩:=id hs;unfold Builtin.Slice.sliceApplied Builtin.Slice.sliceFields;refine Aa0 (Aa0 (Ab9 hos hds (x:=vl) rfl (Aa0 (Ab9 hos hds (x:=vu) rfl (Aa0 (Ab9 hos hds (x:= .none) rfl (Aa5 ?_)))))));refine Aa0 (slicePart_none ?_);show wpAny _ _ (if ((1:Int) == 0)=true then _ else _) _ _ s;rw [if_neg (by decide)];refine Aa0 (Jb pl (Aa0 (Jb pu (Aa0 (Aa5 ?_)))));show wpAny _ _ (match Builtin.Slice.sliceAdjust lo hi 1 (n:Int) with | (lo,hi)=>pure (lo,(1:Int),Builtin.Slice.slicePlaces lo hi 1)) _ _ s;rw [Me lo hi n];show wpAny _ _ (pure (((sIx n 0 lo:Nat):Int),(1:Int),Builtin.Slice.slicePlaces ((sIx n 0 lo:Nat):Int) ((sIx n n hi:Nat):Int) 1)) _ _ s;rw [Ml];exact Aa5 h
theorem OB (xs:Array Value) (i k:Nat):((Aa9 k).filterMap λ (m:Nat)=>xs[((i:Int)+(m:Int)*1).toNat]?).toArray=((xs.toList.drop i).take k).toArray:=by
  have e:(λ (m:Nat)=>xs[((i:Int)+(m:Int)*1).toNat]?)=λ m=>xs[i+m]?:=by
    funext m;have:((i:Int)+(m:Int)*1).toNat=i+m:=by omega
    rw [this]
  rw [e];have:=pick_run xs i k;rw [List.filterMap_map] at this;have e2:((λ x=>xs[x]?)∘λ x=>i+x)=λ m=>xs[i+m]?:=rfl;rw [e2] at this;rw [this]
theorem getItem_tuple_cut {t sl:Addr} {items:Array Value} {vl vu:Value} {lo hi:Option Int} {Q:Value->Shared->Prop} (ht:IsTup s.heap t items) (hs:s.heap.IsSliceOf sl vl vu .none) (pl:IsPart vl lo) (pu:IsPart vu hi)
    (hw:¬ (sIx items.size 0 lo=0/\sIx items.size items.size hi=items.size))
    (h:Q (.ref s.heap.objs.size) { s with heap:=s.heap.push { cls:= .type "tuple",data:= .seq ((items.toList.drop (sIx items.size 0 lo)).take (sIx items.size items.size hi - sIx items.size 0 lo)).toArray } })
    (hsz:items.size<=sizeLine):wpAny (model prog w) A (getItem (.ref t) (.ref sl)) Q E s:=by
  have htake:sizeOk (.seq ((items.toList.drop (sIx items.size 0 lo)).take (sIx items.size items.size hi - sIx items.size 0 lo)).toArray):=by
    show ((items.toList.drop (sIx items.size 0 lo)).take (sIx items.size items.size hi - sIx items.size 0 lo)).toArray.size<=sizeLine;rw [Ab2,Ad1,Ag7,Array.length_toList];omega
  have hj:sIx items.size items.size hi<=items.size:=Tp _ _ (Aa7 _) hi;obtain ⟨os,hos,hcs,hds⟩:=id hs;have hTs:s.TypeIs (.ref sl) "slice":=⟨os,hos,hcs⟩;unfold getItem
  try with_reducible refine Ad9 ?_
  first | refine Aa0 (Aa5 ?_) | skip
  refine Aa0 (wpAny_sequenceKey ht.typeIs (by decide) ?_);refine Aa0 (Ab7 (name:=Str.ofString "__getitem__") ht.typeIs PyProof.Rows.slot_tuple_getitem
    (Ad2 PyProof.Rows.slot_tuple_getitem ht.typeIs entry_tuple_getitem ?_ (args_tuple_getitem _ _)))
  show wpAny _ _ (Builtin.Tuple.tupleItemsOf (.ref t) >>= _) _ _ s;refine Aa0 (tupleItemsOf_ ht ?_);refine Aa0 (wpAny_typeOf hTs ?_);rw [if_pos (by decide)];refine Aa0 (DQ hs pl pu ?_);have hno:¬ ((((sIx items.size 0 lo:Nat):Int) == 0&&(1:Int) == 1&&(sIx items.size items.size hi - sIx items.size 0 lo) == items.size)=true):=by
    intro q;rw [Ab3,Ab3] at q;have q1:((sIx items.size 0 lo:Nat):Int)=0:=eq_of_beq q.1.1;have q2:sIx items.size items.size hi - sIx items.size 0 lo=items.size:=eq_of_beq q.2;exact hw ⟨by omega,by omega⟩
  show wpAny _ _ (if (((sIx items.size 0 lo:Nat):Int) == 0&&(1:Int) == 1&&(sIx items.size items.size hi - sIx items.size 0 lo) == items.size)=true then _ else _) _ _ s;rw [if_neg hno,OB]
  first
    | exact Aa0 (m:=Builtin.Tuple.tupleExact _) (Ag4 (Aa5 ⟨_,rfl,Aa5 h⟩) htake)
    | exact Aa0 (m:=Builtin.Tuple.tupleExact _) (Ag4 (Aa0 (Aa5 (Aa5 ⟨_,rfl,Aa5 h⟩))) htake)
    | exact Aa0 (Aa0 (m:=Builtin.Tuple.tupleExact _) (Ag4 (Aa5 (Aa5 ⟨_,rfl,Aa5 h⟩)) htake))
    | exact Aa0 (Aa0 (m:=Builtin.Tuple.tupleExact _) (Ag4 (Aa5 ⟨_,rfl,Aa5 h⟩) htake))
end
end HT
namespace L2
open PySem PySem.Spec PyProof.Rows
abbrev TO:=St->Hp->(Option Int->Hp->Prop)->Prop
def PO (X:Cx) (e:Option Expr) (t:TO):Prop:=
  ∀ (pins:List (Addr × Obj)) (s:Shared) (σ:St) (H:Hp) (Q:Option Int->Hp->Prop),Inv X pins σ H s->t σ H Q->
    wpAny (model X.prog X.w) X.A (evalPart e X.env) (λ u s'=>∃ o H',Inv X pins σ H' s'/\IsPart u o/\Q o H') X.xe s
def M8:TO:=λ _ H Q=>Q none H
def Sf (t:TE):TO:=λ σ H Q=>t σ H λ x H1=>∃ i,x= .int i/\Q (some i) H1
theorem MO {ns:List Int}:∀ {us:List Value},Vals (ns.map V.int) us->IntsAre us ns:=by
  induction ns with
  | nil=>intro us r;rw [List.map_nil] at r;cases r;exact .nil
  | cons n ns ih=>
    intro us r;rw [Ag3] at r;cases r with
    | cons r1 r2=>
      obtain ⟨t,e⟩:=r1;subst e;exact .cons n t (ih r2)
section
variable {X:Cx} {e:Expr} {te:TE} {lo hi:Option Expr} {tl th:TO} {pos p2:Pos}
theorem Be:PO X none M8:=by
  intro pins s σ H Q I h;rw [evalPart_none];exact Aa5 ⟨none,H,I, .none,h⟩
theorem Bh (h:PE X e te):PO X (some e) (Sf te):=by
  intro pins s σ H Q I hw;rw [evalPart_some];refine thn (h pins s σ H _ I hw) λ u s1 ⟨x,H1,I1,r1,q1⟩=> ?_;obtain ⟨i,rfl,q⟩:=q1;obtain ⟨t,rfl⟩:=r1;exact ⟨some i,H1,I1, .int i t,q⟩
def SlR (X:Cx) (r:V->Option Int->Option Int->Hp->VK->Prop):Prop:=
  ∀ (pins:List (Addr × Obj)) (s:Shared) (σ:St) (H:Hp) (x:V) (v vl vu:Value) (lo hi:Option Int) (sl:Addr) (Q:VK),Inv X pins σ H s->RelV x v->s.heap.IsSliceOf sl vl vu .none->IsPart vl lo->IsPart vu hi->r x lo hi H Q->
    ∃ T id,typeLookup (.type T) "__getitem__"=pure (some (.builtin id))/\s.TypeIs v T/\wpAny (model X.prog X.w) X.A (getItem v (.ref sl)) (EP X pins σ Q) X.xe s
def tSl (r:V->Option Int->Option Int->Hp->VK->Prop) (te:TE) (tl th:TO):TE:=λ σ H Q=>te σ H λ x H1=>tl σ H1 λ l H2=>th σ H2 λ u H3=>r x l u H3 Q
theorem A0 {r:V->Option Int->Option Int->Hp->VK->Prop} (hr:SlR X r) (he:PE X e te) (hl:PO X lo tl) (hu:PO X hi th):PE X (.Subscript e (.Slice lo hi none p2) pos) (tSl r te tl th):=by
  intro pins s σ H Q I h;refine Subscript_ (thn (he pins s σ H _ I h) λ v s1 ⟨x,H1,I1,r1,q1⟩=> ?_);refine wpAny_Slice (thn (hl pins s1 σ H1 _ I1 q1) λ vl s2 ⟨l,H2,I2,pl,q2⟩=>thn (hu pins s2 σ H2 _ I2 q2) λ vu s3 ⟨u,H3,I3,pu,q3⟩=> ?_);rw [evalPart_none];refine Aa5 ?_;have I4:Inv X pins σ H3 { s3 with heap:=s3.heap.push { cls:= .type "slice",data:= .fields #[vl,vu, .none] } }:=I3.kept (t':=s3.toks) λ b ob q=>Aa1 _ q;obtain ⟨T,id,hT,ht,hg⟩:=hr pins { s3 with heap:=s3.heap.push { cls:= .type "slice",data:= .fields #[vl,vu, .none] } } σ H3 x v vl vu l u s3.heap.objs.size Q I4 r1 (Heap.IsSliceOf.new ..) pl pu q3;show wpAny (model X.prog X.w) X.A (subscriptTail e (.Slice lo hi none p2) v (.ref s3.heap.objs.size)) (EP X pins σ Q) X.xe { s3 with heap:=s3.heap.push { cls:= .type "slice",data:= .fields #[vl,vu, .none] } };exact tail_any (ops:=[.ref s3.heap.objs.size,v]) ht hT hg (by with_unfolding_all rfl)
def DR (xs:List V) (lo hi:Option Int):List V:=(xs.drop (HT.sIx xs.length 0 lo)).take (HT.sIx xs.length xs.length hi - HT.sIx xs.length 0 lo)
theorem Hr (xs:List V) (lo hi:Option Int):(DR xs lo hi).length<=xs.length:=by
  unfold DR;rw [Ad1,Ag7];omega
def bG (K:PySem.W.Frag):V->Option Int->Option Int->Hp->VK->Prop:=λ x lo hi H Q=>∃ a xs,x= .ref a/\SqT K H a xs/\
  ¬ (HT.sIx xs.length 0 lo=0/\HT.sIx xs.length xs.length hi=xs.length)/\∀ p,H p=none->Q (.ref p) (upd H p (.tup (DR xs lo hi)))
theorem Tl:SlR X (bG X.K):=by
  intro pins s σ H x v vl vu lo hi sl Q I rx hs pl pu h;obtain ⟨a,xs,rfl,hx,hw,q⟩:=h;cases rx;obtain ⟨its,r,ht,hz⟩:=I.tuple hx;have hlen:its.toArray.size=xs.length:=by rw [Ab2];exact r.length.symm
  refine ⟨"tuple",_,PyProof.Rows.slot_tuple_getitem.lookup,ht.typeIs,?_⟩;refine HT.getItem_tuple_cut ht hs pl pu (by rw [hlen];exact hw) ?_ (by rw [hlen];exact hz);rw [hlen];refine ⟨.ref s.heap.objs.size,_,I.laid (t':=s.toks) (o:= .tup (DR xs lo hi)) (λ b ob q=>Aa1 _ q) (Aa7 _) ?_,rfl,q _ (I.hok.fresh (Aa7 _))⟩;exact ⟨Ab8 (Hr xs lo hi) hz,_,(r.drop (HT.sIx xs.length 0 lo)).take (HT.sIx xs.length xs.length hi - HT.sIx xs.length 0 lo),IsTup.new _ _⟩
def Qa (K:PySem.W.Frag):R2:=λ x y H Q=>∃ a b xs ys,x= .ref a/\y= .ref b/\SqT K H a xs/\SqT K H b ys/\xs≠[]/\xs.length+ys.length<=sizeLine/\
  (ys=[]->Q (.ref a) H)/\(ys≠[]->∀ p,H p=none->Q (.ref p) (upd H p (.tup (xs++ys))))
theorem Vals.nil_iff {xs:List V} {us:List Value} (r:Vals xs us):us=[]↔xs=[]:=by
  cases r with
  | nil=>simp
  | cons _ _=>simp
theorem Q4:OpR X (binaryOp .Add) (Qa X.K):=by
  intro pins s σ H x y v u Q I rx ry h;obtain ⟨a,b,xs,ys,rfl,rfl,ha,hb,hx,hz,q1,q2⟩:=h;cases rx;cases ry;obtain ⟨its,r1,p1,_⟩:=I.tuple ha;obtain ⟨its2,r2,p2,_⟩:=I.tuple hb;refine HT.cat_tup p1 p2 (λ z=>hx (r1.nil_iff.mp z)) (λ z=>⟨.ref a,H,I,rfl,q1 (r2.nil_iff.mp z)⟩) (λ z=> ?_) (by rw [<-r1.length, <-r2.length];exact hz);refine ⟨.ref s.heap.objs.size,_,I.laid (t':=s.toks) (o:= .tup (xs++ys)) (λ b ob q=>Aa1 _ q) (Aa7 _) ?_,rfl,q2 (λ w=>z (r2.nil_iff.mpr w)) _ (I.hok.fresh (Aa7 _))⟩;exact ⟨by rw [Ac7];exact hz,_,r1.append r2,IsTup.new _ _⟩
end
def ixN (n:Nat) (i:Int):Option Nat:=if 0<=i then (if i<n then some i.toNat else none) else if -(n:Int)<=i then some (i+n).toNat else none
def atI {α:Type} (xs:List α) (i:Int):Option α:=(ixN xs.length i).bind λ j=>xs[j]?
theorem QC {n:Nat} {i:Int} {j:Nat} (h:ixN n i=some j):seqIndex? i n=some j/\j<n/\ -(n:Int)<=i/\i<n:=by
  unfold ixN at h;by_cases h0:0<=i
  · rw [if_pos h0] at h;by_cases h1:i<n
    · rw [if_pos h1] at h;have e:i.toNat=j:=Ad8.inj h;exact ⟨by rw [seqIndex_of h0 h1,e],by omega,by omega,h1⟩
    · rw [if_neg h1] at h;cases h
  · rw [if_neg h0] at h;by_cases h1: -(n:Int)<=i
    · rw [if_pos h1] at h;have e:(i+n).toNat=j:=Ad8.inj h;exact ⟨by rw [seqIndex_neg (by omega) h1,e],by omega,h1,by omega⟩
    · rw [if_neg h1] at h;cases h
theorem KO {α:Type} {xs:List α} {i:Int} {v:α} (h:atI xs i=some v):∃ j,seqIndex? i xs.length=some j/\xs[j]?=some v/\j<xs.length/\ -(xs.length:Int)<=i/\i<xs.length:=by
  unfold atI at h;cases e:ixN xs.length i with
  | none=>rw [e] at h;cases h
  | some j=>
    rw [e] at h;obtain ⟨h1,h2,h3,h4⟩:=QC e;exact ⟨j,h1,h,h2,h3,h4⟩
theorem AW {α:Type} {xs:List α} {j:Nat} {v:α} (h:xs[j]?=some v):atI xs (j:Int)=some v:=by
  have hj:j<xs.length:=(Ac3.mp h).1;have e:ixN xs.length (j:Int)=some j:=by
    unfold ixN;rw [if_pos (by omega),if_pos (by omega)];simp
  unfold atI;rw [e];exact h
def RC (b:Expr):Prop:=∀ o i,subscripted b false o i=operate [o,i] (getItem o i)
def IxR (X:Cx) (r:R2):Prop:=
  ∀ (value slice:Expr) (pins:List (Addr × Obj)) (s:Shared) (σ:St) (H:Hp) (x y:V) (v u:Value) (Q:VK),Inv X pins σ H s->RelV x v->RelV y u->r x y H Q->
    subscripted slice false v u=operate [v,u] (getItem v u)->wpAny (model X.prog X.w) X.A (subscriptTail value slice v u) (EP X pins σ Q) X.xe s
def MtR (X:Cx) (id:String) (r:V->List V->Hp->VK->Prop):Prop:=
  ∀ (pins:List (Addr × Obj)) (s:Shared) (σ:St) (H:Hp) (x:V) (xs:List V) (v:Value) (us:List Value) (Q:VK),Inv X pins σ H s->RelV x v->Vals xs us->r x xs H Q->
    wpAny (model X.prog X.w) X.A (call (.builtin id) (v::us)) (EP X pins σ Q) X.xe s
section
variable {X:Cx} {a b:Expr} {ta tb:TE} {pos:Pos}
theorem A7 {r:R2} (hr:IxR X r) (ha:PE X a ta) (hb:PE X b tb) (hs:RC b):PE X (.Subscript a b pos) (tOp r ta tb):=by
  intro pins s σ H Q I h;exact Subscript_ (SR ha hb I h λ v u s2 x y H2 I2 rx ry q=>hr a b pins s2 σ H2 x y v u Q I2 rx ry q (hs _ _))
def SB (K:PySem.W.Frag):R2:=λ x y H Q=>∃ p xs i v,x= .ref p/\y= .int i/\SqL K H p xs/\atI xs i=some v/\Q v H
def TC (K:PySem.W.Frag):R2:=λ x y H Q=>∃ p xs i v,x= .ref p/\y= .int i/\SqT K H p xs/\atI xs i=some v/\Q v H
def US:R2:=λ x y H Q=>∃ z i c,x= .str z/\y= .int i/\z.length<=sizeLine/\atI z.cps.toList i=some c/\Q (.str ⟨#[c]⟩) H
theorem RE:IxR X (SB X.K):=by
  intro value slice pins s σ H x y v u Q I rx ry h hs;obtain ⟨p,xs,i,z,rfl,rfl,hq,he,q⟩:=h;cases rx;obtain ⟨t,rfl⟩:=ry;obtain ⟨its,r,pl,hz⟩:=I.list hq;obtain ⟨j,h1,h2,h3,h4,h5⟩:=KO he;obtain ⟨w,ew,rw'⟩:=r.get h2;have hl:=r.length;have hn:=IR;have fin:EP X pins σ Q w s:=⟨z,H,I,rw',q⟩;by_cases h0:0<=i
  · have hj:i.toNat=j:=by
      rw [seqIndex_of h0 h5] at h1;exact Ad8.inj h1
    exact item_listR pl.isList h0 (by omega) (by rw [hj];simpa using ew) fin hs
  · have hj:(i+(its.toArray.size:Int)).toNat=j:=by
      rw [seqIndex_neg (by omega) h4] at h1;rw [Ab2, <-hl];exact Ad8.inj h1
    exact subscriptTail_builtinR (x:=w) pl.isList.typeIs slot_list_getitem.lookup
      (wpAny_getItem_list_neg (Q:=λ r s'=>r=w/\EP X pins σ Q r s') pl.isList (by omega) (by rw [Ab2] <;> omega) (by omega) (by rw [hj];simpa using ew) ⟨rfl,fin⟩) hs
theorem SH:IxR X (TC X.K):=by
  intro value slice pins s σ H x y v u Q I rx ry h hs;obtain ⟨p,xs,i,z,rfl,rfl,hq,he,q⟩:=h;cases rx;obtain ⟨t,rfl⟩:=ry;obtain ⟨its,r,pl,hz⟩:=I.tuple hq;obtain ⟨j,h1,h2,h3,h4,h5⟩:=KO he;obtain ⟨w,ew,rw'⟩:=r.get h2;have hl:=r.length;have hn:=IR;have fin:EP X pins σ Q w s:=⟨z,H,I,rw',q⟩;exact subscriptTail_builtinR (x:=w) pl.typeIs slot_tuple_getitem.lookup
    (getItem_tuple (j:=j) (Q:=λ r s'=>r=w/\EP X pins σ Q r s') pl (by omega) (by omega) (by rw [Ab2, <-hl];exact h1) (by simpa using ew) ⟨rfl,fin⟩) hs
theorem OO:IxR X US:=by
  intro value slice pins s σ H x y v u Q I rx ry h hs;obtain ⟨z,i,c,rfl,rfl,hz,he,q⟩:=h;obtain ⟨t,rfl⟩:=rx;obtain ⟨t',rfl⟩:=ry;obtain ⟨j,h1,h2,h3,h4,h5⟩:=KO he;have hl:z.cps.toList.length=z.length:=by simp [Str.length]
  rw [hl] at h1 h4 h5;have hn:=IR;exact tail_any (typeIs_str s z t) slot_str_getitem.lookup (getItem_str (c:=c) (by
    have e1:decide (i< -(2 ^ 63:Int))=false:=decide_eq_false (by omega);have e2:decide (i>=2 ^ 63)=false:=decide_eq_false (by omega);rw [e1,e2,Bool.or_false]) (by rw [h1];simpa using h2) ⟨.str ⟨#[c]⟩,H,I.tok _,⟨_,rfl⟩,q⟩) hs
theorem K5 (lo hi:Option Int) (n:Nat):(sliceBounds lo hi none n).1=((HT.sIx n 0 lo:Nat):Int)/\(sliceBounds lo hi none n).2.1=((HT.sIx n n hi:Nat):Int)/\(sliceBounds lo hi none n).2.2=1:=by
  refine ⟨?_,?_,rfl⟩
  · cases lo with
    | none=>simp [sliceBounds,HT.sIx]
    | some i=>
      simp only [sliceBounds,HT.sIx,Option.getD_none,show (1:Int)>0 by decide,if_true];by_cases h:i<0
      · simp only [h,if_true] <;> omega
      · simp only [h,if_false] <;> omega
  · cases hi with
    | none=>simp [sliceBounds,HT.sIx]
    | some i=>
      simp only [sliceBounds,HT.sIx,Option.getD_none,show (1:Int)>0 by decide,if_true];by_cases h:i<0
      · simp only [h,if_true] <;> omega
      · simp only [h,if_false] <;> omega
theorem Jv (its:List Value) (lo hi:Option Int):slicePick its.toArray lo hi none=((its.drop (HT.sIx its.length 0 lo)).take (HT.sIx its.length its.length hi - HT.sIx its.length 0 lo)).toArray:=by
  obtain ⟨h1,h2,h3⟩:=K5 lo hi its.toArray.size;unfold slicePick;rw [h1,h2,h3];simp only [sliceRange_one,pick_run,Ab2] <;> rfl
def Sz (K:PySem.W.Frag):V->Option Int->Option Int->Hp->VK->Prop:=λ x lo hi H Q=>∃ a xs,x= .ref a/\SqL K H a xs/\∀ p,H p=none->Q (.ref p) (upd H p (.lst (DR xs lo hi)))
theorem M7:SlR X (Sz X.K):=by
  intro pins s σ H x v vl vu lo hi sl Q I rx hs pl pu h;obtain ⟨a,xs,rfl,hx,q⟩:=h;cases rx;obtain ⟨its,r,ht,hz⟩:=I.list hx;have hlen:=r.length;refine ⟨"list",_,slot_list_getitem.lookup,ht.isList.typeIs,?_⟩;refine wpAny_getItem_list_slice ht.isList hs pl pu .none (by simp) ?_ (by rw [Ab2] <;> omega);rw [Jv, <-hlen];refine ⟨.ref s.heap.objs.size,_,I.laid (t':=s.toks) (o:= .lst (DR xs lo hi)) (λ b ob q=>Aa1 _ q) (Aa7 _) ?_,rfl,q _ (I.hok.fresh (Aa7 _))⟩;exact ⟨Ab8 (Hr xs lo hi) hz,_,0,(r.drop (HT.sIx xs.length 0 lo)).take (HT.sIx xs.length xs.length hi - HT.sIx xs.length 0 lo),Aa8 _ rfl⟩
def Cd:V->Bool
  | .non=>true
  | .bl _=>true
  | .int _=>true
  | .str _=>true
  | _=>false
def eqV:V->V->Bool
  | .non, .non=>true
  | .bl a, .bl b=>a == b
  | .bl a, .int b=>(if a then 1 else 0) == b
  | .int a, .bl b=>a == (if b then 1 else 0)
  | .int a, .int b=>a == b
  | .str a, .str b=>a == b
  | _,_=>false
theorem O6 {A:Around} {s:Shared} {y x:V} {u v:Value} (ry:RelV y u) (rx:RelV x v) (fy:Cd y=true) (fx:Cd x=true):SeqAt.EqAt A s u v (eqV y x):=by
  cases y with
  | non=>
    cases ry;cases x with
    | non=>cases rx;exact SeqAt.EqAt.same _
    | bl b=>cases rx;exact SeqAt.EqAt.none_bool b
    | int b=>obtain ⟨t,rfl⟩:=rx;exact SeqAt.EqAt.none_int b t
    | str b=>obtain ⟨t,rfl⟩:=rx;exact SeqAt.EqAt.none_str b t
    | _=>exact absurd (show false=true from fx) Ab0
  | bl a=>
    cases ry;cases x with
    | non=>cases rx;exact SeqAt.EqAt.bool_none a
    | bl b=>cases rx;exact SeqAt.EqAt.bool_bool a b
    | int b=>obtain ⟨t,rfl⟩:=rx;exact SeqAt.EqAt.bool_int a b t
    | str b=>obtain ⟨t,rfl⟩:=rx;exact SeqAt.EqAt.bool_str a b t
    | _=>exact absurd (show false=true from fx) Ab0
  | int a=>
    obtain ⟨t',rfl⟩:=ry;cases x with
    | non=>cases rx;exact SeqAt.EqAt.int_none a t'
    | bl b=>cases rx;exact SeqAt.EqAt.int_bool a t' b
    | int b=>obtain ⟨t,rfl⟩:=rx;exact SeqAt.EqAt.int_int a t' b t
    | str b=>obtain ⟨t,rfl⟩:=rx;exact SeqAt.EqAt.int_str a t' b t
    | _=>exact absurd (show false=true from fx) Ab0
  | str a=>
    obtain ⟨t',rfl⟩:=ry;cases x with
    | non=>cases rx;exact SeqAt.EqAt.str_none a t'
    | bl b=>cases rx;exact SeqAt.EqAt.str_bool a t' b
    | int b=>obtain ⟨t,rfl⟩:=rx;exact SeqAt.EqAt.str_int a t' b t
    | str b=>obtain ⟨t,rfl⟩:=rx;exact SeqAt.EqAt.str_str a t' b t
    | _=>exact absurd (show false=true from fx) Ab0
  | _=>exact absurd (show false=true from fy) Ab0
def eqU (x:V) (u:Value):Bool:=match u with
  | .none=>eqV .non x
  | .bool b=>eqV (.bl b) x
  | .int i _=>eqV (.int i) x
  | .str z _=>eqV (.str z) x
  | _=>false
theorem Pt {x y:V} {u:Value} (r:RelV y u) (f:Cd y=true):eqU x u=eqV y x:=by
  cases y with
  | non=>cases r;rfl
  | bl b=>cases r;rfl
  | int i=>obtain ⟨t,rfl⟩:=r;rfl
  | str z=>obtain ⟨t,rfl⟩:=r;rfl
  | _=>exact absurd (show false=true from f) Ab0
theorem KN {x:V}:∀ {xs:List V} {us:List Value},Vals xs us->xs.all Cd=true->us.any (eqU x)=xs.any λ y=>eqV y x
  | _,_, .nil,_=>rfl
  | y::xs,u::us, .cons r t,f=>by
    rw [List.all_cons,Ab3] at f;rw [List.any_cons,List.any_cons,Pt r f.1,KN t f.2]
theorem IB {A:Around} {s:Shared} {x:V} {v:Value} (rx:RelV x v) (fx:Cd x=true):∀ {xs:List V} {us:List Value},Vals xs us->xs.all Cd=true->∀ u∈us,SeqAt.EqAt A s u v (eqU x u)
  | _,_, .nil,_=>λ u hu=>by cases hu
  | y::xs,u::us, .cons r t,f=>λ u' hu=>by
    rw [List.all_cons,Ab3] at f;rcases Ab5.mp hu with rfl | hu
    · rw [Pt r f.1];exact O6 r rx f.1 fx
    · exact IB rx fx t f.2 u' hu
def inV (x:V) (xs:List V):Bool:=xs.any λ y=>eqV y x
def rIn (K:PySem.W.Frag) (neg:Bool):R2:=λ x y H Q=>∃ p xs,y= .ref p/\(SqL K H p xs\/SqT K H p xs)/\Cd x=true/\xs.all Cd=true/\Q (.bl (if neg then !inV x xs else inV x xs)) H
theorem Ky:OpR X (compareOp .NotIn) (rIn X.K true):=by
  intro pins s σ H x y v u Q I rx ry h;obtain ⟨p,xs,rfl,hq,fx,fs,q⟩:=h;cases ry;rcases hq with hq | hq
  · obtain ⟨its,r,pl,hz⟩:=I.list hq;refine SeqAt.notIn_listAt (eqU x) pl.isList (λ w hw=>IB rx fx r fs w (by simpa using hw)) ⟨.bl _,H,I,rfl,?_⟩;rw [show its.toArray.any (eqU x)=its.any (eqU x) by simp,KN r fs];exact q
  · obtain ⟨its,r,pl,hz⟩:=I.tuple hq;refine SeqAt.notIn_tupleAt (eqU x) pl (λ w hw=>IB rx fx r fs w (by simpa using hw)) ⟨.bl _,H,I,rfl,?_⟩;rw [show its.toArray.any (eqU x)=its.any (eqU x) by simp,KN r fs];exact q
theorem KI:Cf X (.type "list") (λ xs H Q=>∃ p ys,xs=[.ref p]/\(SqL X.K H p ys\/SqT X.K H p ys)/\∀ l,H l=none->Q (.ref l) (upd H l (.lst ys))):=by
  intro pins s σ H xs us Q I r h;obtain ⟨p,ys,rfl,hq,q⟩:=h;obtain ⟨u,rfl,rx⟩:=Ic r;cases rx;have fin:∀ (its:List Value),Vals ys its->ys.length<=sizeLine->∀ (h':Heap) (c':Nat),(∀ b o',s.heap.get? b=some o'->h'.get? b=some o')->
      h'.get? s.heap.objs.size=some { cls:= .type "list",dict:=none,data:= .seq its.toArray c',slots:= #[] }->EP X pins σ Q (.ref s.heap.objs.size) { s with heap:=h' }:=λ its r' hz h' c' kp e=>
    ⟨.ref s.heap.objs.size,_,I.laid (t':=s.toks) kp (Aa7 _) (show ObjOk X.prog X.w _ h' _ (.lst ys) from ⟨hz,its,c',r',e⟩),rfl,q _ (I.hok.fresh (Aa7 _))⟩
  rcases hq with hq | hq
  · obtain ⟨its,r',pl,hz⟩:=I.list hq;have hlen:=r'.length;obtain ⟨o,ho,hc,n,hd⟩:=pl.isList;exact call_list_seq p (.inl rfl) ho hc hd (λ h' c' kp e=>fin its r' hz h' c' kp e) (by simp only [Ab2] <;> omega)
  · obtain ⟨its,r',pl,hz⟩:=I.tuple hq;have hlen:=r'.length;obtain ⟨o,ho,hc,n,hd⟩:=pl;exact call_list_seq p (.inr rfl) ho hc hd (λ h' c' kp e=>fin its r' hz h' c' kp e) (by simp only [Ab2] <;> omega)
theorem JL:Cf X (.type "tuple") (λ xs H Q=>∃ p ys,xs=[.ref p]/\((SqL X.K H p ys/\∀ l,H l=none->Q (.ref l) (upd H l (.tup ys)))\/(SqT X.K H p ys/\Q (.ref p) H))):=by
  intro pins s σ H xs us Q I r h;obtain ⟨p,ys,rfl,h⟩:=h;obtain ⟨u,rfl,rx⟩:=Ic r;cases rx;rcases h with ⟨hq,q⟩ | ⟨hq,q⟩
  · obtain ⟨its,r',pl,hz⟩:=I.list hq;have hlen:=r'.length;refine call_tuple_list pl.isList (λ h' kp=> ?_) (by simp only [Ab2] <;> omega);have I1:Inv X pins σ H { s with heap:=h' }:=I.kept (t':=s.toks) kp;have I2:Inv X pins σ (upd H h'.objs.size (.tup ys)) { s with heap:=h'.push { cls:= .type "tuple",data:= .seq its.toArray } }:=
      I1.laid (t':=s.toks) (λ b o e=>Aa1 _ e) (Aa7 _) (show ObjOk X.prog X.w _ _ _ (.tup ys) from ⟨hz,its,r',IsTup.new _ _⟩)
    exact ⟨.ref h'.objs.size,_,I2,rfl,q _ (I1.hok.fresh (Aa7 _))⟩
  · obtain ⟨its,r',pl,hz⟩:=I.tuple hq;exact call_tuple_same pl ⟨.ref p,H,I,rfl,q⟩
def tyV (K:PySem.W.Frag) (T:String) (x:V) (H:Hp):Prop:=match x with
  | .str _=>T="str"
  | .int _=>T="int"
  | .ref p=>(T="list"/\∃ xs,SqL K H p xs)\/(T="tuple"/\∃ o,K.lookup p=some o/\o.cls= .type "tuple"/\o.dict=none)\/
      (T="dict"/\((∃ kvs,H p=some (.dK kvs))\/∃ kvs,H p=some (.dT kvs)))\/(T="set"/\∃ S n,H p=some (.set S n))
  | _=>False
theorem P5 {pins:List (Addr × Obj)} {σ:St} {H:Hp} {s:Shared} {T:String} {x:V} {v:Value} (I:Inv X pins σ H s) (r:RelV x v) (ty:tyV X.K T x H):
    s.TypeIs v T/\∀ a,v= .ref a->∃ ob,s.heap.get? a=some ob/\ob.dict=none:=by
  cases x with
  | str z=>
    obtain ⟨t,rfl⟩:=r;cases (show T="str" from ty);exact ⟨typeIs_str s z t,λ _ e=>nomatch e⟩
  | int i=>
    obtain ⟨t,rfl⟩:=r;cases (show T="int" from ty);exact ⟨typeIs_int s i t,λ _ e=>nomatch e⟩
  | ref p=>
    cases r;rcases ty with ⟨rfl,xs,hq⟩ | ⟨rfl,o,hk,hc,hd⟩ | ⟨rfl,hk⟩ | ⟨rfl,S,n,hk⟩
    · obtain ⟨its,_,pl,_⟩:=I.list hq;refine ⟨pl.isList.typeIs,λ a e=> ?_⟩;cases e;obtain ⟨o,n,e,c,hd,_⟩:=pl;exact ⟨o,e,hd⟩
    · refine ⟨⟨o,I.kIn p o hk,hc⟩,λ a e=> ?_⟩;cases e;exact ⟨o,I.kIn _ o hk,hd⟩
    · have z:∃ o,s.heap.get? p=some o/\o.ExactDict:=by
        rcases hk with ⟨kvs,hk⟩ | ⟨kvs,hk⟩
        · obtain ⟨_,_,_,_,o,_,_,e,ex,_⟩:=I.hok p _ hk;exact ⟨o,e,ex⟩
        · obtain ⟨_,_,_,_,o,_,_,e,ex,_⟩:=I.hok p _ hk;exact ⟨o,e,ex⟩
      obtain ⟨o,e,ex⟩:=z;refine ⟨⟨o,e,ex.1⟩,λ a e2=> ?_⟩;cases e2;exact ⟨o,e,ex.2.1⟩
    · obtain ⟨o,_,_,_,e,ex,_⟩:=I.hok p _ hk;refine ⟨⟨o,e,ex.1⟩,λ a e2=> ?_⟩;cases e2;exact ⟨o,e,ex.2.1⟩
  | _=>exact False.elim ty
def Tx (K:PySem.W.Frag) (T:String) (r:V->List V->Hp->VK->Prop) (to:TE):TE:=λ σ H Q=>to σ H λ x H1=>tyV K T x H1/\r x [] H1 Q
def tBM (K:PySem.W.Frag) (T:String) (r:V->List V->Hp->VK->Prop) (to:TE) (t:TA):TE:=λ σ H Q=>to σ H λ x H1=>tyV K T x H1/\t σ H1 λ xs H2=>r x xs H2 Q
variable {o e:Expr} {es:List Expr} {to:TE} {t:TA} {name:Str} {apos cpos:Pos} {T id:String} {r:V->List V->Hp->VK->Prop}
theorem Tf (pa:PlainAttrs T) (slot:Slot T name id) (hty:typeOf (.builtin id)=pure (.type "method_descriptor")) (hm:MtR X id r) (ho:PE X o to)
    (hbase:attributeBase o name X.env (eval o X.env)=eval o X.env:=by rfl) (hline:(apos.endLine == cpos.line)=true:=by rfl):PE X (.Call (.Attribute o name apos) [] [] cpos) (Tx X.K T r to):=by
  intro pins s σ H Q I h;refine wpAny_Call_method0_late hbase hline (thn (ho pins s σ H _ I h) λ v s1 ⟨x,H1,I1,r1,ty,q1⟩=> ?_);obtain ⟨h1,h2⟩:=P5 I1 r1 ty;exact ⟨T,id,pa,slot,hty,h1,h2,Calls.callWith_builtin rfl (PySem.evalArgs_none (hm pins s1 σ H1 x [] v [] Q I1 r1 .nil q1))⟩
theorem aB (pa:PlainAttrs T) (slot:Slot T name id) (hty:typeOf (.builtin id)=pure (.type "method_descriptor")) (hm:MtR X id r) (ho:PE X o to) (ha:PA X (e::es) t)
    (hbase:attributeBase o name X.env (eval o X.env)=eval o X.env:=by rfl)
    (hfew:((backTo cpos (starEach (e::es) X.env)).all (λ x=> !x.1)&&(backToKw cpos (keywordEach [] X.env)).all (λ x=>x.1.isSome)
      && decide ((e::es).length+([]:List Keyword).length+(if ([]:List Keyword).isEmpty then 0 else 1)<30))=true:=by rfl)
    (hline:(apos.endLine == cpos.line)=true:=by rfl) (hs:starEach (e::es) X.env=(false,eval e X.env)::starEach es X.env:=by rfl) (hplain:(backTo cpos (starEach es X.env)).any (·.1)=false:=by rfl):
    PE X (.Call (.Attribute o name apos) (e::es) [] cpos) (tBM X.K T r to t):=by
  intro pins s σ H Q I h;refine wpAny_Call_method_late hbase hfew hline rfl (thn (ho pins s σ H _ I h) λ v s1 ⟨x,H1,I1,r1,ty,q1⟩=> ?_);obtain ⟨h1,h2⟩:=P5 I1 r1 ty;refine ⟨T,id,pa,slot,hty,h1,h2,?_⟩;have hA:=ha cpos pins s1 σ H1 _ I1 q1;rw [hs] at hA ⊢;refine Calls.callWith_builtin (by show (false||(backTo cpos (starEach es X.env)).any (·.1))=false;rw [hplain] <;> rfl) (Calls.evalArgs_plain ?_);exact thn hA λ us s2 ⟨vs,H2,I2,r2,q2⟩=>hm pins s2 σ H2 x vs v us Q I2 r1 r2 q2
end
def MtM (X:Cx) (id:String) (r:V->List V->Hp->VK->Prop):Prop:=
  ∀ (pins:List (Addr × Obj)) (s:Shared) (σ:St) (H:Hp) (x:V) (xs:List V) (v:Value) (us:List Value) (Q:VK),Inv X pins σ H s->RelV x v->Vals xs us->r x xs H Q->
    wpAny (model X.prog X.w) X.A (call (.builtin id) (v::us)) (EP X pins σ Q) X.xe s
theorem Vals.one:∀ {x:V} {us:List Value},Vals [x] us->∃ u,us=[u]/\RelV x u
  | _,_, .cons r .nil=>⟨_,rfl,r⟩
theorem Vals.zero:∀ {us:List Value},Vals [] us->us=[]
  | _, .nil=>rfl
theorem Vals.dropLast {xs:List V} {us:List Value} (h:Vals xs us):Vals xs.dropLast us.dropLast:=by
  induction h with
  | nil=>exact .nil
  | cons r t ih=>
    cases t with
    | nil=>exact .nil
    | cons q t'=>exact .cons r ih
theorem Vals.rep {xs:List V} {us:List Value} (h:Vals xs us):∀ k:Nat,Vals (Ab1 k xs).flatten (Ab1 k us).flatten
  | 0=> .nil
  | k+1=>by
    rw [List.replicate_succ,List.replicate_succ,List.flatten_cons,List.flatten_cons];exact Vals.append h (Vals.rep h k)
theorem Mz {α:Type} (l:List α):l.eraseIdx (l.length - 1)=l.dropLast:=by
  induction l with
  | nil=>rfl
  | cons a r ih=>
    cases r with
    | nil=>rfl
    | cons b r=>
      have e:(a::b::r).length - 1=((b::r).length - 1)+1:=by
        have h1:(a::b::r).length=r.length+2:=rfl;have h2:(b::r).length=r.length+1:=rfl;omega
      rw [e,List.eraseIdx_cons_succ,ih]
      all_goals rfl
theorem Ke (its:List Value):∀ (k:Nat) (acc:List Value),
    List.foldl (λ x1 x2=>x1++x2) acc.toArray (Ab1 k its.toArray)=(acc++(Ab1 k its).flatten).toArray
  | 0,acc=>by simp
  | k+1,acc=>by
    have e:acc.toArray++its.toArray=(acc++its).toArray:=by simp
    have e2:(acc++its)++(Ab1 k its).flatten=acc++(Ab1 (k+1) its).flatten:=by
      rw [List.replicate_succ,List.flatten_cons,List.append_assoc]
    rw [<-e2, <-Ke its k (acc++its), <-e,List.replicate_succ,List.foldl_cons]
section
variable {X:Cx} {pins:List (Addr × Obj)} {σ:St} {H:Hp} {s:Shared} {l b:Addr} {xs ys zs:List V}
theorem Inv.lset {its its':List Value} {n:Nat} {f:Array Value->Array Value} {t':Nat} (I:Inv X pins σ H s) (hH:H l=some (.lst xs))
    (e:s.heap.get? l=some { cls:= .type "list",data:= .seq its.toArray n }) (hf:f its.toArray=its'.toArray) (hv:Vals ys its') (hz:ys.length<=sizeLine):
    Inv X pins σ (upd H l (.lst ys)) { s with heap:=s.heap.update l (Obj.mapSeq f),toks:=t' }:=by
  have q:=PySem.IsL.update e f;rw [hf] at q;refine I.write (x:=l) (e:=l) (by rw [hH];exact trivial) (.inl rfl) (λ b' u hb hu=>(Heap.get?_update_other s.heap (Obj.mapSeq f) (Ne.symm hb)).trans hu) ⟨_,q⟩ ?_;exact ⟨hz,its',_,hv,q⟩
theorem Inv.lnew {its:List Value} {t':Nat} (I:Inv X pins σ H s) (hv:Vals ys its) (hz:ys.length<=sizeLine):
    Inv X pins σ (upd H s.heap.objs.size (.lst ys)) { s with heap:=s.heap.push { cls:= .type "list",data:= .seq its.toArray },toks:=t' }:=
  I.laid (λ _ _ q=>Aa1 _ q) (Aa7 _) ⟨hz,its,0,hv,Aa8 _ rfl⟩
theorem Inv.fresh (I:Inv X pins σ H s):H s.heap.objs.size=none:=I.hok.fresh (Aa7 _)
theorem Inv.lstM (I:Inv X pins σ H s) (hH:H l=some (.lst xs)):xs.length<=sizeLine/\∃ (its:List Value) (n:Nat),Vals xs its/\xs.length=its.length/\s.heap.get? l=some { cls:= .type "list",data:= .seq its.toArray n }:=by
  obtain ⟨z,its,n,r,e⟩:=I.hok l _ hH;exact ⟨z,its,n,r,r.length,e⟩
theorem Pr {n:Nat} (h:n<=sizeLine):Builtin.List.listTooLong n=false:=by
  unfold Builtin.List.listTooLong;exact decide_eq_false (by omega)
end
section
variable {X:Cx}
def rAppend:V->List V->Hp->VK->Prop:=λ x vs H Q=>∃ l xs y,x= .ref l/\vs=[y]/\H l=some (.lst xs)/\xs.length<sizeLine/\Q .non (upd H l (.lst (xs++[y])))
theorem C7:MtM X "list.append" rAppend:=by
  intro pins s σ H x vs v us Q I rx rv h;obtain ⟨l,xs,y,rfl,rfl,hH,hz,q⟩:=h;cases rx;obtain ⟨u,rfl,ru⟩:=rv.one;obtain ⟨z,its,n,r,hl,e⟩:=I.lstM hH;refine call_meets F.slot_list_append ⟨_,e,rfl⟩ F.entry_list_append (F.args_list_append_2 _ _) (PySem.list_append l its.toArray n u (by rw [Ab2];omega)) ⟨e,?_⟩;refine ⟨.non,_,I.lset (its':=its++[u]) hH e (by simp) (r.append (.cons ru .nil)) ?_,rfl,q⟩;rw [Ac7,List.length_singleton];omega
def rPop:V->List V->Hp->VK->Prop:=λ x vs H Q=>∃ l xs y,x= .ref l/\vs=[]/\H l=some (.lst xs)/\xs[xs.length - 1]?=some y/\Q y (upd H l (.lst xs.dropLast))
theorem Tn:MtM X "list.pop" rPop:=by
  intro pins s σ H x vs v us Q I rx rv h;obtain ⟨l,xs,y,rfl,rfl,hH,hy,q⟩:=h;cases rx;have hus:=rv.zero;subst hus;obtain ⟨z,its,n,r,hl,e⟩:=I.lstM hH;obtain ⟨u,hu,ru⟩:=r.get hy;have hy':its.toArray[its.toArray.size - 1]?=some u:=by
    show its.toArray[its.length - 1]?=some u;rw [<-Array.getElem?_toList, <-hl];exact hu
  refine call_meets F.slot_list_pop ⟨_,e,rfl⟩ F.entry_list_pop (F.args_list_pop_1 _) (MeetsSeq.list_pop_last l its.toArray n u hy' (by rw [Ab2];omega)) ⟨e,?_⟩;refine ⟨y,_,I.lset (its':=its.dropLast) hH e ?_ r.dropLast ?_,ru,q⟩
  · show its.toArray.eraseIdxIfInBounds (its.toArray.size - 1)=its.dropLast.toArray;rw [Ab2,List.eraseIdxIfInBounds_toArray,Mz]
  · rw [List.length_dropLast];omega
def aD:R2:=λ x y H Q=>∃ l k xs,x= .ref l/\y= .int k/\H l=some (.lst xs)/\ -(2 ^ 63)<=k/\k<2 ^ 63/\xs.length*k.toNat<=sizeLine/\
  ∀ p,H p=none->Q (.ref p) (upd H p (.lst (Ab1 k.toNat xs).flatten))
theorem QK {α:Type} (xs:List α) (k:Nat):(Ab1 k xs).flatten.length=k*xs.length:=by
  induction k with
  | zero=>simp
  | succ k ih=>rw [List.replicate_succ,List.flatten_cons,Ac7,ih,Nat.succ_mul,Nat.add_comm]
theorem II:OpR X (binaryOp .Mult) aD:=by
  intro pins s σ H x y v u Q I rx ry h;obtain ⟨l,k,xs,rfl,rfl,hH,h1,h2,hz,q⟩:=h;cases rx;obtain ⟨t,rfl⟩:=ry;obtain ⟨z,its,n,r,hl,e⟩:=I.lstM hH;have hlen:its.toArray.size*k.toNat<=sizeLine:=by rw [Ab2, <-hl];exact hz
  have hcap:¬ its.toArray.size*k.toNat>(2 ^ 63 - 1) / 8:=by
    have:(sizeLine:Nat)<=(2 ^ 63 - 1) / 8:=by decide
    omega
  have hfit:¬ (!Builtin.List.listFitsIndex k)=true:=by
    rw [fitsIndex_both h1 h2];exact Ab0
  have hlong:¬ Builtin.List.listTooLong (its.toArray.size*k.toNat)=true:=by
    rw [Pr hlen];exact Ab0
  have hnew:List.foldl (λ x1 x2=>x1++x2) #[] (Ab1 (if its.toArray.isEmpty=true then 0 else k.toNat) its.toArray)=(Ab1 k.toNat its).flatten.toArray:=by
    have f0:∀ m:Nat,List.foldl (λ x1 x2=>x1++x2) #[] (Ab1 m its.toArray)=(Ab1 m its).flatten.toArray:=λ m=>by
      have:=Ke its m [];rw [List.nil_append] at this;exact this
    rw [f0];cases its with
    | nil=>simp
    | cons a r'=>rw [if_neg (by simp)]
  refine wpAny_binaryOp_repeat_ref (T:="list") (U:="int") (by decide) ⟨_,e,rfl⟩ (λ s'=>typeIs_int s' k t) noFill_list_mul F.fills_int_mul F.slot_int_rmul repeat_list F.slot_int_index.lookup
    (call_meets F.slot_int_rmul (typeIs_int s k t) F.entry_int_rmul (F.args_int_rmul_2 _ _) (int___rmul___int_list k t l its.toArray n)
      ⟨e,rfl,⟨_,e,rfl⟩,call_meets F.slot_list_mul ⟨_,e,rfl⟩ F.entry_list_mul (F.args_list_mul_2 _ _) (AutoListH.list___mul___list_int_3 l its.toArray n k t hfit hcap hlong) ⟨e,?_⟩⟩)
  rw [hnew];exact ⟨.ref _,_,I.lnew (t':=s.toks) (r.rep k.toNat) (by rw [QK,Nat.mul_comm];exact hz),rfl,q _ I.fresh⟩
end
section
variable {prog:Program} {w:World} {A:Around} {E:Value->Shared->Prop} {s:Shared}
end
section
variable {X:Cx}
end
end L2
namespace Att
open PySem PySem.W PySem.Calls PyProof.Rows
theorem HK {P:Params} {h:Heap}:∀ (ns:List Int) (vs:List Value),WellAll P h vs (ns.map WData.int)->IntsAre vs ns:=by
  intro ns
  induction ns with
  | nil=>
    intro vs w;rw [List.map_nil] at w;cases w;exact .nil
  | cons n ns ih=>
    intro vs w;rw [Ag3] at w;cases w with
    | cons a b=>
      cases a;exact .cons _ _ (ih _ b)
theorem N6 {l:OpenLaw} {n:Nat} (hn:l.most=some n) {P:Params} {h:Heap} {args:List WData} {vals:List Value}
    (hpre:l.row.toRowW.claim.pre args=true) (hwl:WellAll P h vals args):
    ∃ a vs ns,vals=[Value.ref a]/\args=[WData.list (ns.map WData.int)]/\h.get? a=some { cls:= .type "list",data:= .seq vs.toArray }/\IntsAre vs ns/\ns.length<=n:=by
  have hsh:WShape.hasAll [] args [.list .int]=true:=(pre_splitW hpre).1;have hc:l.pre.holds [] { args:=args }=true:=(pre_splitW hpre).2;obtain ⟨d,r,rfl,h1,h2⟩:=hasAllW_cons hsh;obtain rfl:=hasAllW_nil h2;obtain ⟨xs,rfl,h3⟩:=hasW_list h1;obtain ⟨ns,rfl⟩:=items_int h3;have hlen:ns.length<=n:=by
    unfold OpenLaw.pre at hc;have h4:(WTm.not (.lt (.lit (.int (n:Int))) (.len (.arg 0)))).holds [] { args:=[.list (ns.map .int)] }=true:=by
      have h4:=(holds_andW hc).1;rw [hn] at h4;exact h4
    have h5:=condW_of h4 (w_not (w_lt w_lit (w_len_list (w_arg rfl))));rw [Aa2] at h5;refine Nat.le_of_not_lt λ q=> ?_;have q':(n:Int)<((ns.length:Nat):Int):=by omega
    first
      | (rw [decide_eq_true q'] at h5;exact absurd h5 (by decide))
      | (simp at h5;omega)
  cases hwl with
  | cons w1 w2=>
    cases w2;cases w1 with
    | list ho hall=>exact ⟨_,_,ns,rfl,rfl,ho,HK ns _ hall,hlen⟩
theorem N5 (l:OpenLaw) (args:List WData):l.row.toRowW.claim.post args (.bool true) args=true:=
  postW_of (r:=l.row.toRowW) (X:=(true == true))
    (show WShape.has [] (.bool true) .bool=true by first | rfl | decide | simp [WShape.has,WShape.arms,WShape.armsAll])
    (show (WTm.eq .res (.lit (.bool true))).value [] { args:=args,res:=some (.bool true),after:=args }=some (.bool (true == true)) from w_eq_bool (w_res rfl) w_lit) rfl
theorem attach_call {l:OpenLaw} {n:Nat} {q:Program} {loose:List Str} {XP:(Str->Option Value)->Heap->Prop} {YP:World->Heap->Prop} {d:DefRec}
    (hn:l.most=some n) (hdf:d.params.defaults=[])
    (call:∀ (w:World) (s₀ s₁:Shared) (mg mb:Str->Option Value) (fa:Addr) (o:Obj) (pm cd doc:Value) (a:Addr) (vs:List Value) (ns:List Int),
      Ground q loose [] XP w s₀ mg mb s₁.heap->YP w s₁.heap->
      s₁.heap.get? fa=some o->o.data= .func (docDef d.name d.params d.body d.scope pm cd doc)->s₁.heap.CodeRec cd d.name->mg d.name=some (.ref fa)->
      s₁.heap.get? a=some { cls:= .type "list",data:= .seq vs.toArray }->IntsAre vs ns->ns.length<=n->s₁.gens= #[]->
      codeAny (model l.prog w) callerA (.call (.ref fa) ⟨[.ref a],[]⟩) (λ r s'=>r= .ok (.ret (.bool true))/\OldK s₁.heap s'.heap/\s'.os=s₁.os/\AllBare s'.gens) s₁):
    WalkO q loose XP YP l.row.toRowW d [] (λ f vs=>PySem.call f vs):=by
  intro w s₀ s₁ mg mb G Y fa o pm cd doc dV kV ho hd hcd hD hmg hg args vals as hpre hlay hrd hwl hlo;obtain rfl:dV= .none:=Dflts.none hD hdf;obtain rfl:kV= .none:=Dflts.noKw hD;obtain ⟨a,vs,ns,rfl,rfl,hobj,hints,hlen⟩:=N6 hn hpre hwl;refine enter_call (codeAny_mono (call w s₀ s₁ mg mb fa o pm cd doc a vs ns G Y ho (fd_plain hd) hcd hmg hobj hints hlen hg) λ r s' hq=> ?_);obtain ⟨rfl,h2,h3,h4⟩:=hq;exact ⟨.inl ⟨.bool true, .bool true,[],rfl,λ _=>rfl, .bool true,N5 l _,λ _=>⟨List.Pairwise.nil,λ _ hm=>(nomatch hm)⟩⟩,h2,h3,h4⟩
section
variable {prog:Program} {w:World} {A:Around} {E:Value->Shared->Prop} {s:Shared} {K:Frag}
end
end Att
namespace L2
open PySem PySem.Spec PyProof.Rows
theorem Kf:∀ {vs:List Value} {ns:List Int},IntsAre vs ns->Vals (ns.map V.int) vs
  | _,_, .nil=> .nil
  | _,_, .cons n t h=> .cons ⟨t,rfl⟩ (Kf h)
def Te (H:Hp):Prop:=∀ b,H b=none\/∃ o xs,H b=some (.frz o (.lst xs))
theorem O7 {P:Program} {w:World} {K:PySem.W.Frag} {mg mb:Str->Option Value} {CX:CXT} {k:Nat} {fa a:Addr} {fd:FuncData} {x:Str} {sp:Sp} {s₁:Shared} {vs:List Value} {ns:List Int}
    (KX:K.In s₁.heap) (hns:s₁.heap.Ns mainGlobals mg) (hb:s₁.heap.Ns builtinsNs mb) (hbb:∀ x:Str,x≠"__name__"->mb x=bootBuiltins x) (hlim:s₁.heap.NoLimit) (hg:s₁.gens= #[])
    (ha:s₁.heap.get? a=some { cls:= .type "list",data:= .seq vs.toArray }) (hi:IntsAre vs ns) (hl:ns.length<=sizeLine) (hr:Room k callerA)
    (F:∀ base:Heap,K.In base->base.Ns mainGlobals mg->FnOk P w K mg base CX k fa fd [x] sp) (hbind:∀ (s:Shared) (u:Value),BindsTo s fd ⟨[u],[]⟩ [(x,u)])
    (hsp:∀ H:Hp,Te H->SqL K H a (ns.map V.int)->sp [.ref a] H (λ v _=>v= .bl true) λ _ _ _=>False)
    (hCX:∀ H e s',CX [] H s₁ (λ _ _ _=>False) e s'->False):
    codeAny (model P w) callerA (.call (.ref fa) ⟨[.ref a],[]⟩) (λ r s'=>r= .ok (.ret (.bool true))/\OldK s₁.heap s'.heap/\s'.os=s₁.os/\AllBare s'.gens) s₁:=by
  have rv:=Kf hi;have lenV:=hi.length;have core:∀ H:Hp,Te H->SqL K H a (ns.map V.int)->HOk P w H s₁.heap->(∀ b,H b≠none->b=a)->(H a≠none->K.lookup a=none)->
      codeAny (model P w) callerA (.call (.ref fa) ⟨[.ref a],[]⟩) (λ r s'=>r= .ok (.ret (.bool true))/\OldK s₁.heap s'.heap/\s'.os=s₁.os/\AllBare s'.gens) s₁:=by
    intro H hO hS hok hA hK;have base_of:∀ {b:Addr} {o:Obj},s₁.heap.get? b=some o->H b=none->(K3 s₁.heap H).get? b=some o:=λ e n=>OV e n;have noA:∀ {b:Addr} {o:Obj} {es:Array DictEntry} {ep:Nat},s₁.heap.get? b=some o->o.data= .dict es ep->H b=none:=λ {b o es ep} e d=>by
      cases q:H b with
      | none=>rfl
      | some u=>
        have e':b=a:=hA b (by rw [q];simp);subst e';rw [ha] at e;cases e;have d':Data.seq vs.toArray _=Data.dict es ep:=d;cases d'
    have nsK:∀ {b:Addr} {m:Str->Option Value},s₁.heap.Ns b m->(K3 s₁.heap H).Ns b m:=λ {b m} ⟨o,es,ep,e,d,r⟩=>⟨o,es,ep,base_of e (noA e d),d,r⟩;have hKb:K.In (K3 s₁.heap H):=λ b o e=>base_of (KX b o e) (by
      cases q:H b with
      | none=>rfl
      | some u=>
        have e':b=a:=hA b (by rw [q];simp);subst e';rw [hK (by rw [q];simp)] at e;cases e)
    have hM:Mod K mg (K3 s₁.heap H):=⟨hKb,nsK hns,⟨mb,nsK hb,hbb⟩,let ⟨mc,h1,h2⟩:=hlim;⟨mc,nsK h1,h2⟩⟩;have e0:Env0 P w K mg (K3 s₁.heap H) callerA [] s₁ H:=⟨rfl,hM,λ b o e=>RB e,Nat.le_of_eq (NV _ _),trivial,λ b hb=>absurd (show b∈([]:List Addr) from hb) (by simp),hok, .of_eq hg⟩;refine codeAny_mono ((F _ hKb (nsK hns)).run callerA [] s₁ H ⟨[.ref a],[]⟩ [.ref a] [.ref a] _ _ hr e0 (hbind s₁ (.ref a)) (.cons rfl .nil) (hsp H hO hS)) λ r s' h=> ?_;cases r with
    | error e=>exact (hCX H e s' h).elim
    | ok fl=>
      cases fl with
      | next=>exact False.elim h
      | brk=>exact False.elim h
      | cont=>exact False.elim h
      | ret u=>
        obtain ⟨v,H',os,bare,un,hok',r',q⟩:=h;have q':v= .bl true:=q;subst q';obtain rfl:u=Value.bool true:=r';refine ⟨rfl,OldK.of_keep λ b o e=> ?_,os,bare⟩;cases q:H b with
        | none=>exact un.keep b o e q (by intro z;exact absurd (show b∈([]:List Addr) from z) (by simp)) (by simp)
        | some u=>
          rcases hO b with z | ⟨ob,xs,z⟩
          · rw [q] at z;cases z
          · have z2:=un.frzs b ob _ z;obtain ⟨e1,_⟩:=hok b _ z;obtain ⟨e2,_⟩:=hok' b _ z2;rw [e] at e1;cases e1;exact e2
  cases hk:K.lookup a with
  | some o=>
    have e:=KX a o hk;rw [ha] at e;cases e;refine core (λ _=>none) (λ _=> .inl rfl) (.inr ⟨_,vs.toArray,_,hk,rfl,rfl,rfl,by rw [Ab2,lenV];exact hl,by simpa using rv⟩) (λ b u z=>by have z':(none:Option HO)=some u:=z;cases z') (λ b z=>absurd rfl z) λ z=>absurd rfl z
  | none=>
    refine core (λ b=>if b=a then some (.frz { cls:= .type "list",data:= .seq vs.toArray } (.lst (ns.map V.int))) else none) (λ b=> ?_) (.inl (.inr ⟨{ cls:= .type "list",data:= .seq vs.toArray },if_pos rfl⟩)) (λ b u z=> ?_) (λ b z=> ?_) λ _=>hk
    · by_cases hb:b=a
      · exact .inr ⟨_,_,if_pos hb⟩
      · exact .inl (if_neg hb)
    · by_cases hb:b=a
      · have z':=(if_pos hb).symm.trans z;cases z';subst hb;exact ⟨ha,by rw [Aa2];exact hl,vs,_,rv,ha⟩
      · have z':=(if_neg hb).symm.trans z;cases z'
    · by_cases hb:b=a
      · exact hb
      · exact absurd (if_neg hb) z
theorem walk_of {l:PySem.W.OpenLaw} {n k:Nat} {q:Program} {loose:List Str} {XP:(Str->Option Value)->Heap->Prop} {YP:World->Heap->Prop} {d:DefRec} {K:Params->PySem.W.Frag} {CX:World->CXT} {sp:World->Sp} {x:Str}
    (hn:l.most=some n) (hn2:n<=sizeLine) (hdf:d.params.defaults=[]) (hr:Room k callerA)
    (hY:∀ (w:World) (h:Heap),YP w h->(K w.params).In h)
    (F:∀ (w:World) (mg:Str->Option Value) (fa:Addr) (h:Heap),(K w.params).In h->h.Ns mainGlobals mg->mg d.name=some (.ref fa)->
      ∃ fd:FuncData,(∀ (s:Shared) (u:Value),BindsTo s fd ⟨[u],[]⟩ [(x,u)])/\
        ∀ base:Heap,(K w.params).In base->base.Ns mainGlobals mg->FnOk l.prog w (K w.params) mg base (CX w) k fa fd [x] (sp w))
    (hsp:∀ (w:World) (H:Hp) (a:Addr) (ns:List Int),ns.length<=n->Te H->SqL (K w.params) H a (ns.map V.int)->sp w [.ref a] H (λ v _=>v= .bl true) λ _ _ _=>False)
    (hCX:∀ (w:World) (H:Hp) (s:Shared) (e:Value) (s':Shared),CX w [] H s (λ _ _ _=>False) e s'->False):
    PySem.W.WalkO q loose XP YP l.row.toRowW d [] (λ f vs=>PySem.call f vs):=by
  refine Att.attach_call hn hdf λ w s₀ s₁ mg mb fa o pm cd doc a vs ns G Y ho hd hcd hmg hobj hints hlen hg=> ?_;have KX:=hY w _ Y;obtain ⟨fd,hb,hF⟩:=F w mg fa _ KX G.T.g hmg;exact O7 KX G.T.g G.T.b G.T.builtins G.T.nolimit hg hobj hints (Ab8 hlen hn2) hr hF hb (λ H hO hS=>hsp w H a ns hlen hO hS) λ H e s'=>hCX w H s₁ e s'
abbrev CX0:CXT:=λ _ _ _ _ _ _=>False
abbrev E0:XK:=λ _ _ _=>False
theorem Ov {X:Cx}:BP CX0 X E0:=λ _ _ _ _ _ _ _ h=>h.elim
structure Fun (K:PySem.W.Frag) (x qual:Str) (st:Stmt) (f:Addr) (fd:FuncData):Prop where
  ex:∃ (oc:Value) (od:Option Addr) (kV doc pm:Value) (an:Option Addr) (cdv ct:Value) (osl:Array (Option Value)),
    fd=PySem.W.fnOf x qual (Fw st) (Ds st) (Ah st) .none kV doc pm an cdv ct/\K.lookup f=some ⟨oc,od, .func fd,osl⟩/\PySem.W.codeIn K cdv qual=true
  kp:PySem.W.keepIn K (.ref f)=true
section
variable {P:Program} {w:World} {K:PySem.W.Frag} {mg:Str->Option Value} {base:Heap}
theorem Fun.ok {x qual:Str} {st:Stmt} {f:Addr} {fd:FuncData} {N ps:List Str} {k:Nat} {sp:Sp} (F:Fun K x qual st f fd) (S:FnScope N ps (Ah st)) (len:∀ vs H Q E,sp vs H Q E->vs.length=ps.length)
    (hbody:∀ (cdv:Value) (A:Around) (outer:List Env) (s:Shared) (H:Hp) (vs:List V) (Q:VK) (E:XK),Room k (A.deeper (envOfC qual (Ah st) s.heap.objs.size f cdv))->sp vs H Q E->
      ∃ t,PSs (EV CX0 P w K mg base N qual (Ah st) f cdv A outer s H E).nox (Ds st) t/\t { nx:=λ _ H'=>Q .non H',rt:=Q } (start N vs) H):FnOk P w K mg base CX0 (k+1) f fd ps sp:=by
  obtain ⟨oc,od,kV,doc,pm,an,cdv,ct,osl,rfl,lk,hcd⟩:=F.ex;refine RI lk hcd S len λ A outer s H vs Q E hr hsp=> ?_;obtain ⟨t,h,q⟩:=hbody cdv A outer s H vs Q E hr hsp;exact ⟨t,h.nox,q⟩
theorem fun_mk {x qual:Str} {st:Stmt} {f:Addr} {oc:Value} {od an:Option Addr} {osl:Array (Option Value)} {kV doc pm cdv ct:Value} (l:K.lookup f=some ⟨oc,od, .func (PySem.W.fnOf x qual (Fw st) (Ds st) (Ah st) .none kV doc pm an cdv ct),osl⟩)
    (c:PySem.W.codeIn K cdv qual=true) (k:PySem.W.keepIn K (.ref f)=true):Fun K x qual st f (PySem.W.fnOf x qual (Fw st) (Ds st) (Ah st) .none kV doc pm an cdv ct):=⟨⟨oc,od,kV,doc,pm,an,cdv,ct,osl,rfl,l,c⟩,k⟩
end
section
variable {X:Cx}
theorem pv (i:Nat) {x:Str} {pos:Pos} (hN:X.N[i]?=some x:=by rfl) (hv:Vis X.env.scope x:=by first | exact Or.inl rfl | exact Or.inr (Or.inl rfl) | exact Or.inr (Or.inr rfl)) (hd:(x == ("__debug__":Str))=false:=by decide)
    (hcd:(x == ("__classdict__":Str))=false:=by decide):PE X (.Name x pos) (SU i):=S9 hN hv hd hcd
end
theorem Cm {A B:Prop} (h:B):if false=true then A else B:=by
  rw [if_neg Ab0];exact h
theorem CI {A B:Prop} (h:A):if true=true then A else B:=by
  rw [if_pos rfl];exact h
def Same (H H':Hp):Prop:=∀ b o,H b=some o->H' b=some o
theorem Same.refl (H:Hp):Same H H:=λ _ _ h=>h
theorem Same.trans {H H1 H2:Hp} (a:Same H H1) (b:Same H1 H2):Same H H2:=λ c o h=>b c o (a c o h)
theorem Same.free {H H':Hp} (e:Same H H') {l:Addr} (h:H' l=Option.none):H l=Option.none:=by
  cases q:H l with
  | none=>rfl
  | some o=>
    rw [e l o q] at h;cases h
theorem Same.seq {K:PySem.W.Frag} {H H':Hp} {a:Addr} {xs:List V} (e:Same H H') (h:SqL K H a xs):SqL K H' a xs:=by
  rcases h with (h | ⟨o,h⟩) | h
  · exact .inl (.inl (e _ _ h))
  · exact .inl (.inr ⟨o,e _ _ h⟩)
  · exact .inr h
section
variable {κ:Type} [DecidableEq κ]
def GM (kvs:List (κ × V)) (k:κ):Option V:=(kvs.find? λ kv=>decide (kv.1=k)).map (·.2)
def Ja (kvs:List (κ × V)) (k:κ) (v:V):List (κ × V):=
  if (kvs.any λ kv=>decide (kv.1=k))=true then kvs.map (λ kv=>if kv.1=k then (kv.1,v) else kv) else kvs++[(k,v)]
theorem Lk {p:κ × V} {r:List (κ × V)} {k:κ} (e:p.1=k):GM (p::r) k=some p.2:=by simp [GM,List.find?_cons,e]
theorem LA {p:κ × V} {r:List (κ × V)} {k:κ} (e:¬ p.1=k):GM (p::r) k=GM r k:=by simp [GM,List.find?_cons,e]
theorem Hg (kvs:List (κ × V)) (k:κ) (v:V):(Ja kvs k v).length<=kvs.length+1:=by
  unfold Ja;split
  · rw [Aa2];omega
  · rw [Ac7,Ac4,List.length_nil];omega
theorem KV.val {kvs:List (κ × V)} {vs:List (κ × Value)} (r:KV kvs vs) (k:κ):RelO (GM kvs k) (valueAt vs k):=by
  unfold KV at r
  induction r with
  | nil=>exact True.intro
  | @cons p q ps qs h t ih=>
    obtain ⟨h1,h2⟩:=h;by_cases e:p.1=k
    · have e':q.1=k:=h1.symm.trans e;have b:valueAt (q::qs) k=some q.2:=by simp [valueAt,List.find?_cons,e']
      rw [Lk e,b];exact h2
    · have e':¬ q.1=k:=λ z=>e (h1.trans z);have b:valueAt (q::qs) k=valueAt qs k:=by simp [valueAt,List.find?_cons,e']
      rw [LA e,b];exact ih
theorem KV.any {kvs:List (κ × V)} {vs:List (κ × Value)} (r:KV kvs vs) (k:κ):(kvs.any λ kv=>decide (kv.1=k))=vs.any λ kv=>decide (kv.1=k):=by
  unfold KV at r
  induction r with
  | nil=>rfl
  | cons h t ih=>rw [List.any_cons,List.any_cons,ih,h.1]
theorem KV.repl {kvs:List (κ × V)} {vs:List (κ × Value)} (r:KV kvs vs) (k:κ) {y:V} {u:Value} (ry:RelV y u):
    KV (kvs.map λ kv=>if kv.1=k then (kv.1,y) else kv) (vs.map λ kv=>if kv.1=k then (kv.1,u) else kv):=by
  unfold KV at r ⊢
  induction r with
  | nil=>exact .nil
  | @cons p q ps qs h t ih=>
    rw [Ag3,Ag3];refine .cons ?_ ih;obtain ⟨h1,h2⟩:=h;by_cases e:p.1=k
    · rw [if_pos e,if_pos (h1.symm.trans e)];exact ⟨h1,ry⟩
    · rw [if_neg e,if_neg (λ z=>e (h1.trans z))];exact ⟨h1,h2⟩
theorem KV.put {kvs:List (κ × V)} {vs:List (κ × Value)} (r:KV kvs vs) (k:κ) {y:V} {u:Value} (ry:RelV y u):KV (Ja kvs k y) (stored vs k u):=by
  unfold Ja stored;rw [r.any k];by_cases e:(vs.any λ kv=>decide (kv.1=k))=true
  · rw [if_pos e,if_pos e];exact r.repl k ry
  · rw [if_neg e,if_neg e];exact Paired.snoc r ⟨rfl,ry⟩
theorem KV.length {kvs:List (κ × V)} {vs:List (κ × Value)} (r:KV kvs vs):kvs.length=vs.length:=Paired.length r
end
theorem Nr {P:Program} {w:World} {k:Key} {u:Value} (r:RelV (kV k) u):(Bs P w).is k u=true:=by
  cases k with
  | inl i=>obtain ⟨t,e⟩:=(show ∃ t,u=Value.int i t from r);subst e;exact Lp P w i t
  | inr x=>obtain ⟨t,e⟩:=(show ∃ t,u=Value.str x t from r);subst e;exact Lf P w x t
theorem Kd {P:Program} {w:World}:∀ {ks:List Key} {us:List Value},Vals (ks.map kV) us->ItemsAre (Bs P w) ks us
  | [],_,r=>by rw [List.map_nil] at r;cases r;exact .nil
  | k::ks,_,r=>by
    rw [Ag3] at r;cases r with
    | cons h t=>exact .cons (Nr h) (Kd t)
abbrev KT (H:Hp):List (List Key × V)->List (List Key × Addr × Value)->Prop:=Paired λ p q=>p.1=q.1/\H q.2.1=some (.tup (p.1.map kV))/\RelV p.2 q.2.2
theorem KT.val {H:Hp} {kvs:List (List Key × V)} {xs:List (List Key × Addr × Value)} (r:KT H kvs xs) (k:List Key):RelO (GM kvs k) ((atKey xs k).map (·.2)):=by
  induction r with
  | nil=>exact True.intro
  | @cons p q ps qs h t ih=>
    obtain ⟨h1,_,h2⟩:=h;by_cases e:p.1=k
    · have e':q.1=k:=h1.symm.trans e;have b:atKey (q::qs) k=some q.2:=by simp [atKey,List.find?_cons,e']
      rw [Lk e,b];exact h2
    · have e':¬ q.1=k:=λ z=>e (h1.trans z);have b:atKey (q::qs) k=atKey qs k:=by simp [atKey,List.find?_cons,e']
      rw [LA e,b];exact ih
section
variable {P:Program} {w:World} {H:Hp} {h:Heap} {a:Addr}
theorem RU {u:HO} (ok:HOk P w H h) (e:Rd H a u):ObjOk P w H h a u:=e.ok ok
theorem OS {kvs:List (Key × V)} (ok:HOk P w H h) (e:Rd H a (.dK kvs)):kvs.length<=sizeLine/\(a == sysModules)=false/\∃ vs,KV kvs vs/\h.DictOf (Bs P w) a vs:=
  show ObjOk P w H h a (.dK kvs) from RU ok e
theorem Nt {kvs:List (Key × V)} (ok:HOk P w H h) (e:H a=some (.dK kvs)):kvs.length<=sizeLine/\(a == sysModules)=false/\∃ vs,KV kvs vs/\h.DictOf (Bs P w) a vs:=OS ok (.inl e)
theorem P9 {ks:List Key} (ok:HOk P w H h) (e:H a=some (.tup (ks.map kV))):(tupleKind (Bs P w)).is h ks a:=by
  obtain ⟨_,its,r,o,h1,h2,n,h3⟩:=(show ObjOk P w H h a (.tup (ks.map kV)) from ok a _ e);exact ⟨o,its.toArray,n,h1,h2,h3,by simpa using Kd r⟩
theorem RZ {kvs:List (List Key × V)} (ok:HOk P w H h) (e:Rd H a (.dT kvs)):kvs.length<=sizeLine/\(a == sysModules)=false/\
    ∃ xs,KT H kvs xs/\h.DictOfH (tupleKind (Bs P w)) a xs:=by
  obtain ⟨z,y,xs,r,o,es,ep,h1,h2,h3,h4,h5⟩:=(show ObjOk P w H h a (.dT kvs) from RU ok e);refine ⟨z,y,xs,r,o,es,ep,h1,h2,h3,h4,λ x hx=> ?_,h5⟩;have all:∀ {l:List (List Key × V)} {m:List (List Key × Addr × Value)},KT H l m->∀ x∈m,(tupleKind (Bs P w)).is h x.1 x.2.1:=by
    intro l m q
    induction q with
    | nil=>intro x hx;exact nomatch hx
    | @cons p q ps qs hq t ih=>
      intro x hx;rcases Ab5.mp hx with e | hx
      · subst e;exact P9 ok (by rw [<-hq.1];exact hq.2.1)
      · exact ih x hx
  exact all r x hx
end
def DGet (H:Hp) (a:Addr) (y:V) (r:Option V):Prop:=
  (∃ kvs k,Rd H a (.dK kvs)/\y=kV k/\r=GM kvs k)\/∃ kvs k b,Rd H a (.dT kvs)/\y= .ref b/\H b=some (.tup (k.map kV))/\r=GM kvs k
theorem DGet.k {H:Hp} {a:Addr} {kvs:List (Key × V)} {k:Key} (e:H a=some (.dK kvs)):DGet H a (kV k) (GM kvs k):= .inl ⟨kvs,k, .inl e,rfl,rfl⟩
section
variable {X:Cx} {pins:List (Addr × Obj)} {σ:St} {H:Hp} {s:Shared} {a:Addr} {y v:V} {u r:Value} {o:Option V} {A:Around} {E:Value->Shared->Prop}
theorem Inv.big (I:Inv X pins σ H s):sysModules<s.heap.objs.size:=by
  have h:mainGlobals<s.heap.objs.size:=(I.mod.glob.keeps I.bk).lt;exact Nat.lt_trans (by decide) h
theorem NE {Q:Value->Shared->Prop} (hu:A.units+1<cLine) (I:Inv X pins σ H s) (g:DGet H a y (some v)) (ry:RelV y u) (h:∀ w' s',Inv X pins σ H s'->RelV v w'->Q w' s'):
    wpAny (model X.prog X.w) A (getItem (.ref a) u) Q E s:=by
  rcases g with ⟨kvs,k,e,ey,l⟩ | ⟨kvs,k,b,e,ey,eb,l⟩
  · subst ey;obtain ⟨z,hd,vs,rel,dd⟩:=OS I.hok e;obtain ⟨w',hw,rw'⟩:=RelO.some_of (v:=v) (o:=valueAt vs k) (by rw [l];exact rel.val k);exact wpAny_getItem_of (Nr ry) dd.mapOf hw (h w' _ (I.tok _) rw')
  · subst ey;cases (show u=Value.ref b from ry);obtain ⟨z,hd,xs,rel,dd⟩:=RZ I.hok e;obtain ⟨w',hw,rw'⟩:=RelO.some_of (v:=v) (o:=(atKey xs k).map (·.2)) (by rw [l];exact rel.val k);obtain ⟨p,hp,hp2⟩:=Ag5.mp hw;refine wpAny_getItem_heap (tupleKind_room_in1 hu) (P9 I.hok eb) dd hp ?_;rw [hp2];exact h w' _ (I.tok _) rw'
theorem Kv {h':Heap} {t':Nat} {ob:HO} (I:Inv X pins σ H s) (mu:Mut (H a)) (hs:Heap.SameBut a s.heap h') (he:∃ q,h'.get? a=some q) (new:ObjOk X.prog X.w (upd H a ob) h' a ob):
    Inv X pins σ (upd H a ob) { s with heap:=h',toks:=t' }:=
  I.write (x:=a) (e:=a) mu (.inl rfl) (λ b q hb z=>(hs.2 b hb).trans z) he new
theorem MH {P:Program} {w:World} {H':Hp} {h':Heap} {kvs:List (Key × V)} {vs:List (Key × Value)} (z:kvs.length<=sizeLine) (hd:(a == sysModules)=false) (rel:KV kvs vs) (dd:h'.DictOf (Bs P w) a vs):
    ObjOk P w H' h' a (.dK kvs):=⟨z,hd,vs,rel,dd⟩
end
section
variable {X:Cx} {pins:List (Addr × Obj)} {σ:St} {H:Hp} {s:Shared} {a:Addr} {kvs:List (Key × V)} {k:Key} {u:Value} {A:Around} {E:Value->Shared->Prop}
end
def UM (i:Expr):Prop:=∀ ov iv,subscripted i false ov iv=operate [ov,iv] (getItem ov iv)
theorem Ql {prog:Program} {w:World} {A:Around} {E:Value->Shared->Prop} {s:Shared} {env:Env} {value slice:Expr} {pos:Pos} {T id:String} {Q:Value->Shared->Prop}
    (hl:typeLookup (.type T) "__getitem__"=pure (some (.builtin id))) (hs:UM slice)
    (h:wpAny (model prog w) A (eval value env) (λ o s₁=>wpAny (model prog w) A (eval slice env) (λ i s₂=>s₂.TypeIs o T/\wpAny (model prog w) A (getItem o i) Q E s₂) E s₁) E s):
    wpAny (model prog w) A (eval (.Subscript value slice pos) env) Q E s:=by
  refine Subscript_ (Ad5 h (λ o s₁ h₁=>Ad5 h₁ (λ i s₂ h₂=> ?_) λ _ _ x=>x) λ _ _ x=>x);obtain ⟨hT,h₂⟩:=h₂;unfold subscriptTail;refine Aa0 ?_;rw [getitemInPython_of_ne hT.not_modules];refine Aa0 (wpAny_specialOf hT hl ?_);have fin:wpAny (model prog w) A (subscripted slice false o i) (λ r s₃=>wpAny (model prog w) A (letTemporaryGo value o r >>= λ _=>pure r) Q E s₃) E s₂:=by
    rw [hs o i];exact wpAny_operating (Ad5 h₂ (λ r s₃ h₃=>Aa0 (wpAny_letTemporaryGo (Aa5 h₃))) λ _ _ x=>x)
  first
    | exact Aa5 (Aa0 fin)
    | exact Aa0 (Aa5 (Aa0 fin))
    | exact Aa0 fin
theorem LD {X:Cx} {pins:List (Addr × Obj)} {σ:St} {H:Hp} {s:Shared} {a:Addr} {y:V} {o:Option V} (I:Inv X pins σ H s) (g:DGet H a y o):s.TypeIs (.ref a) "dict":=by
  rcases g with ⟨kvs,k,e,_,_⟩ | ⟨kvs,k,b,e,_,_,_⟩
  · obtain ⟨_,_,vs,_,dd⟩:=OS I.hok e;exact dd.typeIs
  · obtain ⟨_,_,xs,_,dd⟩:=RZ I.hok e;exact dd.typeIs
def Se (td ty:TE):TE:=λ σ H Q=>td σ H λ x H1=>ty σ H1 λ y H2=>∃ a v,x= .ref a/\DGet H2 a y (some v)/\Q v H2
section
variable {X:Cx} {o i e value:Expr} {pos pos' tpos:Pos} {td ty tv:TE}
theorem Ei (hu:X.A.units+1<cLine) (ho:PE X o td) (hi:PE X i ty) (hs:UM i):PE X (.Subscript o i pos) (Se td ty):=by
  intro pins s σ H Q I h;refine Ql PySem.F.slot_dict_getitem.lookup hs (thn (ho pins s σ H _ I h) λ u s1 ⟨x,H1,I1,rx,q1⟩=>thn (hi pins s1 σ H1 _ I1 q1) λ iv s2 ⟨y,H2,I2,ry,a,v,ex,g,q2⟩=> ?_);subst ex;obtain rfl:u=Value.ref a:=rx;exact ⟨LD I2 g,NE hu I2 g ry λ w' s3 I3 rw'=>⟨v,H2,I3,rw',q2⟩⟩
end
theorem IY {P:Program} {w:World} {H:Hp} (h:Heap) (hb:sysModules<h.objs.size):ObjOk P w H (h.push { cls:= .type "dict",data:= .dict #[] }) h.objs.size (.dK []):=
  ⟨Nat.zero_le _,beq_eq_false_iff_ne.mpr (Ne.symm (Ac2 hb)),[], .nil,Heap.DictOf.new h⟩
def Sv:TE:=λ _ H Q=>∀ p,H p=none->Q (.ref p) (upd H p (.dK []))
section
variable {X:Cx} {pos:Pos}
theorem E3:PE X (.Dict [] [] pos) Sv:=λ pins s σ H Q I h=>
  wpAny_Dict_empty ⟨.ref s.heap.objs.size,_,I.laid (a:=s.heap.objs.size) (o:= .dK []) (t':=s.toks) (λ _ _ q=>Aa1 _ q) (Aa7 _) (IY s.heap I.big),rfl,h _ (I.hok.fresh (Aa7 _))⟩
end
def F0:List (TE × TE)->St->Hp->(List (V × V)->Hp->Prop)->Prop
  | [],_,H,Q=>Q [] H
  | (tk,tv)::r,σ,H,Q=>tk σ H λ x H1=>tv σ H1 λ y H2=>F0 r σ H2 λ ps H3=>Q ((x,y)::ps) H3
abbrev VV:List (V × V)->List (Value × Value)->Prop:=Paired λ p q=>RelV p.1 q.1/\RelV p.2 q.2
def PPs (X:Cx) (pos:Pos) (keys:List (Option Expr)) (values:List Expr) (trs:List (TE × TE)):Prop:=
  ∀ (pins:List (Addr × Obj)) (s:Shared) (σ:St) (H:Hp) (Q:List (V × V)->Hp->Prop),Inv X pins σ H s->F0 trs σ H Q->
    wpAny (model X.prog X.w) X.A (evalPairs (pairTrees keys values X.env pos)) (λ vs s'=>∃ ps H',Inv X pins σ H' s'/\VV ps vs/\Q ps H') X.xe s
theorem Dw {X:Cx} {pos:Pos}:PPs X pos [] [] []:=λ pins s σ H Q I h=>pairTrees_nil_walk ⟨[],H,I, .nil,h⟩
theorem BC {X:Cx} {pos:Pos} {k v:Expr} {ks:List (Option Expr)} {vs:List Expr} {tk tv:TE} {trs:List (TE × TE)} (hk:PE X k tk) (hv:PE X v tv) (hr:PPs X pos ks vs trs):
    PPs X pos (some k::ks) (v::vs) ((tk,tv)::trs):=λ pins s σ H Q I h=>
  pairTrees_cons_walk (thn (hk pins s σ H _ I h) λ u s1 ⟨x,H1,I1,rx,q1⟩=>thn (hv pins s1 σ H1 _ I1 q1) λ w2 s2 ⟨y,H2,I2,ry,q2⟩=>
    thn (hr pins s2 σ H2 _ I2 q2) λ ws s3 ⟨ps,H3,I3,rel,q3⟩=>⟨(x,y)::ps,H3,I3, .cons ⟨rx,ry⟩ rel,q3⟩)
def AI (kvs more:List (Key × V)):List (Key × V):=more.foldl (λ acc kv=>Ja acc kv.1 kv.2) kvs
theorem KV.merge:∀ {more:List (Key × V)} {rs:List (Key × Value)} {kvs:List (Key × V)} {vs:List (Key × Value)},KV more rs->KV kvs vs->KV (AI kvs more) (merged vs rs):=by
  intro more rs kvs vs r;unfold KV at r
  induction r generalizing kvs vs with
  | nil=>intro q;exact q
  | @cons p q ps qs h t ih=>
    intro r0;have e:KV (Ja kvs p.1 p.2) (stored vs q.1 q.2):=by
      have:=r0.put p.1 h.2;rw [<-h.1];exact this
    exact ih e
theorem BS:∀ (more kvs:List (Key × V)),(AI kvs more).length<=kvs.length+more.length
  | [],kvs=>by show kvs.length<=kvs.length+0;omega
  | p::r,kvs=>by
    have h1:=BS r (Ja kvs p.1 p.2);have h2:=Hg kvs p.1 p.2;show (AI (Ja kvs p.1 p.2) r).length<=_;rw [Ac4];omega
theorem IF {P:Program} {w:World}:∀ {kvs:List (Key × V)} {ws:List (Value × Value)},VV (kvs.map λ kv=>(kV kv.1,kv.2)) ws->∃ rs,Carries (Bs P w) ws rs/\KV kvs rs
  | [],_,r=>by rw [List.map_nil] at r;cases r;exact ⟨[],True.intro, .nil⟩
  | p::kvs,_,r=>by
    rw [Ag3] at r;cases r with
    | @cons a b as bs h t=>
      obtain ⟨rs,c,q⟩:=IF (P:=P) (w:=w) t;obtain ⟨b1,b2⟩:=b;exact ⟨(p.1,b2)::rs,⟨Nr h.1,rfl,c⟩, .cons ⟨rfl,h.2⟩ q⟩
def RK (trs:List (TE × TE)):TE:=λ σ H Q=>∀ p,H p=none->F0 trs σ (upd H p (.dK [])) λ ps H2=>H2 p=some (.dK [])/\∃ kvs:List (Key × V),ps=kvs.map (λ kv=>(kV kv.1,kv.2))/\kvs.length<=15/\Q (.ref p) (upd H2 p (.dK (AI [] kvs)))
theorem Du {X:Cx} {pos:Pos} {keys:List (Option Expr)} {values:List Expr} {trs:List (TE × TE)} (h:PPs X pos keys values trs) (hall:keys.all (·.isSome)=true) (hl:keys.length=values.length) (h0:keys≠[])
    (h15:keys.length<=15):PE X (.Dict keys values pos) (RK trs):=by
  intro pins s σ H Q I q;have hn:=I.hok.fresh (Aa7 s.heap.objs.size);have I1:=I.laid (a:=s.heap.objs.size) (o:= .dK []) (h':=s.heap.push { cls:= .type "dict",data:= .dict #[] }) (t':=s.toks) (λ _ _ q=>Aa1 _ q) (Aa7 _) (IY s.heap I.big);refine wpAny_Dict_walk (knd:=Bs X.prog X.w) hall hl h0 h15 (thn (h pins _ σ _ _ I1 (q _ hn)) λ ws s2 ⟨ps,H2,I2,rel,e,kvs,ep,lk,q2⟩=> ?_);subst ep;obtain ⟨rs,c,rk⟩:=IF (P:=X.prog) (w:=X.w) rel;obtain ⟨z,hd,vs0,r0,dd⟩:=Nt I2.hok e;cases r0;refine ⟨rs,c,dd,λ h' dd' hs=>⟨.ref s.heap.objs.size,_,?_,rfl,q2⟩⟩;have hz:(AI [] kvs).length<=sizeLine:=by
    have h1:=BS kvs [];rw [List.length_nil] at h1;rw [sizeLine_eq];omega
  have he:∃ q,h'.get? s.heap.objs.size=some q:=let ⟨q,_,_,hq,_⟩:=dd';⟨q,hq⟩;exact Kv I2 (by rw [e];exact True.intro) hs he (MH hz hd (rk.merge .nil) dd')
structure M1 (X:Cx) (o:Expr) (m:Str) (apos:Pos) (e:Expr) (cpos:Pos):Prop where
  base:attributeBase o m X.env (eval o X.env)=eval o X.env
  few:((backTo cpos (starEach [e] X.env)).all (λ x=> !x.1)&&(backToKw cpos (keywordEach [] X.env)).all (λ x=>x.1.isSome)
    && decide (([e]:List Expr).length+([]:List Keyword).length+(if ([]:List Keyword).isEmpty then 0 else 1)<30))=true
  line:(apos.endLine == cpos.line)=true
  trees:backTo cpos (starEach [e] X.env)=[(false,eval e X.env)]
structure M2 (X:Cx) (o:Expr) (m:Str) (apos:Pos) (e f:Expr) (cpos:Pos):Prop where
  base:attributeBase o m X.env (eval o X.env)=eval o X.env
  few:((backTo cpos (starEach [e,f] X.env)).all (λ x=> !x.1)&&(backToKw cpos (keywordEach [] X.env)).all (λ x=>x.1.isSome)
    && decide (([e,f]:List Expr).length+([]:List Keyword).length+(if ([]:List Keyword).isEmpty then 0 else 1)<30))=true
  line:(apos.endLine == cpos.line)=true
  trees:backTo cpos (starEach [e,f] X.env)=[(false,eval e X.env),(false,eval f X.env)]
section
variable {X:Cx} {pins:List (Addr × Obj)} {σ:St} {H:Hp} {s:Shared} {a:Addr} {y d:V} {u r:Value} {o:Option V} {A:Around} {E:Value->Shared->Prop}
end
section
variable {X:Cx} {o e f:Expr} {apos cpos:Pos} {td ty tx:TE}
end
section
variable {X:Cx} {pins:List (Addr × Obj)} {σ:St} {H:Hp} {s:Shared} {a:Addr} {kvs:List (Key × V)} {A:Around} {E:Value->Shared->Prop}
end
section
variable {X:Cx} {pins:List (Addr × Obj)} {σ:St} {H:Hp} {s:Shared} {a:Addr} {y:V} {u:Value} {A:Around} {E:Value->Shared->Prop}
end
section
variable {P:Program} {w:World} {K:PySem.W.Frag} {mg:Str->Option Value} {base:Heap}
end
section
variable {X:Cx}
end
section
variable {κ:Type} [DecidableEq κ]
end
def Bu (cells:List (Str × Addr)):List (Str × NameKind)->List (Str × Addr)->List (Str × Addr)
  | [],acc=>acc
  | (n,k)::r,acc=>Bu cells r (if k= .free then (match cells.lookup n with | some a=>(n,a)::acc | none=>acc) else acc)
theorem FI {env:Env}:∀ (names:List (Str × NameKind)) (acc:List (Str × Addr)),(∀ y∈names,y.2= .free->∃ c,env.cells.lookup y.1=some c)->
    (forIn names acc λ (x:Str × NameKind) (r:List (Str × Addr))=>
      (if (x.2 == NameKind.free)=true then (do let a <-cellOf env x.1;pure (ForInStep.yield ((x.1,a)::r))) else pure (ForInStep.yield r):Sem (ForInStep (List (Str × Addr)))))=(pure (Bu env.cells names acc):Sem (List (Str × Addr)))
  | [],acc,_=>rfl
  | (n,k)::B9,acc,h=>by
    rw [Af4];have ih:=λ acc'=>FI (env:=env) B9 acc' λ y hy=>h y (Ad3 _ hy);by_cases hk:k= .free
    · subst hk;obtain ⟨c,hc⟩:=h (n, .free) Ad7 rfl;have hc:env.cells.lookup n=some c:=hc;have e:cellOf env n=pure c:=by unfold cellOf;rw [hc]
      simp only [beq_self_eq_true,if_true,e,pure_bind,Bu,hc];exact ih _
    · have hb:(k == NameKind.free)=false:=by simpa using hk
      simp only [hb,Bool.false_eq_true,if_false,pure_bind,Bu,if_neg hk];exact ih _
theorem FJ {env:Env} {scope:Scope} (h:∀ y∈scope.names,y.2= .free->∃ c,env.cells.lookup y.1=some c):closureFor scope env=pure (Bu env.cells scope.names []):=by
  have e:=FI (env:=env) scope.names [] h;unfold closureFor;simp only [bind_pure_comp,bind_pure,map_pure] at*;exact e
theorem Ib {cells:List (Str × Addr)}:∀ (names:List (Str × NameKind)) (acc:List (Str × Addr)),(∀ x c,acc.lookup x=some c->cells.lookup x=some c)->∀ x c,(Bu cells names acc).lookup x=some c->cells.lookup x=some c
  | [],acc,h,x,c,e=>h x c e
  | (n,k)::r,acc,h,x,c,e=>by
    refine Ib r _ ?_ x c e;intro y d q;split at q
    · split at q
      · rename_i a ha
        rw [Ae7] at q;split at q
        · rename_i hy
          cases q;rw [eq_of_beq hy];exact ha
        · exact h y d q
      · exact h y d q
    · exact h y d q
theorem IA {cells:List (Str × Addr)}:∀ (names:List (Str × NameKind)) (acc:List (Str × Addr)) (x:Str),(((x,NameKind.free)∈names/\∃ c,cells.lookup x=some c)\/∃ c,acc.lookup x=some c)->∃ c,(Bu cells names acc).lookup x=some c
  | [],acc,x,h=>by
    rcases h with ⟨h,_⟩ | h
    · cases h
    · exact h
  | (n,k)::r,acc,x,h=>by
    refine IA r _ x ?_;have up:(∃ c,acc.lookup x=some c)->∃ c,(if k= .free then (match cells.lookup n with | some a=>(n,a)::acc | none=>acc) else acc).lookup x=some c:=by
      rintro ⟨c,hc⟩;split
      · split
        · rename_i a ha
          rw [Ae7];split
          · exact ⟨_,rfl⟩
          · exact ⟨c,hc⟩
        · exact ⟨c,hc⟩
      · exact ⟨c,hc⟩
    rcases h with ⟨h,c,hc⟩ | h
    · rcases Ab5.mp h with e | e
      · cases e;right;refine ⟨c,?_⟩;rw [if_pos rfl,hc,Ae7,beq_self_eq_true]
      · exact .inl ⟨e,c,hc⟩
    · exact .inr (up h)
theorem IX (env:Env) (x:Str):∀ names:List (Str × NameKind),
    (names.map λ (n,k)=>if (k == NameKind.free&&env.scope.kind == .function&&env.kindOf n == some .cell) then (n,NameKind.cell) else (n,k)).lookup x=
      (names.lookup x).map λ k=>if (k == NameKind.free&&env.scope.kind == .function&&env.kindOf x == some .cell)=true then NameKind.cell else k
  | []=>rfl
  | (n,k)::r=>by
    have ih:=IX env x r;show List.lookup x ((if (k == NameKind.free&&env.scope.kind == .function&&env.kindOf n == some .cell)=true then (n,NameKind.cell) else (n,k))::_)=_;cases hx:x == n with
    | true=>
      have e:x=n:=eq_of_beq hx;subst e;by_cases hc:(k == NameKind.free&&env.scope.kind == .function&&env.kindOf x == some .cell)=true
      · rw [if_pos hc,Ae7,Ae7,beq_self_eq_true];simp only [Option.map_some,if_pos hc]
      · rw [if_neg hc,Ae7,Ae7,beq_self_eq_true];simp only [Option.map_some,if_neg hc]
    | false=>
      have e:(List.lookup x ((n,k)::r))=List.lookup x r:=by rw [Ae7,hx]
      rw [e, <-ih];split <;> rw [Ae7,hx]
structure BlkScope (X:Cx) (scope:Scope) (own:List Str) (fr:List (Str × Nat)):Prop where
  kind:scope.kind= .function
  nocell:∀ y∈scope.names,y.2≠ .cell
  loc:∀ y∈scope.names,y.2= .local->scope.names.lookup y.1=some .local
  free:∀ y∈scope.names,y.2= .free->(X.env.scope.names.lookup y.1=some .cell\/X.env.scope.names.lookup y.1=some .free)
  fr:∀ p∈fr,X.N[p.2]?=some p.1/\(p.1,NameKind.free)∈scope.names
  only:∀ x,(x,NameKind.free)∈scope.names->scope.names.lookup x=some .free
def Bz (X:Cx) (scope:Scope) (own:List Str) (fr:List (Str × Nat)) (C:Addr) (ex:List Addr) (s:Shared) (H:Hp):Cx where
  prog:=X.prog
  w:=X.w
  K:=X.K
  mg:=X.mg
  base:=X.base
  A:=X.A
  N:=own++fr.map (·.1)
  s₀:=s
  H₀:=H
  env:=compEnvC scope (Bu X.env.cells scope.names []) C X.env
  outer:=X.stack
  stack:=X.stack
  ex:=ex
  fn:=λ _=>false
  calm:=X.calm
  pn:=[]
  xe:=λ _ _=>False
def Gc (own:List Str) (fr:List (Str × Nat)) (σ:St):St:=own.map (λ _=>none)++fr.map (λ p=>(σ[p.2]?).getD none)
section
variable {X:Cx} {pins:List (Addr × Obj)} {σ:St} {H:Hp} {s:Shared} {scope:Scope} {own:List Str} {fr:List (Str × Nat)} {fp:List Addr}
theorem BlkScope.cells (S:BlkScope X scope own fr) (ok:X.Ok):∀ y∈scope.names,y.2= .free->∃ c,X.env.cells.lookup y.1=some c:=λ y hy e=>ok.has y.1 (S.free y hy e)
theorem Inv.block {h':Heap} {t':Nat} {m:Str->Option Value} (I:Inv X pins σ H s) (S:BlkScope X scope own fr) (hf:∀ b∈fp,DD X pins H b) (hlt:∀ b∈fp,b<s.heap.objs.size)
    (hns:h'.Ns s.heap.objs.size m) (k:∀ b o,s.heap.get? b=some o->h'.get? b=some o):
    Inv (Bz X scope own fr s.heap.objs.size fp s H) [] (Gc own fr σ) H { s with heap:=h',toks:=t' }:=by
  have cs:∀ x c,(Bu X.env.cells scope.names []).lookup x=some c->X.env.cells.lookup x=some c:=Ib _ _ (λ _ _ e=>by simp at e);have ck:∀ c v,s.heap.IsCell c v->h'.IsCell c v:=λ c v ⟨o,ho,hd⟩=>⟨o,k _ _ ho,hd⟩;have kf:∀ x,(x,NameKind.free)∈scope.names->∃ c,X.env.cells.lookup x=some c/\(Bu X.env.cells scope.names []).lookup x=some c:=λ x hx=>by
    obtain ⟨c0,e0⟩:=S.cells I.ok (x, .free) hx rfl;obtain ⟨c,e⟩:=IA (cells:=X.env.cells) scope.names [] x (.inl ⟨hx,c0,e0⟩);exact ⟨c,cs _ _ e,e⟩
  have rel:∀ x,(compEnvC scope (Bu X.env.cells scope.names []) s.heap.objs.size X.env).kindOf x=(scope.names.lookup x).map λ k=>if (k == NameKind.free&&X.env.scope.kind == .function&&X.env.kindOf x == some .cell)=true then NameKind.cell else k:=λ x=>IX X.env x scope.names
  have nc:∀ x,scope.names.lookup x≠some .cell:=λ x e=>S.nocell _ (PySem.mem_of_lookup e) rfl;refine ⟨⟨I.ok.mod,S.kind,I.ok.glob,I.ok.blt,Aa7 _,λ x y c e1 e2=>I.ok.inj x y c (cs _ _ e1) (cs _ _ e2),λ x hx=> ?_,λ x c e _=>(nomatch e),I.ok.hd,I.ok.frames, .inl rfl,
    λ b hb=>⟨Ac2 (hlt b hb),λ x c e=>(hf b hb).2.2.2.2.1 x c (cs _ _ e)⟩,I.bs,Ab8 I.ok.bsz I.sz,λ b o e hb=> ?_,λ b hb z=>(Ab5.mp (I.stkSub b z)).elim (hf b hb).2.1 (hf b hb).2.2.1,I.stack,I.stkFree⟩,
    rfl,I.bare,Un.kept k,⟨m,hns,λ i x v e1 e2 e3=> ?_⟩,λ x c e=> ?_,I.hok.fresh (Aa7 _),λ x c e=>I.freeC x c (cs _ _ e),λ p hp=>absurd (show p∈([]:List (Addr × Obj)) from hp) (by simp),I.hok.kept k,?_⟩
  · have hx:(compEnvC scope (Bu X.env.cells scope.names []) s.heap.objs.size X.env).kindOf x=some .cell\/(compEnvC scope (Bu X.env.cells scope.names []) s.heap.objs.size X.env).kindOf x=some .free:=hx;rw [rel x] at hx;have q:scope.names.lookup x=some .free:=by
      cases e:scope.names.lookup x with
      | none=>rw [e] at hx;simp at hx
      | some kk=>
        rw [e] at hx;simp only [Option.map_some,Ad8.injEq] at hx;by_cases hk:kk= .free
        · rw [hk]
        · have hb:(kk == NameKind.free)=false:=by simpa using hk
          simp only [hb,Ac5,Bool.false_eq_true,if_false] at hx;rcases hx with hx | hx
          · rw [hx] at e;exact absurd e (nc x)
          · exact absurd hx hk
    obtain ⟨c,_,e⟩:=kf x (PySem.mem_of_lookup q);exact ⟨c,e⟩
  · rcases (hf b hb).2.2.2.1 with z | z
    · exact I.ok.noex b o e z
    · exact absurd (Ab4 (Aa6 (I.ok.bs b o e).1) z) (Nat.lt_irrefl _)
  · have e1:(own++fr.map (·.1))[i]?=some x:=e1;have e2:(Gc own fr σ)[i]?=some (some v):=e2;unfold Gc at e2;by_cases hi:i<own.length
    · rw [Af2 (by simpa using hi),Ad6] at e2;rw [Aa4 hi] at e2;simp at e2
    · rw [Ae9 (by simpa using hi),Ad6,Aa2] at e2;rw [Ae9 (by omega),Ad6] at e1;cases ep:fr[i - own.length]? with
      | none=>rw [ep] at e1;simp at e1
      | some p=>
        rw [ep] at e1 e2;simp only [Option.map_some,Ad8.injEq] at e1 e2;subst e1;obtain ⟨h1,h2⟩:=S.fr p (Af8 ep);have e4:σ[p.2]?=some (some v):=by
          cases q:σ[p.2]? with
          | none=>rw [q] at e2;simp at e2
          | some z=>rw [q] at e2;simp at e2;rw [e2]
        have kx:=S.free _ h2 rfl;obtain ⟨m0,hn0,hl0⟩:=I.loc;obtain ⟨u,r,l⟩:=hl0 p.2 p.1 v h1 e4 (kx.elim (λ z=> .inr (.inl z)) λ z=> .inr (.inr z));refine ⟨u,r,?_⟩;rcases l with ⟨z,_⟩ | ⟨_,c,hc,hcell⟩
        · have z:X.env.scope.names.lookup p.1=some .local:=z;rcases kx with y | y <;> (rw [y] at z;cases z)
        · obtain ⟨c',q1,q2⟩:=kf p.1 h2;rw [hc] at q1;cases q1;refine .inr ⟨?_,c,q2,ck _ _ hcell⟩;show (compEnvC scope (Bu X.env.cells scope.names []) s.heap.objs.size X.env).kindOf p.1=some .cell\/(compEnvC scope (Bu X.env.cells scope.names []) s.heap.objs.size X.env).kindOf p.1=some .free;have e3:(compEnvC scope (Bu X.env.cells scope.names []) s.heap.objs.size X.env).kindOf p.1=some .local\/(compEnvC scope (Bu X.env.cells scope.names []) s.heap.objs.size X.env).kindOf p.1=some .cell\/(compEnvC scope (Bu X.env.cells scope.names []) s.heap.objs.size X.env).kindOf p.1=some .free:=e3;rcases e3 with e3 | e3
          · exfalso;rw [rel] at e3;cases e:scope.names.lookup p.1 with
            | none=>rw [e] at e3;cases e3
            | some kk=>
              rw [e] at e3;simp only [Option.map_some,Ad8.injEq] at e3;by_cases hk:kk= .free
              · subst hk;split at e3 <;> cases e3
              · have hb:(kk == NameKind.free)=false:=by simpa using hk
                simp only [hb,Ac5,Bool.false_eq_true,if_false] at e3;subst e3;have:=S.only p.1 h2;rw [this] at e;cases e
          · exact e3
  · obtain ⟨v,z⟩:=I.cell x c (cs _ _ e);exact ⟨v,ck _ _ z⟩
  · unfold Gc;show _=(own++fr.map (·.1)).length;simp
end
theorem LY {prog:Program} {w:World} {A:Around} {R:Result->Shared->Prop} {s:Shared} {elt target iter:Expr} {ifs:List Expr} {scope:Scope} {pos:Pos} {it acc:Value} {env:Env} (I:Nat->Shared->Prop)
    (turn:∀ n s,I n s->wpAny (model prog w) A (pyNext it) (λ r s₁=>match r with
      | none=>R (.ok .next) s₁
      | some v=>wpAny (model prog w) A (letOwnedTupleGo target it v) (λ _ s₁'=>wpAny (model prog w) A (assign target env v) (λ _ s₂=>
          wpAny (model prog w) A (forIn ifs true λ c r=>if r=true then do let ok <-isTrue c env (eval c env);pure (ForInStep.yield ok) else pure (ForInStep.yield r)) (λ ok s₃=>
            if ok=true then wpAny (model prog w) A (eval elt env) (λ x s₄=>
              wpAny (model prog w) A (call (.builtin "list.append") [acc,x]) (λ _ s₅=>∃ m,m<n/\I m s₅) (λ _ _=>False) s₄) (λ _ _=>False) s₃
            else ∃ m,m<n/\I m s₃) (λ _ _=>False) s₂) (λ _ _=>False) s₁') (λ _ _=>False) s₁) (λ _ _=>False) s)
    (n:Nat) (h:I n s):codeAny (model prog w) A (.compLoop (.ListComp elt [⟨target,iter,ifs,0⟩] scope pos) 0 it acc env) R s:=by
  refine codeAny_loop rfl I (λ n s hI=> ?_) n h;show wpAny _ A ((compTurn (.ListComp elt [⟨target,iter,ifs,0⟩] scope pos) 0 it acc env).onRaise (λ x=>do noteFrame x env;theTreesLotGoes x)) _ _ s;refine wpAny_noted ?_;rw [compTurn_list];refine Aa0 (wpAny_standAt (Aa0 (Ad5 (turn n s hI) (λ r s₁ h₁=> ?_) λ _ _ f=>f.elim)));cases r with
  | none=>exact Aa5 h₁
  | some v=>
    refine Aa0 (Ad5 h₁ (λ _ s₁' h₁'=>Aa0 (Ad5 h₁' (λ _ s₂ h₂=>Aa0 (Ad5 h₂ (λ ok s₃ h₃=> ?_) λ _ _ f=>f.elim)) λ _ _ f=>f.elim)) λ _ _ f=>f.elim);cases ok with
    | false=>exact Aa5 ⟨rfl,h₃⟩
    | true=>
      exact Aa0 (Aa0 (Ad5 h₃ (λ x s₄ h₄=>Aa0 (Ad5 h₄ (λ _ s₅ h₅=>Aa5 (Aa5 ⟨rfl,h₅⟩)) λ _ _ f=>f.elim)) λ _ _ f=>f.elim))
section
variable {X:Cx}
def PTs (X:Cx) (ifs:List Expr) (tc:TT):Prop:=
  ∀ (pins:List (Addr × Obj)) (s:Shared) (σ:St) (H:Hp) (Q:Bool->Hp->Prop),Inv X pins σ H s->tc σ H Q->
    wpAny (model X.prog X.w) X.A (forIn ifs true λ c r=>if r=true then do let ok <-isTrue c X.env (eval c X.env);pure (ForInStep.yield ok) else pure (ForInStep.yield r)) (TP X pins σ Q) X.xe s
def Pl:TT:=λ _ H Q=>Q true H
theorem AK:PTs X [] Pl:=λ _ _ _ H _ I h=>wpAny_tests_nil ⟨H,I,h⟩
theorem GH {c:Expr} {tc:TT} (h:PT X c tc):PTs X [c] tc:=λ pins s σ H Q I q=>wpAny_tests_one (h pins s σ H Q I q)
def Kp (σ0 σ:St):Prop:=σ.length=σ0.length/\∀ (i:Nat) (v:V),σ0[i]?=some (some v)->σ[i]?=some (some v)
theorem Kp.refl (σ:St):Kp σ σ:=⟨rfl,λ _ _ h=>h⟩
theorem Kp.set {σ0 σ:St} {i:Nat} {v:V} (k:Kp σ0 σ) (h:σ0[i]?=some none):Kp σ0 (σ.set i (some v)):=by
  refine ⟨by rw [List.length_set];exact k.1,λ j u e=> ?_⟩;by_cases hj:i=j
  · subst hj;rw [h] at e;cases e
  · rw [List.getElem?_set_ne hj];exact k.2 j u e
def FM (J:It) (σ0:St) (g:TG) (tc:TT) (te:TE) (Q:VK) (H1:Hp) (D:Addr):Prop:=
  ∃ W:Nat->Nat->List V->Hp->Prop,(∃ m,W 0 m [] (upd H1 D (.lst [])))/\∀ i m ys H,W i m ys H->
    (J.stop i H/\Q (.ref D) H)\/(J.go i H/\∃ N:List V->Hp->Prop,(∀ ys' H',N ys' H'->∃ m',m'<m/\W (i+1) m' ys' H')/\∀ x H',J.yld i H x H'->g x σ0 H' λ σ2 H2=>Kp σ0 σ2/\tc σ2 H2 λ b H3=>
      if b=true then te σ2 H3 λ y H4=>H4 D=some (.lst ys)/\ys.length<sizeLine/\N (ys++[y]) (upd H4 D (.lst (ys++[y]))) else N ys H3)
def Kq (wi:TI) (own:List Str) (fr:List (Str × Nat)) (g:TG) (tc:TT) (te:TE):TE:=λ σ H Q=>wi σ H λ J H1=>∀ D,H1 D=none->FM J (Gc own fr σ) g tc te Q H1 D
theorem LK {elt tg iter:Expr} {ifs:List Expr} {scope:Scope} {pos:Pos} {own:List Str} {fr:List (Str × Nat)} {g:TG} {tc:TT} {te:TE} (hc:X.calm=true) (S:BlkScope X scope own fr)
    (hg:∀ C ex s H,PG (Bz X scope own fr C ex s H) tg g) (ht:∀ C ex s H,PTs (Bz X scope own fr C ex s H) ifs tc) (he:∀ C ex s H,PE (Bz X scope own fr C ex s H) elt te)
    {pins:List (Addr × Obj)} {σ:St} {H:Hp} {s:Shared} {it:Addr} {fp:List Addr} {tn:Nat->Heap->Prop} {J:It} {E:Value->Shared->Prop}
    (I:Inv X pins σ H s) (T:Turn X.prog X.w X.K tg J fp it tn) (st:tn 0 s.heap) (hf:∀ b∈fp,DD X pins H b) {Q:VK}
    (h:∀ D,H D=none->FM J (Gc own fr σ) g tc te Q H D)
    {RR:Value->Addr->Result->Shared->Prop}
    (hR:∀ D C H' s',Inv X pins σ H' s'->(∃ m,s'.heap.Ns C m)->DD X pins H' C->Q (.ref D) H'->RR (.ref D) C (.ok .next) s'):
    wpAny (model X.prog X.w) X.A (newList []) (λ acc s₃=>wpAny (model X.prog X.w) X.A (newFunctionEnv scope X.env.globals (Bu X.env.cells scope.names []) [] X.env.qual none .none (some X.env)) (λ cenv s₄=>
      codeAny (model X.prog X.w) X.A (.compStart (.ListComp elt [⟨tg,iter,ifs,0⟩] scope pos) 0 (.ref it) acc { cenv with scope:=relabel scope X.env }) (RR acc cenv.locals) s₄) E s₃) E s:=by
  have hDn:H s.heap.objs.size=none:=I.fresh;obtain ⟨W,⟨m0,w0⟩,turn⟩:=h s.heap.objs.size hDn;have I3:Inv X pins σ (upd H s.heap.objs.size (.lst [])) { s with heap:=s.heap.push { cls:= .type "list",data:= .seq ([]:List Value).toArray },toks:=s.toks }:=I.lnew .nil (Nat.zero_le _);refine Ag4 ?_;generalize hs3:({ s with heap:=s.heap.push { cls:= .type "list",data:= .seq ([]:List Value).toArray } }:Shared)=s3 at I3 ⊢;have I3:Inv X pins σ (upd H s.heap.objs.size (.lst [])) s3:=I3;have old3:∀ b o,s.heap.get? b=some o->s3.heap.get? b=some o:=λ b o e=>by rw [<-hs3];exact Aa1 _ e
  have hobj:∀ b∈fp,∃ o,s.heap.get? b=some o/\∀ v,o.data≠ .cell v:=T.obj 0 _ st;have hne:∀ b∈fp,b≠s.heap.objs.size:=λ b hb=>by obtain ⟨o,e,_⟩:=hobj b hb;exact Ac2 (Aa6 e)
  have hf3:∀ b∈fp,DD X pins (upd H s.heap.objs.size (.lst [])) b:=λ b hb=>⟨by rw [Ak (hne b hb)];exact (hf b hb).1,(hf b hb).2⟩;have hlt3:∀ b∈fp,b<s3.heap.objs.size:=λ b hb=>by obtain ⟨o,e,_⟩:=hobj b hb;exact Aa6 (old3 b o e)
  refine wpAny_newFunctionEnv S.nocell (by intro y hy;simp at hy) (λ h₁ hns hsb=> ?_) S.kind;have keep:∀ b o,s3.heap.get? b=some o->h₁.get? b=some o:=λ b o e=>hsb.extBut b o (Ac2 (Aa6 e)) (Aa1 _ e);have J0:=I3.block (t':=s3.toks+([]:List (Str × Value)).length) S hf3 hlt3 hns keep;have st3:tn 0 h₁:=T.keep 0 _ _ st λ b hb o e=>keep b o (old3 b o e);have loop:codeAny (model X.prog X.w) X.A (.compLoop (.ListComp elt [⟨tg,iter,ifs,0⟩] scope pos) 0 (.ref it) (.ref s.heap.objs.size) (compEnvC scope (Bu X.env.cells scope.names []) s3.heap.objs.size X.env))
      (RR (.ref s.heap.objs.size) s3.heap.objs.size) { s3 with heap:=h₁,toks:=s3.toks+([]:List (Str × Value)).length }:=by
    have stat:∀ {H':Hp},(∀ b∈fp,H' b=none)->∀ b∈fp,DD (Bz X scope own fr s3.heap.objs.size fp s3 (upd H s.heap.objs.size (.lst []))) [] H' b:=λ {H'} hn b hb=>
      ⟨hn b hb,Ac2 (hlt3 b hb),J0.ok.exfs b hb, .inl hb,(J0.ok.exf b hb).2,λ p hp=>absurd (show p∈([]:List (Addr × Obj)) from hp) (by simp)⟩
    refine LY (λ n s'=>∃ i ys H',Inv (Bz X scope own fr s3.heap.objs.size fp s3 (upd H s.heap.objs.size (.lst []))) [] (Gc own fr σ) H' s'/\tn i s'.heap/\(∀ b∈fp,H' b=none)/\W i n ys H') ?_ m0
      ⟨0,[],_,J0,st3,λ b hb=>(hf3 b hb).1,w0⟩
    rintro n s4 ⟨i,ys,H4,I4,st4,fr4,w4⟩;rcases turn i n ys H4 w4 with ⟨stop,q⟩ | ⟨go,N,hN,step⟩
    · refine thn (T.done (Bz X scope own fr s3.heap.objs.size fp s3 (upd H s.heap.objs.size (.lst []))) rfl rfl rfl hc i [] s4 _ H4 (λ _ _=>False) I4 (stat fr4) st4 stop) λ r s5 ⟨hr,I5⟩=> ?_;subst hr;obtain ⟨m,hn,_⟩:=id I5.loc;exact hR _ _ H4 s5 (I3.call' I5.os I5.base I5.hok I5.bare λ b hb=>⟨(hf3 b hb).2.2.2.1,(hf3 b hb).2.1,(hf3 b hb).2.2.2.2.1,(hf3 b hb).2.2.2.2.2⟩) ⟨m,hn⟩ (I3.fpOk (Aa7 _) I5.free) q
    · refine thn (T.item (Bz X scope own fr s3.heap.objs.size fp s3 (upd H s.heap.objs.size (.lst []))) rfl rfl rfl hc i [] s4 _ H4 (λ _ _=>False) I4 (stat fr4) st4 go) λ r s5 ⟨u,hr,h5⟩=> ?_;subst hr;refine thn h5 λ _ s6 ⟨x,H6,I6,r6,y6,st6,fr6⟩=> ?_;have I6':=I6.pinned (stat fr6) (T.obj _ _ st6);refine thn (hg _ _ _ _ _ s6 _ H6 x u _ I6' r6 (step x H6 y6)) λ _ s7 ⟨σ7,H7,I7,kp,q7⟩=> ?_;refine thn (ht _ _ _ _ _ s7 σ7 H7 _ I7 q7) λ b s8 ⟨H8,I8,q8⟩=> ?_;have again:∀ {s9:Shared} {H9:Hp} {ys':List V},Inv (Bz X scope own fr s3.heap.objs.size fp s3 (upd H s.heap.objs.size (.lst []))) ([]++IT fp s6.heap) σ7 H9 s9->N ys' H9->
          ∃ m,m<n/\∃ i ys H',Inv (Bz X scope own fr s3.heap.objs.size fp s3 (upd H s.heap.objs.size (.lst []))) [] (Gc own fr σ) H' s9/\tn i s9.heap/\(∀ b∈fp,H' b=none)/\W i m ys H':=λ {s9 H9 ys'} I9 n9=>by
        obtain ⟨m',hm,w9⟩:=hN ys' H9 n9;refine ⟨m',hm,i+1,ys',H9,I9.unpinned.weak kp.1.symm kp.2,T.keep _ _ _ st6 λ b hb o e=>(I9.pin (b,o) (Ab6 _ (Ab6 _ (Ej hb e)))).1,λ b hb=> ?_,w9⟩;obtain ⟨o,e,d⟩:=T.obj _ _ st6 b hb;exact (I9.pin (b,o) (Ab6 _ (Ab6 _ (Ej hb e)))).2.1
      cases b with
      | false=>
        rw [if_neg Ab0] at q8 ⊢;exact again I8 q8
      | true=>
        rw [if_pos rfl] at q8 ⊢;refine thn (he _ _ _ _ _ s8 σ7 H8 _ I8 q8) λ xv s9 ⟨y,H9,I9,r9,hD,hl,n9⟩=> ?_;refine thn (C7 _ s9 σ7 H9 (.ref s.heap.objs.size) [y] (.ref s.heap.objs.size) [xv] (λ _ H'=>H'=upd H9 s.heap.objs.size (.lst (ys++[y]))) I9 rfl (.cons r9 .nil) ⟨_,ys,y,rfl,rfl,hD,hl,rfl⟩) λ _ s10 ⟨_,H10,I10,_,q10⟩=> ?_;subst q10;exact again I10 n9
  exact codeAny_compStart_list loop (T.self _ 0 _ _ _ st3 loop)
theorem Ni {elt tg iter:Expr} {ifs:List Expr} {scope:Scope} {pos:Pos} {own:List Str} {fr:List (Str × Nat)} {wi:TI} {g:TG} {tc:TT} {te:TE} (hc:X.calm=true) (S:BlkScope X scope own fr) (hi:PI X tg iter wi)
    (hg:∀ C ex s H,PG (Bz X scope own fr C ex s H) tg g) (ht:∀ C ex s H,PTs (Bz X scope own fr C ex s H) ifs tc) (he:∀ C ex s H,PE (Bz X scope own fr C ex s H) elt te)
    (hs:∀ x,foldedSetIterable iter X.env x=pure x:=by intro _;rfl):PE X (.ListComp elt [⟨tg,iter,ifs,0⟩] scope pos) (Kq wi own fr g tc te):=by
  intro pins s σ H Q I h;rw [eval_ListComp];refine wpAny_comprehension_free (use:=none) rfl hs (FJ (S.cells I.ok)) S.kind S.loc (thn (hi pins s σ H _ I h) λ xv s₁ h₁=>thn h₁ λ itv s₂ h₂=> ?_);obtain ⟨it,fp,tn,J,H2,rfl,I2,T,st2,f2,h2⟩:=h₂;refine LK (RR:=λ acc C=>compPost (model X.prog X.w) X.A X.xe none (EP X pins σ Q) acc C) hc S hg ht he I2 T st2 f2 h2 ?_;rintro D C H' s' I' ⟨m,hn⟩ f q;exact ⟨m,hn,λ h' sb=>⟨.ref D,H',I'.turned (t':=s'.toks) (it:=C) (λ b o hb e=>(sb.2 b hb).trans e) f.1 f.2.1 f.2.2.2.1 f.2.2.2.2.1 f.2.2.2.2.2,rfl,q⟩⟩
theorem QE {i:Nat} {x:Str} {px spos:Pos} {elt tg iter:Expr} {ifs:List Expr} {scope:Scope} {pos:Pos} {own:List Str} {fr:List (Str × Nat)} {wi:TI} {g:TG} {tc:TT} {te:TE} (hN:X.N.Nodup) (hix:X.N[i]?=some x) (hx:Loc X.env.scope x)
    (hc:X.calm=true) (S:BlkScope X scope own fr) (hi:PI X tg iter wi)
    (hg:∀ C ex s H,PG (Bz X scope own fr C ex s H) tg g) (ht:∀ C ex s H,PTs (Bz X scope own fr C ex s H) ifs tc) (he:∀ C ex s H,PE (Bz X scope own fr C ex s H) elt te)
    (hsw:swapsWith (.ListComp elt [⟨tg,iter,ifs,0⟩] scope pos) (some (.Name x px)) spos.line X.env=pure true:=by rfl)
    (hf:X.fn x=true\/X.env.scope.names.lookup x=some .local:=by first | exact .inl rfl | exact .inr rfl | assumption)
    (hs:∀ x,foldedSetIterable iter X.env x=pure x:=by intro _;rfl):PS X (.Assign [.Name x px] (.ListComp elt [⟨tg,iter,ifs,0⟩] scope pos) spos) (Pq (Kq wi own fr g tc te) (AO i)):=by
  intro pins s σ H D I h;rw [exec_Assign_Name_used _ _ _ _ hsw];refine Aa0 (wpAny_standAt (Aa0 ?_));show wpAny _ X.A (do let _ <-comprehension (.ListComp elt [⟨tg,iter,ifs,0⟩] scope pos) scope X.env _ (newList []) false (eval iter X.env) (some (assign (.Name x px) X.env))) _ _ s;refine Aa0 (Ad5 (wpAny_comprehension_free (use:=some (assign (.Name x px) X.env)) (Q:=λ _ s'=>SP X pins D .next s') rfl hs (FJ (S.cells I.ok)) S.kind S.loc
    (thn (hi pins s σ H _ I h) λ xv s₁ h₁=>thn h₁ λ itv s₂ h₂=> ?_)) (λ _ s' hq=>Aa5 (Aa5 hq)) λ _ _ e=>e)
  obtain ⟨it,fp,tn,J,H2,rfl,I2,T,st2,f2,h2⟩:=h₂;refine LK (Q:=λ x H1=>AO i x σ H1 D.nx) (RR:=λ acc C=>compPost (model X.prog X.w) X.A X.xe (some (assign (.Name x px) X.env)) (λ _ s'=>SP X pins D .next s') acc C) hc S hg ht he I2 T st2 f2 h2 ?_;rintro Dl C H' s' I' ⟨m,hn⟩ f q;obtain ⟨o,es,ep,ho,hd,r⟩:=hn;have pinC:∀ v,o.data≠ .cell v:=λ v z=>by rw [hd] at z;cases z
  have I'':Inv X (pins++[(C,o)]) σ H' s':=I'.pins_of λ p hp=>(List.mem_append.mp hp).elim (λ z=>I'.pin p (Ab6 _ z)) λ z=>by
    have e:p=(C,o):=by simpa using z
    subst e;exact ⟨ho,f.1,f.2.1,f.2.2.1,pinC⟩
  show wpAny _ X.A (assign (.Name x px) X.env (.ref Dl)) _ _ s';refine wpAny_assign_Name (Ea I'' hN hix hx (v:= .ref Dl) rfl (λ s2 I2=> ?_) hf);have pc:=(I2.pin (C,o) (Ab6 _ (Ab6 _ (by simp)))).1;refine ⟨m,⟨o,es,ep,pc,hd,r⟩,λ h' sb=>⟨_,H',?_,q⟩⟩;exact (I2.unpinned (pl:=[(C,o)])).turned (t':=s2.toks) (it:=C) (λ b o hb e=>(sb.2 b hb).trans e) f.1 f.2.1 f.2.2.2.1 f.2.2.2.2.1 f.2.2.2.2.2
end
section
variable {X:Cx} {tg:Expr}
end
section
variable {X:Cx}
theorem Hf:∀ {ns:List Int} {l:List (Int × Tok)},Vals (ns.map V.int) (l.map λ p=>Value.int p.1 p.2)->l.map (·.1)=ns
  | [],[],_=>rfl
  | n::ns,p::l,r=>by
    cases r with
    | cons r1 r2=>
      obtain ⟨t,e⟩:=r1;injection e with e1 e2;rw [Ag3,Hf r2,e1]
  | [],_::_,r=>by cases r
  | _::_,[],r=>by cases r
theorem OE (hc:X.calm=true):Cf X (.builtin "sum") (λ xs H Q=>∃ (p:Addr) (ns:List Int),xs=[.ref p]/\SqL X.K H p (ns.map V.int)/\Q (.int ns.sum) H):=by
  intro pins s σ H xs us Q I r h;obtain ⟨p,ns,rfl,hq,q⟩:=h;obtain ⟨u,rfl,rx⟩:=Ic r;cases rx;obtain ⟨its,rv,pl,_⟩:=I.list hq;obtain ⟨ps,e⟩:=(IntsAre.allInts (MO rv)).items;have e':its=ps.toList.map λ p=>Value.int p.1 p.2:=by
    have:=congrArg Array.toList e;simpa [intItems] using this
  have hl:=pl.isList;rw [e] at hl;refine sum_intListG (I.ok.hd hc) hl λ h' tk t' hk=> ?_;have es:preSum (numAt ps) ps.size=ns.sum:=by
    rw [preSum_eq,Af0 (by simp),Hf (ns:=ns) (l:=ps.toList) (by rw [<-e'];exact rv)]
  rw [es];exact ⟨.int ns.sum,H,I.kept hk,⟨t',rfl⟩,q⟩
theorem Nu (bs:List Bool):(Aa9 bs.length).all (λ i=>bs.getD i true)=bs.all id:=by
  rw [Ac6,Ac0,Ac0];constructor
  · intro h b hb;obtain ⟨i,hi,rfl⟩:=List.getElem_of_mem hb;have:=h i (by simpa using hi);rw [Aa3,Aa4 hi] at this;exact this
  · intro h i hi;have hi:i<bs.length:=by simpa using hi
    rw [Aa3,Aa4 hi];exact h _ (List.getElem_mem hi)
theorem O0 (hc:X.calm=true):Cf X (.builtin "all") (λ xs H Q=>∃ (p:Addr) (bs:List Bool),xs=[.ref p]/\SqL X.K H p (bs.map V.bl)/\Q (.bl (bs.all id)) H):=by
  intro pins s σ H xs us Q I r h;obtain ⟨p,bs,rfl,hq,q⟩:=h;obtain ⟨u,rfl,rx⟩:=Ic r;cases rx;obtain ⟨its,rv,pl,_⟩:=I.list hq;have hl:=rv.length;rw [Aa2] at hl;obtain ⟨o,ho,_⟩:=id pl.isList;have hne:p≠s.heap.objs.size:=Ac2 (Aa6 ho);refine call_all_walk (wpAny_pyIter_list pl.isList ?_);refine ⟨s.heap.objs.size,_,_,_,_,_,λ i=>bs.getD i true,rfl,Walks.list (A:=X.A.in1) (I.ok.hd hc) _ p hne its.toArray,⟨⟨_,Aa8 _ rfl,rfl,rfl⟩,pl.isList.at λ o e=>Aa1 _ e⟩,?_,λ h' tk hk=> ?_⟩
  · intro i v s' Q' E' hv hQ';have hv:its[i]?=some v:=by simpa using hv
    have hi:i<bs.length:=by rw [hl];exact (Ac3.mp hv).1
    obtain ⟨u,hu,ru⟩:=rv.get (i:=i) (x:= .bl (bs.getD i true)) (by rw [Ad6,Aa3,Aa4 hi];rfl);rw [hu] at hv;cases hv;cases ru;exact Ae5 hQ'
  · have e:its.toArray.size=bs.length:=by rw [Ab2];exact hl.symm
    rw [e,Nu];exact ⟨.bl _,H,I.kept λ b o e=>hk b o (λ z=>by simp at z;exact absurd (Aa6 e) (by rw [z];exact Nat.lt_irrefl _)) (Aa1 _ e),rfl,q⟩
theorem LI:Cf X (.builtin "isinstance") (λ xs H Q=>∃ x n t b,xs=[x, .ty n]/\TyOf X.K H x t/\PySem.W.kitOne X.K t (.type n)=some b/\Q (.bl b) H):=by
  intro pins s σ H xs us Q I r h;obtain ⟨x,n,t,b,rfl,ty,e,q⟩:=h;obtain ⟨u,c,rfl,rx,rc⟩:=PZ r;cases rc;exact Km I rx ty e λ tk=>⟨.bl b,H,I.tok tk,rfl,q⟩
def Ot (K:PySem.W.Frag):R2:=λ x y H Q=>∃ l b xs zs,x= .ref l/\y= .ref b/\SqL K H l xs/\SqL K H b zs/\xs.length+zs.length<=sizeLine/\∀ p,H p=none->Q (.ref p) (upd H p (.lst (xs++zs)))
theorem Qr:OpR X (binaryOp .Add) (Ot X.K):=by
  intro pins s σ H x y v u Q I rx ry h;obtain ⟨l,b,xs,zs,rfl,rfl,hH,hB,hz,q⟩:=h;cases rx;cases ry;obtain ⟨its,r,pl,_⟩:=I.list hH;obtain ⟨its2,r2,pl2,_⟩:=I.list hB;have h1:=r.length;have h2:=r2.length;obtain ⟨⟨cls,dd,data,sl⟩,n,ho,hc,hdd,hd⟩:=pl;obtain ⟨⟨cls2,dd2,data2,sl2⟩,n2,ho2,hc2,hdd2,hd2⟩:=pl2;simp only at hc hdd hd hc2 hdd2 hd2;subst hc hdd hd hc2 hdd2 hd2;refine concat_meets ⟨_,ho,rfl⟩ ⟨_,ho2,rfl⟩ noFill_list_add seq_list_add PySem.F.slot_list_add PySem.F.entry_list_add (PySem.F.args_list_add_2 _ _) (list_addW l b its.toArray its2.toArray n n2 none none sl sl2 (by rw [Ab2,Ab2];omega)) ⟨ho,ho2,?_⟩;have e:its.toArray++its2.toArray=(its++its2).toArray:=by simp
  rw [e];exact ⟨.ref _,_,I.lnew (t':=s.toks) (r.append r2) (by rw [Ac7];omega),rfl,q _ I.fresh⟩
def Iy (xs ys:List V):Bool:=xs.length == ys.length&&(Aa9 xs.length).all λ i=>eqV (xs.getD i .non) (ys.getD i .non)
theorem JZ {xs:List V} (h:xs.all Cd=true) {i:Nat} (hi:i<xs.length):Cd (xs.getD i .non)=true:=by
  rw [Aa3,Aa4 hi];exact (Ac0.mp h) _ (List.getElem_mem hi)
def RF (K:PySem.W.Frag) (neg:Bool):R2:=λ x y H Q=>∃ p q xs ys,x= .ref p/\y= .ref q/\SqL K H p xs/\SqL K H q ys/\xs.all Cd=true/\ys.all Cd=true/\Q (.bl (if neg then !Iy xs ys else Iy xs ys)) H
theorem Mn {A:Around} {s:Shared} {xs ys:List V} {its its2:List Value} (r:Vals xs its) (r2:Vals ys its2) (fx:xs.all Cd=true) (fy:ys.all Cd=true):
    ∀ j (h1:j<its.toArray.size) (h2:j<its2.toArray.size),SeqAt.EqAt A s its.toArray[j] its2.toArray[j] (eqV (xs.getD j .non) (ys.getD j .non)):=λ j h1 h2=>by
  have l1:=r.length;have l2:=r2.length;have h1':j<its.length:=by simpa using h1
  have h2':j<its2.length:=by simpa using h2
  have g1:xs[j]?=some (xs.getD j .non):=by rw [Aa3,Aa4 (by omega)];rfl
  have g2:ys[j]?=some (ys.getD j .non):=by rw [Aa3,Aa4 (by omega)];rfl
  obtain ⟨u,e1,ru⟩:=r.get g1;obtain ⟨u2,e2,ru2⟩:=r2.get g2;have q1:its.toArray[j]=u:=by rw [Aa4 h1'] at e1;simpa using Ad8.inj e1
  have q2:its2.toArray[j]=u2:=by rw [Aa4 h2'] at e2;simpa using Ad8.inj e2
  rw [q1,q2];exact O6 ru ru2 (JZ fx (by omega)) (JZ fy (by omega))
theorem SS (hu:X.A.units<cLine):OpR X (compareOp .Eq) (RF X.K false):=by
  intro pins s σ H x y v u Q I rx ry h;obtain ⟨p,q,xs,ys,rfl,rfl,h1,h2,fx,fy,hq⟩:=h;cases rx;cases ry;obtain ⟨its,r,pl,_⟩:=I.list h1;obtain ⟨its2,r2,pl2,_⟩:=I.list h2;have l1:=r.length;have l2:=r2.length;by_cases hl:xs.length=ys.length
  · refine SeqAt.eq_listAt pl.isList pl2.isList (by simp;omega) hu (Mn r r2 fx fy) ⟨.bl _,H,I,rfl,?_⟩;have e:Iy xs ys=(Aa9 its.toArray.size).all λ i=>eqV (xs.getD i .non) (ys.getD i .non):=by
      unfold Iy;rw [hl,beq_self_eq_true,Ac8,Ab2, <-l1,hl]
    rw [<-e];exact hq
  · refine SeqAt.eq_list_lengthsAt pl.isList pl2.isList (by simp;omega) hu ⟨.bl _,H,I,rfl,?_⟩;have e:Iy xs ys=false:=by unfold Iy;rw [beq_eq_false_iff_ne.mpr hl,Ac5]
    rw [<-e];exact hq
theorem Rn {α:Type} [DecidableEq α] (f:α->V) (hf:∀ a b,eqV (f a) (f b)=decide (a=b)) (as bs:List α):Iy (as.map f) (bs.map f)=decide (as=bs):=by
  unfold Iy;rw [Ac6,Ab3,Ac0,decide_eq_true_iff,beq_iff_eq,Aa2,Aa2];constructor
  · rintro ⟨h1,h2⟩;refine Af6 h1 λ i g1 g2=> ?_;have:=h2 i (by simpa using g1);rw [Aa3,Aa3,Ad6,Ad6,Aa4 g1,Aa4 g2] at this;have:=(hf _ _).symm.trans this;exact of_decide_eq_true this
  · rintro rfl;refine ⟨rfl,λ i hi=> ?_⟩;have hi:i<as.length:=by simpa using hi
    rw [Aa3,Ad6,Aa4 hi];show eqV (f as[i]) (f as[i])=true;rw [hf];exact decide_eq_true rfl
theorem OU (as bs:List Int):Iy (as.map V.int) (bs.map V.int)=decide (as=bs):=Rn V.int (λ a b=>by show (a == b)=_;rw [Ac6,beq_iff_eq,decide_eq_true_iff]) as bs
theorem LN (as:List Int):(as.map V.int).all Cd=true:=by simp [Cd]
end
def Az (P:Program) (w:World) (K:PySem.W.Frag) (mg:Str->Option Value) (base:Heap) (x:Str) (k:Nat) (ps:List Str) (sp:Sp):Prop:=
  ∃ f fd,mg x=some (.ref f)/\PySem.W.keepIn K (.ref f)=true/\FnOk P w K mg base CX0 k f fd ps sp/\Binds K fd ps []
section
variable {X:Cx} {x:Str} {k:Nat} {ps:List Str} {sp:Sp} {e:Expr} {es:List Expr} {t:TA} {p pos:Pos}
theorem Ag (h:Az X.prog X.w X.K X.mg X.base x k ps sp) (hr:Room k X.A) (ha:PA X (e::es) t) (hg:Gl X x:=by rfl) (hdb:(x == ("__debug__":Str))=false:=by decide)
    (he:starEach (e::es) X.env=(false,eval e X.env)::starEach es X.env:=by rfl) (hpl:(backTo pos (starEach es X.env)).any (·.1)=false:=by rfl):
    PE X (.Call (.Name x p) (e::es) [] pos) (Lb sp [] E0 t):=by
  obtain ⟨f,fd,hm,hk,F,hb⟩:=h;exact Nm F hr hg hm hk hb .nil Ov ha hdb he hpl
end
structure DefAt (K:PySem.W.Frag) (mg:Str->Option Value) (x:Str) (st:Stmt) (ps:List Str) (f:Addr) (fd:FuncData):Prop where
  fn:Fun K x x st f fd
  at':mg x=some (.ref f)
  bi:Binds K fd ps []
theorem DefAt.call {P:Program} {w:World} {K:PySem.W.Frag} {mg:Str->Option Value} {base:Heap} {x:Str} {st:Stmt} {ps:List Str} {f:Addr} {fd:FuncData} {k:Nat} {sp:Sp} (d:DefAt K mg x st ps f fd)
    (F:FnOk P w K mg base CX0 k f fd ps sp):Az P w K mg base x k ps sp:=⟨f,fd,d.at',d.fn.kp,F,d.bi⟩
def Oh:V->Bool | .int _=>true | _=>false
def R6:V->Bool | .bl _=>true | _=>false
def Su:V->Bool | .str _=>true | _=>false
def Ty (K:PySem.W.Frag) (H:Hp) (x:V):Prop:=∃ n,TyOf K H x (.type n)
def En (n T:String):Option Bool:=if (Value.type n == Value.type T)=true then some true else if PySem.W.kitMeta T=true then (fastBuiltinMro n).map (·.contains (.type T)) else none
section
variable {K:PySem.W.Frag} {H:Hp} {x:V} {n:String}
theorem kb {n T:String} {b:Bool} (h:En n T=some b):PySem.W.kitOne K (.type n) (.type T)=some b:=h
theorem Rz (h:TyOf K H x (.type n)):PySem.W.kitOne K (.type n) (.type "int")=some (Oh x||R6 x):=by
  cases h <;> first
    | exact (show PySem.W.kitOne K _ _=some true from kb (by decide +kernel))
    | exact (show PySem.W.kitOne K _ _=some false from kb (by decide +kernel))
theorem OP (h:TyOf K H x (.type n)):PySem.W.kitOne K (.type n) (.type "bool")=some (R6 x):=by
  cases h <;> first
    | exact (show PySem.W.kitOne K _ _=some true from kb (by decide +kernel))
    | exact (show PySem.W.kitOne K _ _=some false from kb (by decide +kernel))
theorem Rc (h:TyOf K H x (.type n)):PySem.W.kitOne K (.type n) (.type "str")=some (Su x):=by
  cases h <;> first
    | exact (show PySem.W.kitOne K _ _=some true from kb (by decide +kernel))
    | exact (show PySem.W.kitOne K _ _=some false from kb (by decide +kernel))
end
section
variable {X:Cx}
def Own (mg:Str->Option Value) (names:List Str):Prop:=∀ x∈names,mg x=none
theorem DS:bootBuiltins "all"=some (.builtin "all"):=by decide +kernel
theorem Ce {x:Str} {T:String} {pos:Pos} (hg:Gl X x) (hm:X.mg x=none) (hv:bootBuiltins x=some (.type T)) (hn:x≠"__name__":=by decide) (hd:(x == ("__debug__":Str))=false:=by decide):PE X (.Name x pos) (tC (.ty T)):=
  QZ hg hm hv (show RelV (.ty T) (.type T) from rfl) hn hd
end
def Ht (N:List Str) (scope:Scope):List (Str × Nat):=scope.names.filterMap λ y=>if y.2= .free then (N.findIdx? λ n=>decide (n=y.1)).map λ i=>(y.1,i) else none
def F9 (sc:Scope) (N:List Str) (scope:Scope) (own:List Str) (fr:List (Str × Nat)):Bool:=
  decide (scope.kind= .function)&&
  (scope.names.all λ y=>decide (y.2≠ .cell)&&(decide (y.2≠ .local)||decide (scope.names.lookup y.1=some .local))&&
    (decide (y.2≠ .free)||((decide (sc.names.lookup y.1=some .cell)||decide (sc.names.lookup y.1=some .free))&&decide (scope.names.lookup y.1=some .free))))&&
  (fr.all λ p=>decide (N[p.2]?=some p.1)&&decide ((p.1,NameKind.free)∈scope.names))&&
  (own.all λ x=>decide (scope.names.lookup x=some .local))&&decide ((own++fr.map (·.1)).Nodup)
section
variable {X:Cx} {scope:Scope} {own:List Str} {fr:List (Str × Nat)}
theorem BlkScope.of (h:F9 X.env.scope X.N scope own fr=true):BlkScope X scope own fr:=by
  unfold F9 at h;simp only [Ab3,Ac0,decide_eq_true_iff,Bool.or_eq_true] at h;obtain ⟨⟨⟨⟨h1,h2⟩,h3⟩,h4⟩,h5⟩:=h;exact ⟨h1,λ y hy=>(h2 y hy).1.1,λ y hy e=>(h2 y hy).1.2.resolve_left (λ z=>z e),λ y hy e=>((h2 y hy).2.resolve_left (λ z=>z e)).1,λ p hp=>h3 p hp,λ x hx=>((h2 _ hx).2.resolve_left (λ z=>z rfl)).2⟩
theorem NB (h:F9 X.env.scope X.N scope own fr=true):(∀ x∈own,scope.names.lookup x=some .local)/\(own++fr.map (·.1)).Nodup:=by
  unfold F9 at h;simp only [Ab3,Ac0,decide_eq_true_iff,Bool.or_eq_true] at h;exact ⟨h.1.2,h.2⟩
theorem KC {i:Nat} {x:Str} {px:Pos} (h:F9 X.env.scope X.N scope own fr=true) (hi:own[i]?=some x) (C:Addr) (ex:List Addr) (s:Shared) (H:Hp):PG (Bz X scope own fr C ex s H) (.Name x px) (AO i):=by
  obtain ⟨h1,h2⟩:=NB h;have hl:(relabel scope X.env).names.lookup x=some .local:=lookup_relabel_local (h1 x (Af8 hi));have hlt:=(Ac3.mp hi).1;refine Bf h2 ?_ (.inl hl) (.inr hl);show (own++fr.map (·.1))[i]?=some x;rw [Af2 hlt];exact hi
theorem AM {elt iter:Expr} {x:Str} {px:Pos} {ifs:List Expr} {pos:Pos} {wi:TI} {tc:TT} {te:TE} (hi:PI X (.Name x px) iter wi)
    (ht:∀ C ex s H,PTs (Bz X scope [x] (Ht X.N scope) C ex s H) ifs tc) (he:∀ C ex s H,PE (Bz X scope [x] (Ht X.N scope) C ex s H) elt te)
    (hb:F9 X.env.scope X.N scope [x] (Ht X.N scope)=true:=by with_unfolding_all rfl) (hc:X.calm=true:=by rfl)
    (hs:∀ x,foldedSetIterable iter X.env x=pure x:=by intro _;rfl):PE X (.ListComp elt [⟨.Name x px,iter,ifs,0⟩] scope pos) (Kq wi [x] (Ht X.N scope) (AO 0) tc te):=
  Ni hc (.of hb) hi (λ C ex s H=>KC hb rfl C ex s H) ht he hs
theorem Fm {i:Nat} {y x:Str} {py px spos:Pos} {elt iter:Expr} {ifs:List Expr} {pos:Pos} {wi:TI} {tc:TT} {te:TE} (hN:X.N.Nodup) (hix:X.N[i]?=some y) (hx:Loc X.env.scope y) (hi:PI X (.Name x px) iter wi)
    (ht:∀ C ex s H,PTs (Bz X scope [x] (Ht X.N scope) C ex s H) ifs tc) (he:∀ C ex s H,PE (Bz X scope [x] (Ht X.N scope) C ex s H) elt te)
    (hb:F9 X.env.scope X.N scope [x] (Ht X.N scope)=true:=by with_unfolding_all rfl) (hc:X.calm=true:=by rfl)
    (hsw:swapsWith (.ListComp elt [⟨.Name x px,iter,ifs,0⟩] scope pos) (some (.Name y py)) spos.line X.env=pure true:=by rfl)
    (hf:X.fn y=true\/X.env.scope.names.lookup y=some .local:=by first | exact .inl rfl | exact .inr rfl | assumption)
    (hs:∀ x,foldedSetIterable iter X.env x=pure x:=by intro _;rfl):
    PS X (.Assign [.Name y py] (.ListComp elt [⟨.Name x px,iter,ifs,0⟩] scope pos) spos) (Pq (Kq wi [x] (Ht X.N scope) (AO 0) tc te) (AO i)):=
  QE hN hix hx hc (.of hb) hi (λ C ex s H=>KC hb rfl C ex s H) ht he hsw hf hs
theorem SL {σ:L2.St} {H:Hp} {A B:Hp->Prop} (h:A H):Pl σ H (λ b H3=>if b=true then A H3 else B H3):=by
  show (if true=true then A H else B H);exact CI h
end
def Os (K:PySem.W.Frag):List V->Hp->VK->Prop:=λ xs H Q=>∃ x n,xs=[x]/\WD K x H n/\Q (.int n) H
def Up (K:PySem.W.Frag):List V->Hp->VK->Prop:=λ xs H Q=>∃ (p:Addr) (ns:List Int),xs=[.ref p]/\SqL K H p (ns.map V.int)/\Q (.int ns.sum) H
def Z6 (K:PySem.W.Frag):List V->Hp->VK->Prop:=λ xs H Q=>∃ (p:Addr) (bs:List Bool),xs=[.ref p]/\SqL K H p (bs.map V.bl)/\Q (.bl (bs.all id)) H
def RS (K:PySem.W.Frag):List V->Hp->VK->Prop:=λ xs H Q=>∃ x n t b,xs=[x, .ty n]/\TyOf K H x t/\PySem.W.kitOne K t (.type n)=some b/\Q (.bl b) H
def HR (K:PySem.W.Frag):List V->Hp->VK->Prop:=λ xs H Q=>∃ p ys,xs=[.ref p]/\(SqL K H p ys\/SqT K H p ys)/\∀ l,H l=none->Q (.ref l) (upd H l (.lst ys))
def Lx (K:PySem.W.Frag):List V->Hp->VK->Prop:=λ xs H Q=>∃ p ys,xs=[.ref p]/\((SqL K H p ys/\∀ l,H l=none->Q (.ref l) (upd H l (.tup ys)))\/(SqT K H p ys/\Q (.ref p) H))
section
variable {X:Cx} {K:PySem.W.Frag}
theorem CV (hK:X.K=K:=by rfl):Cf X (.builtin "len") (Os K):=by subst hK;exact P7
theorem UN (hK:X.K=K:=by rfl) (hc:X.calm=true:=by rfl):Cf X (.builtin "sum") (Up K):=by subst hK;exact OE hc
theorem Ll (hK:X.K=K:=by rfl) (hc:X.calm=true:=by rfl):Cf X (.builtin "all") (Z6 K):=by subst hK;exact O0 hc
theorem BY (hK:X.K=K:=by rfl):Cf X (.builtin "isinstance") (RS K):=by subst hK;exact LI
theorem BZ (hK:X.K=K:=by rfl):Cf X (.type "list") (HR K):=by subst hK;exact KI
theorem C2 (hK:X.K=K:=by rfl):Cf X (.type "tuple") (Lx K):=by subst hK;exact JL
theorem Fg (hK:X.K=K:=by rfl):IxR X (SB K):=by subst hK;exact RE
theorem B5 (hK:X.K=K:=by rfl):IxR X (TC K):=by subst hK;exact SH
theorem Qj (hK:X.K=K:=by rfl):OpR X (compareOp .NotIn) (rIn K true):=by subst hK;exact Ky
theorem Fi (hK:X.K=K:=by rfl):OpR X (binaryOp .Add) (Ot K):=by subst hK;exact Qr
theorem Sa (hu:X.A.units<cLine) (hK:X.K=K:=by rfl):OpR X (compareOp .Eq) (RF K false):=by subst hK;exact SS hu
theorem FR (hK:X.K=K:=by rfl):SlR X (Sz K):=by subst hK;exact M7
theorem CG {tg l:Expr} {tl:TE} (hl:PE X l tl) (hK:X.K=K:=by rfl):PI X tg l (PM K tl):=by subst hK;exact Q9 hl
theorem J4 {tg l:Expr} {tl:TE} (hl:PE X l tl) (hK:X.K=K:=by rfl):PI X tg l (Sk K tl):=by subst hK;exact Sn hl
end
section
variable {X:Cx} {pins:List (Addr × Obj)} {σ:St} {H:Hp} {s:Shared} {h':Heap}
theorem Inv.turnedL {t':Nat} (ch:List Addr) (I:Inv X pins σ H s) (hf:∀ b∈ch,DD X pins H b) (k:∀ b o,b∉ch->s.heap.get? b=some o->h'.get? b=some o):Inv X pins σ H { s with heap:=h',toks:=t' }:=by
  have nit:∀ b u,H b=some u->b∉ch:=λ b u e z=>by rw [(hf b z).1] at e;cases e
  refine I.step (g':=s.gens) (d':=s.drawn) (ch:=ch) (λ b hb=> ?_) (λ b o _ _ hc e _=>k b o hc e) (λ b o _ _ hc e _=>⟨o.slots,k b o hc e⟩) (λ _ _ _ _ n=>n)
    (λ b o hc e=>⟨o,k b o hc e⟩) (λ _ _ e=>e) (λ _ _ _ e=>e) (λ b ps e=>⟨#[],by rw [e];simp⟩) (λ m hm=> ?_) (λ b u e=> ?_) I.bare
  · obtain ⟨f0,f1,f2,f3,f4,f5⟩:=hf b hb;exact ⟨f3,f1,f4,f5⟩
  · obtain ⟨o,es,ep,ho,r⟩:=hm;exact ⟨o,es,ep,k _ o (λ z=>(hf _ z).2.1 rfl) ho,r⟩
  · refine (I.hok b u e).stay (λ c v hc q=>k c v ?_ q) (λ _ q=>q) λ _ _ q=>q;rcases hc with z | z
    · rw [z];exact nit b u e
    · exact nit c _ z
end
def Ite (K:PySem.W.Frag) (a:Addr):It:=
  ⟨λ i H=>∃ xs x,SqL K H a xs/\xs[i]?=some x,λ i H v H'=>∃ p x,H p=none/\v= .ref p/\H'=upd H p (.tup [.int i,x])/\∀ xs,SqL K H a xs->xs[i]?=some x,λ i H=>∃ xs,SqL K H a xs/\xs.length<=i⟩
theorem Fe {X:Cx} {pins:List (Addr × Obj)} {H:Hp} {b p:Addr} {o:HO} (h:DD X pins H b) (n:b≠p):DD X pins (upd H p o) b:=⟨by rw [Ak n];exact h.1,h.2⟩
theorem NI {P:Program} {w:World} {K:PySem.W.Frag} {elts:List Expr} {k:Nat} {pos:Pos} (a e it:Addr) (hne:e≠it):
    Turn P w K (.Tuple elts k pos) (Ite K a) [e,it] e (λ i h=>(∃ old,IsEnum h e it i old)/\h.IsListIter it a i) where
  mem:=by simp
  obj:=λ i h st b hb=>by
    obtain ⟨⟨old,he⟩,o,eo,c,d⟩:=st;rcases Ab5.mp hb with z | z
    · subst z;exact ⟨_,he,λ v z=>by cases (show Data.fields _=Data.cell v from z)⟩
    · have z:b=it:=by simpa using z
      subst z;exact ⟨o,eo,λ v z=>by rw [d] at z;cases z⟩
  keep:=λ i h h' st kp=>by
    obtain ⟨⟨old,he⟩,hi⟩:=st;exact ⟨⟨old,kp e (by simp) _ he⟩,hi.at λ o z=>kp it (by simp) o z⟩
  item:=by
    intro X hP hw hK hc i pins s σ H E I hf st hg;subst hP hw hK;obtain ⟨xs,x,hq,hx⟩:=hg;obtain ⟨its,rv,p,hz⟩:=I.list hq;obtain ⟨u,hu,ru⟩:=rv.get hx;obtain ⟨⟨old,he⟩,hi⟩:=st;have hel:e<s.heap.objs.size:=Aa6 he;have hil:it<s.heap.objs.size:=by obtain ⟨_,z,_⟩:=hi;exact Aa6 z
    refine wpAny_pyNext_enum_item he hi p.isList (x:=u) (by simpa using hu) hne λ h' ho hi' hT hsz hk=> ?_;have I0:=I.laid (h':=s.heap.push { cls:= .type "tuple",data:= .seq #[.int i s.toks,u] }) (a:=s.heap.objs.size) (o:= .tup [.int i,x]) (t':=s.toks+1) (λ _ _ q=>Aa1 _ q) (Aa7 _)
      ⟨(by show 2<=sizeLine;decide),[.int i s.toks,u], .cons ⟨_,rfl⟩ (.cons ru .nil),⟨_,Aa8 _ rfl,rfl,_,rfl⟩⟩
    have f0:∀ b∈[e,it],DD X pins (upd H s.heap.objs.size (.tup [.int i,x])) b:=λ b hb=>Fe (hf b hb) (by
      rcases Ab5.mp hb with z | z
      · rw [z];exact Ac2 hel
      · rw [show b=it by simpa using z];exact Ac2 hil)
    have I1:=Inv.turnedL (t':=s.toks+1) (h':=h') [e,it] I0 f0 (λ b o hb z=>by
      have hb1:b≠e:=λ q=>hb (by simp [q]);have hb2:b≠it:=λ q=>hb (by simp [q]);rcases Af9 (show (s.heap.push { cls:= .type "tuple",data:= .seq #[.int i s.toks,u] }).get? b=some o from z) with ⟨q1,q2⟩ | q
      · rw [q1,q2];exact hT
      · exact hk b o hb1 hb2 q)
    refine ⟨.ref s.heap.objs.size,rfl,wpAny_letOwnedTupleGo_enum (s:={ s with heap:=h',toks:=s.toks+1 }) ho λ h2 he2 sb=> ?_⟩;refine ⟨.ref s.heap.objs.size,_,Inv.turnedL (t':=s.toks+1) (h':=h2) [e,it] I1 f0 (λ b o hb z=>(sb.2 b λ q=>hb (by simp [q])).trans z),rfl,⟨_,x,I.fresh,rfl,rfl,λ ys hy=>by rw [I.list_inj hy hq];exact hx⟩,⟨⟨u,by simpa using he2⟩,hi'.at λ o z=>(sb.2 it hne.symm).trans z⟩,λ b hb=>(f0 b hb).1⟩
  done:=by
    intro X hP hw hK hc i pins s σ H E I hf st hg;subst hP hw hK;obtain ⟨xs,hq,hx⟩:=hg;obtain ⟨its,rv,p,hz⟩:=I.list hq;obtain ⟨⟨old,he⟩,hi⟩:=st;have hl:=rv.length;exact wpAny_pyNext_enum_end (I.ok.hd hc) he hi p.isList (by simp;omega) λ h' eb=>⟨rfl,I.turnedL (t':=s.toks) [e,it] hf λ b o hb z=>eb b o (λ q=>hb (by simp [q])) z⟩
  self:=λ _ _ _ _ _ st h=>by
    obtain ⟨⟨old,he⟩,_⟩:=st;exact wpAny_pyIter_enum he h
section
variable {X:Cx} {elts:List Expr} {k:Nat} {tpos:Pos} {K:PySem.W.Frag}
def Sh (K:PySem.W.Frag) (ta:TA):TI:=λ σ H R=>ta σ H λ vs H1=>∃ a,vs=[.ref a]/\(∃ xs,SqL K H1 a xs)/\R (Ite K a) H1
theorem G8:bootBuiltins "enumerate"=some (.type "enumerate"):=by decide +kernel
theorem Jg:bootBuiltins "zip"=some (.type "zip"):=by decide +kernel
theorem Qu {l:Expr} {ta:TA} {p pos:Pos} (hg:Gl X "enumerate") (hm:X.mg "enumerate"=none) (ha:PA X [l] ta) (hK:X.K=K:=by rfl) (hs:starEach [l] X.env=[(false,eval l X.env)]:=by rfl):PI X (.Tuple elts k tpos) (.Call (.Name "enumerate" p) [l] [] pos) (Sh K ta):=by
  subst hK;intro pins s σ H R I h;refine Call_ (Ck I hg hm G8 (PyProof.Rows.callWith_type1 (thn (ha pos pins s σ H _ I h) λ us s1 ⟨vs,H1,I1,r1,q1⟩=> ?_) hs rfl));obtain ⟨a,e,⟨xs,hq⟩,q⟩:=q1;subst e;cases r1 with
  | cons r rr=>
    cases rr;cases r;obtain ⟨its,rv,pl,hz⟩:=I1.list hq;refine call_enumerate_list pl.isList λ h' he hi hsz hk=> ?_;refine wpAny_pyIter_enum he ?_;have I2:=I1.kept (t':=s1.toks) hk;refine ⟨s1.heap.objs.size+1,[s1.heap.objs.size+1,s1.heap.objs.size],_,_,H1,rfl,I2,NI a _ _ (Nat.succ_ne_self _),⟨⟨_,he⟩,hi⟩,λ b hb=> ?_,q⟩;have hb':s1.heap.objs.size<=b:=by
      rcases Ab5.mp hb with z | z
      · rw [z];exact Nat.le_succ _
      · have z:b=s1.heap.objs.size:=by simpa using z
        rw [z];exact Aa7 _
    exact I1.fpOk hb' (I1.hok.fresh hb')
end
section
variable {X:Cx} {elts:List Expr} {k:Nat} {tpos:Pos} {K:PySem.W.Frag}
end
def BH (tp:Bool) (h:Heap) (it l:Addr) (i:Nat):Prop:=if tp=true then h.IsTupleIter it l i else h.IsListIter it l i
def A8 (tp:Bool) (h:Heap) (l:Addr) (xs:Array Value):Prop:=if tp=true then h.IsTuple l xs else h.IsList l xs
theorem Ao {tp:Bool} {h h':Heap} {it l:Addr} {i:Nat} (x:BH tp h it l i) (k:∀ o,h.get? it=some o->h'.get? it=some o):BH tp h' it l i:=by
  cases tp with
  | false=>obtain ⟨o,e,r⟩:=(show h.IsListIter it l i from x);exact (show h'.IsListIter it l i from ⟨o,k o e,r⟩)
  | true=>obtain ⟨o,e,r⟩:=(show h.IsTupleIter it l i from x);exact (show h'.IsTupleIter it l i from ⟨o,k o e,r⟩)
theorem AZ {tp:Bool} {h h':Heap} {l:Addr} {xs:Array Value} (x:A8 tp h l xs) (k:∀ o,h.get? l=some o->h'.get? l=some o):A8 tp h' l xs:=by
  cases tp with
  | false=>obtain ⟨o,e,r⟩:=(show h.IsList l xs from x);exact (show h'.IsList l xs from ⟨o,k o e,r⟩)
  | true=>obtain ⟨o,e,r⟩:=(show h.IsTuple l xs from x);exact (show h'.IsTuple l xs from ⟨o,k o e,r⟩)
theorem A5 {tp:Bool} {h:Heap} {it l:Addr} {i:Nat} (x:BH tp h it l i):∃ o,h.get? it=some o/\o.data= .fields #[.ref l, .int i 0]:=by
  cases tp with
  | false=>obtain ⟨o,e,_,d⟩:=(show h.IsListIter it l i from x);exact ⟨o,e,d⟩
  | true=>obtain ⟨o,e,_,d⟩:=(show h.IsTupleIter it l i from x);exact ⟨o,e,d⟩
theorem B2 {tp:Bool} {h:Heap} {l:Addr} {xs:Array Value} (x:A8 tp h l xs):∃ o n,h.get? l=some o/\o.data= .seq xs n:=by
  cases tp with
  | false=>obtain ⟨o,e,_,n,d⟩:=(show h.IsList l xs from x);exact ⟨o,n,e,d⟩
  | true=>obtain ⟨o,e,_,n,d⟩:=(show h.IsTuple l xs from x);exact ⟨o,n,e,d⟩
section
variable {prog:Program} {w:World} {A:Around} {E:Value->Shared->Prop} {s:Shared}
theorem BB {tp:Bool} {it l:Addr} {i:Nat} {xs:Array Value} {x:Value} {Q:Value->Shared->Prop} (ht:BH tp s.heap it l i) (hq:A8 tp s.heap l xs) (hx:xs[i]?=some x)
    (k:∀ h',BH tp h' it l (i+1)->Heap.SameBut it s.heap h'->Q x { s with heap:=h' }):wpAny (model prog w) A (Builtin.SmallTypes.nextOf (.ref it)) Q E s:=by
  cases tp with
  | false=>exact wpAny_nextOf_list_item (show s.heap.IsListIter it l i from ht) (show s.heap.IsList l xs from hq) hx k
  | true=>
    have ht:s.heap.IsTupleIter it l i:=ht;obtain ⟨ob,eb,cb,db⟩:=id ht;obtain ⟨ol,el,_,nl,dl⟩:=(show s.heap.IsTuple l xs from hq);unfold Builtin.SmallTypes.nextOf;refine Aa0 (Ab7 (name:=Str.ofString "__next__") ht.typeIs F.slot_tuple_iterator_next (Ad2 F.slot_tuple_iterator_next ht.typeIs F.entry_tuple_iterator_next ?_ (F.args_tuple_iterator_next_1 _)));show wpAny _ _ (field (.ref it) 0 >>= _) _ _ s;refine Aa0 (Ab9 eb db (x:= .ref l) rfl ?_);show wpAny _ _ (if (Value.ref l == Value.none)=true then _ else _) _ _ s;rw [if_neg (show ¬ ((Value.ref l == Value.none)=true) from Ab0)];show wpAny _ _ (field (.ref it) 1 >>= _) _ _ s;refine Aa0 (Ab9 eb db (x:= .int i 0) rfl ?_);show wpAny _ _ (seqItems? (.ref l) >>= _) _ _ s;refine Aa0 (Ad4 el dl ?_);simp only [Ae1,hx];refine Aa0 (wpAny_setField eb db (by simp) (Aa5 ⟨x,rfl,Aa5 (k _ ?_ (Heap.SameBut.update ..))⟩));exact (show Heap.IsTupleIter _ it l (i+1) from ⟨_,Heap.get?_update_self _ eb (Obj.isFreed_of_fields (Obj.data_mapFields db _)),(Obj.cls_mapFields ..).trans cb,by rw [Obj.data_mapFields db];simp [rawInt]⟩)
theorem C0 {tp:Bool} {it l:Addr} {i:Nat} {xs:Array Value} {Q:Value->Shared->Prop} (hh:A.handled=none) (ht:BH tp s.heap it l i) (hq:A8 tp s.heap l xs) (hx:xs[i]?=none)
    (k:∀ h' e,Heap.ExtBut it s.heap h'->(∃ o,h'.get? e=some o/\o.cls= .type "StopIteration")->E (.ref e) { s with heap:=h' }):wpAny (model prog w) A (Builtin.SmallTypes.nextOf (.ref it)) Q E s:=by
  cases tp with
  | false=>exact wpAny_nextOf_list_end hh (show s.heap.IsListIter it l i from ht) (show s.heap.IsList l xs from hq) hx k
  | true=>
    have ht:s.heap.IsTupleIter it l i:=ht;obtain ⟨ob,eb,cb,db⟩:=id ht;obtain ⟨ol,el,_,nl,dl⟩:=(show s.heap.IsTuple l xs from hq);unfold Builtin.SmallTypes.nextOf;refine Aa0 (Ab7 (name:=Str.ofString "__next__") ht.typeIs F.slot_tuple_iterator_next (Ad2 F.slot_tuple_iterator_next ht.typeIs F.entry_tuple_iterator_next ?_ (F.args_tuple_iterator_next_1 _)));show wpAny _ _ (field (.ref it) 0 >>= _) _ _ s;refine Aa0 (Ab9 eb db (x:= .ref l) rfl ?_);show wpAny _ _ (if (Value.ref l == Value.none)=true then _ else _) _ _ s;rw [if_neg (show ¬ ((Value.ref l == Value.none)=true) from Ab0)];show wpAny _ _ (field (.ref it) 1 >>= _) _ _ s;refine Aa0 (Ab9 eb db (x:= .int i 0) rfl ?_);show wpAny _ _ (seqItems? (.ref l) >>= _) _ _ s;refine Aa0 (Ad4 el dl ?_);simp only [Ae1,hx];refine Aa0 (wpAny_rule (Aa0 (wpAny_setField eb db (by simp) ?_)));show wpAny _ _ (newExc (.type "StopIteration") [] >>= _) _ _ _;refine Aa0 ?_;simp only [newExc,newTuple];refine Aa0 (Ag4 ?_ (by size_fits));refine Aa0 (m:=firstArgMember _ _) (wpAny_of_eq (a:=Value.none) (by first | rfl | (simp only [firstArgMember];rfl)) ?_);refine Ag4 ?_ (by size_fits);simp only [raiseNew];refine Aa0 (wpAny_handled ?_)
    first | rw [show A.in1.handled=none from hh] | rw [hh]
    exact Aa0 (Aa5 (wpAny_throw (k _ _ (((Heap.SameBut.update ..).extBut.push _).push _) ⟨_,Aa8 _ rfl,rfl⟩)))
end
section
variable {prog:Program} {w:World} {A:Around} {E:Value->Shared->Prop} {s:Shared}
structure ZipSt (t1 t2:Bool) (h:Heap) (z TI TO i1 i2 l1 l2:Addr) (k:Nat):Prop where
  hz:IsZip h z TI TO .none
  hTI:IsPair h TI (.ref i1) (.ref i2)
  hTO:∃ c d,IsPair h TO c d
  h1:BH t1 h i1 l1 k
  h2:BH t2 h i2 l2 k
theorem Kr {t1 t2:Bool} {z TI TO i1 i2 l1 l2:Addr} {k:Nat} {xs ys:Array Value} {x y:Value} {Q:Value->Shared->Prop} (D:ZipApart z TI TO i1 i2 l1 l2) (Z:ZipSt t1 t2 s.heap z TI TO i1 i2 l1 l2 k)
    (q1:A8 t1 s.heap l1 xs) (q2:A8 t2 s.heap l2 ys) (hx:xs[k]?=some x) (hy:ys[k]?=some y)
    (fin:∀ h',IsZip h' z TI TO (rawInt s.heap.objs.size)->IsPair h' TO x y->BH t1 h' i1 l1 (k+1)->BH t2 h' i2 l2 (k+1)->IsPair h' s.heap.objs.size x y->
      (∀ c o,c≠z->c≠TO->c≠i1->c≠i2->s.heap.get? c=some o->h'.get? c=some o)->Q (.ref s.heap.objs.size) { s with heap:=h' }):
    wpAny (model prog w) A (Builtin.«zip.__next__» ⟨[.ref z],[]⟩) (λ fin s'=>∃ v,fin= .done (.ret v)/\Q v s') E s:=by
  obtain ⟨hz,hTI,⟨c0,d0,hTO⟩,g1,g2⟩:=Z;show wpAny _ _ (field (.ref z) 2 >>= _) _ _ _;refine Aa0 (Ab9 hz rfl (x:= .bool false) rfl ?_);show wpAny _ _ (field (.ref z) 3 >>= _) _ _ _;refine Aa0 (Ab9 hz rfl (x:= .ref TI) rfl (Aa0 (Ad4 hTI rfl ?_)));show wpAny _ _ (Builtin.SmallTypes.ownedTupleIsFree (.ref z) >>= _) _ _ _;refine Aa0 ?_;unfold Builtin.SmallTypes.ownedTupleIsFree;refine Aa0 (Ab9 hz rfl (x:= .none) rfl (Aa5 ?_));simp only [if_true];refine Aa0 (wpAny_rule (Aa0 (Ab9 hz rfl (x:= .ref TO) rfl (Aa0 (Ac1 hz (by simp) λ a1 za b1=> ?_)))));replace za:IsZip a1 z TI TO .ellipsis:=za;refine Aa0 ?_;simp only [List.zipIdx_cons,List.zipIdx_nil,Af4,Ah3];refine Aa0 (Aa0 (Ah0 ?_));show wpAny _ _ (Builtin.SmallTypes.nextOf (.ref i1) >>= _) _ _ _;refine Aa0 (BB (s:={ s with heap:=a1 }) (Ao g1 λ o e=>b1.extBut _ o D.i1z e) (AZ q1 λ o e=>b1.extBut _ o D.l1z e) hx λ a2 i1a b2=>Aa5 ?_);have to2:IsPair a2 TO c0 d0:=b2.extBut _ _ D.TOi1 (b1.extBut _ _ D.TOz hTO);refine Aa0 (Ad4 to2 rfl (Aa0 (Ag0 to2 λ a3 to3 b3=> ?_)));replace to3:IsPair a3 TO x d0:=to3;refine Aa0 (wpAny_letGo (Aa5 (Aa0 (Aa0 (Ah0 ?_)))));show wpAny _ _ (Builtin.SmallTypes.nextOf (.ref i2) >>= _) _ _ _;have up3:∀ c o,c≠z->c≠i1->c≠TO->s.heap.get? c=some o->a3.get? c=some o:=λ c o n1 n2 n3 e=>b3.extBut _ o n3 (b2.extBut _ o n2 (b1.extBut _ o n1 e));refine Aa0 (BB (s:={ s with heap:=a3 }) (Ao g2 λ o e=>up3 _ o D.i2z D.i12.symm D.TOi2.symm e) (AZ q2 λ o e=>up3 _ o D.l2z D.l2i1 D.l2TO e) hy λ a4 i2a b4=>Aa5 ?_);have to4:IsPair a4 TO x d0:=b4.extBut _ _ D.TOi2 to3;refine Aa0 (Ad4 to4 rfl (Aa0 (Ag0 to4 λ a5 to5 b5=> ?_)));replace to5:IsPair a5 TO x y:=to5;refine Aa0 (wpAny_letGo (Aa5 (Aa5 (Aa0 (Ad4 to5 rfl (Aa0 (wpAny_newTuple ?_)))))));have sz:a5.objs.size=s.heap.objs.size:=by rw [b5.1,b4.1,b3.1,b2.1,b1.1]
  have z5:IsZip a5 z TI TO .ellipsis:=b5.extBut _ _ D.TOz.symm (b4.extBut _ _ D.i2z.symm (b3.extBut _ _ D.TOz.symm (b2.extBut _ _ D.i1z.symm za)));have k5:∀ c o,c≠z->c≠TO->c≠i1->c≠i2->s.heap.get? c=some o->a5.get? c=some o:=λ c o n1 n2 n3 n4 e=>b5.extBut _ _ n2 (b4.extBut _ _ n4 (up3 c o n1 n3 n2 e));have f1:BH t1 a5 i1 l1 (k+1):=Ao i1a λ o e=>b5.extBut _ o D.TOi1.symm (b4.extBut _ o D.i12 (b3.extBut _ o D.TOi1.symm e));have f2:BH t2 a5 i2 l2 (k+1):=Ao i2a λ o e=>b5.extBut _ o D.TOi2.symm e;have zlt:z<a5.objs.size:=Aa6 z5;show wpAny _ _ (Builtin.SmallTypes.ownedTupleHandOut (.ref z) (.ref a5.objs.size) >>= _) _ _ _;refine Aa0 ?_;unfold Builtin.SmallTypes.ownedTupleHandOut;have z6:IsZip (a5.push { cls:= .type "tuple",data:= .seq #[x,y] }) z TI TO .ellipsis:=Aa1 _ z5;refine Aa0 (Ac1 z6 (by simp) λ a7 z7 b7=> ?_);replace z7:IsZip a7 z TI TO (rawInt a5.objs.size):=z7;refine Ac1 z7 (by simp) λ a8 z8 b8=> ?_;replace z8:IsZip a8 z TI TO (rawInt a5.objs.size):=z8;have up:∀ c o,c≠z->a5.get? c=some o->a8.get? c=some o:=λ c o n e=>b8.extBut _ _ n (b7.extBut _ _ n (Aa1 _ e));have t8:IsPair a8 a5.objs.size x y:=b8.extBut _ _ (Ag8 zlt) (b7.extBut _ _ (Ag8 zlt) (Aa8 _ rfl));rw [sz] at z8 t8;refine Aa5 ⟨_,rfl,?_⟩;show Q (.ref a5.objs.size) _;rw [sz];exact fin a8 z8 (up _ _ D.TOz to5) (Ao f1 λ o e=>up _ o D.i1z e) (Ao f2 λ o e=>up _ o D.i2z e) t8 λ c o n1 n2 n3 n4 e=>up c o n1 (k5 c o n1 n2 n3 n4 e)
theorem LC {t1 t2:Bool} {z TI TO i1 i2 l1 l2:Addr} {k:Nat} {xs ys:Array Value} {Q:Fin->Shared->Prop} (hh:A.handled=none) (D:ZipApart z TI TO i1 i2 l1 l2) (Z:ZipSt t1 t2 s.heap z TI TO i1 i2 l1 l2 k)
    (q1:A8 t1 s.heap l1 xs) (q2:A8 t2 s.heap l2 ys) (hend:xs[k]?=none\/ys[k]?=none)
    (fin:∀ h' e,(∀ c o,c≠z->c≠TO->c≠i1->c≠i2->s.heap.get? c=some o->h'.get? c=some o)->(∃ o,h'.get? e=some o/\o.cls= .type "StopIteration")->E (.ref e) { s with heap:=h' }):
    wpAny (model prog w) A (Builtin.«zip.__next__» ⟨[.ref z],[]⟩) Q E s:=by
  obtain ⟨hz,hTI,⟨c0,d0,hTO⟩,g1,g2⟩:=Z;show wpAny _ _ (field (.ref z) 2 >>= _) _ _ _;refine Aa0 (Ab9 hz rfl (x:= .bool false) rfl ?_);show wpAny _ _ (field (.ref z) 3 >>= _) _ _ _;refine Aa0 (Ab9 hz rfl (x:= .ref TI) rfl (Aa0 (Ad4 hTI rfl ?_)));show wpAny _ _ (Builtin.SmallTypes.ownedTupleIsFree (.ref z) >>= _) _ _ _;refine Aa0 ?_;unfold Builtin.SmallTypes.ownedTupleIsFree;refine Aa0 (Ab9 hz rfl (x:= .none) rfl (Aa5 ?_));simp only [if_true];refine Aa0 (wpAny_rule (Aa0 (Ab9 hz rfl (x:= .ref TO) rfl (Aa0 (Ac1 hz (by simp) λ a1 za b1=> ?_)))));replace za:IsZip a1 z TI TO .ellipsis:=za;refine Aa0 ?_;simp only [List.zipIdx_cons,List.zipIdx_nil,Af4,Ah3];refine Aa0 (Aa0 (Ah0 ?_));show wpAny _ _ (Builtin.SmallTypes.nextOf (.ref i1) >>= _) _ _ _;have g1':=Ao g1 λ o e=>b1.extBut _ o D.i1z e;have q1':=AZ q1 λ o e=>b1.extBut _ o D.l1z e;cases hx:xs[k]? with
  | none=>
    refine Aa0 (C0 (s:={ s with heap:=a1 }) hh g1' q1' hx λ a2 e b2 he=> ?_);obtain ⟨oe,eo,ce⟩:=he;have z2:IsZip a2 z TI TO .ellipsis:=b2 _ _ D.i1z.symm za;have nz:e≠z:=λ q=>by subst q;rw [z2] at eo;cases eo;simp at ce
    exact Ac1 z2 (by simp) λ a3 _ b3=>fin a3 e (λ c o n1 _ n3 _ q=>b3.extBut _ _ n1 (b2 _ _ n3 (b1.extBut _ _ n1 q))) ⟨oe,b3.extBut _ _ nz eo,ce⟩
  | some x=>
    have hy:ys[k]?=none:=by
      rcases hend with q | q
      · rw [hx] at q;cases q
      · exact q
    refine Aa0 (BB (s:={ s with heap:=a1 }) g1' q1' hx λ a2 i1a b2=>Aa5 ?_);have to2:IsPair a2 TO c0 d0:=b2.extBut _ _ D.TOi1 (b1.extBut _ _ D.TOz hTO);refine Aa0 (Ad4 to2 rfl (Aa0 (Ag0 to2 λ a3 to3 b3=> ?_)));refine Aa0 (wpAny_letGo (Aa5 (Aa0 (Aa0 (Ah0 ?_)))));show wpAny _ _ (Builtin.SmallTypes.nextOf (.ref i2) >>= _) _ _ _;have up3:∀ c o,c≠z->c≠i1->c≠TO->s.heap.get? c=some o->a3.get? c=some o:=λ c o n1 n2 n3 e=>b3.extBut _ o n3 (b2.extBut _ o n2 (b1.extBut _ o n1 e));refine Aa0 (C0 (s:={ s with heap:=a3 }) hh (Ao g2 λ o e=>up3 _ o D.i2z D.i12.symm D.TOi2.symm e) (AZ q2 λ o e=>up3 _ o D.l2z D.l2i1 D.l2TO e) hy λ a4 e b4 he=> ?_);obtain ⟨oe,eo,ce⟩:=he;have z4:IsZip a4 z TI TO .ellipsis:=b4 _ _ D.i2z.symm (b3.extBut _ _ D.TOz.symm (b2.extBut _ _ D.i1z.symm za));have nz:e≠z:=λ q=>by subst q;rw [z4] at eo;cases eo;simp at ce
    exact Ac1 z4 (by simp) λ a5 _ b5=>fin a5 e (λ c o n1 n2 n3 n4 q=>b5.extBut _ _ n1 (b4 _ _ n4 (up3 c o n1 n3 n2 q))) ⟨oe,b5.extBut _ _ nz eo,ce⟩
def Kc (tp:Bool):String:=if tp=true then "tuple_iterator" else "list_iterator"
theorem IG {tp:Bool} {l:Addr} {xs:Array Value} {Q:Value->Shared->Prop} (hq:A8 tp s.heap l xs) (k:Q (.ref s.heap.objs.size) { s with heap:=s.heap.push { cls:= .type (Kc tp),data:= .fields #[.ref l, .int 0 0] } }):
    wpAny (model prog w) A (pyIter (.ref l)) Q E s:=by
  cases tp with
  | false=>exact wpAny_pyIter_list (show s.heap.IsList l xs from hq) k
  | true=>exact wpAny_pyIter_tuple (show s.heap.IsTuple l xs from hq) k
theorem Ha {tp:Bool} {h:Heap} {l:Addr}:BH tp (h.push { cls:= .type (Kc tp),data:= .fields #[.ref l, .int 0 0] }) h.objs.size l 0:=by
  cases tp with
  | false=>exact (show Heap.IsListIter _ _ l 0 from ⟨_,Aa8 _ rfl,rfl,rfl⟩)
  | true=>exact (show Heap.IsTupleIter _ _ l 0 from ⟨_,Aa8 _ rfl,rfl,rfl⟩)
abbrev zs1 (t1:Bool) (h:Heap) (l1:Addr):Heap:=h.push { cls:= .type (Kc t1),data:= .fields #[.ref l1, .int 0 0] }
abbrev zs2 (t1 t2:Bool) (h:Heap) (l1 l2:Addr):Heap:=(zs1 t1 h l1).push { cls:= .type (Kc t2),data:= .fields #[.ref l2, .int 0 0] }
abbrev zs3 (t1 t2:Bool) (h:Heap) (l1 l2:Addr):Heap:=(zs2 t1 t2 h l1 l2).push { cls:= .type "tuple",data:= .seq #[.ref h.objs.size, .ref (zs1 t1 h l1).objs.size] }
abbrev zs4 (t1 t2:Bool) (h:Heap) (l1 l2:Addr):Heap:=(zs3 t1 t2 h l1 l2).push { cls:= .type "tuple",data:= .seq #[.none, .none] }
abbrev zs5 (t1 t2:Bool) (h:Heap) (l1 l2:Addr):Heap:=(zs4 t1 t2 h l1 l2).push { cls:= .type "zip",data:= .fields #[.none, .bool false, .bool false, .ref (zs2 t1 t2 h l1 l2).objs.size, .ref (zs3 t1 t2 h l1 l2).objs.size] }
theorem Mw (t1 t2:Bool) (l1 l2:Addr) (xs ys:Array Value):
    Meets (Builtin.«zip.__new__» ⟨[.type "zip", .ref l1, .ref l2],[]⟩) (λ _ R s=>A8 t1 s.heap l1 xs/\A8 t2 s.heap l2 ys/\
      R (.ok (.ret (.ref (zs4 t1 t2 s.heap l1 l2).objs.size))) { s with heap:=zs5 t1 t2 s.heap l1 l2 }):=
  .of_wp λ prog w A R s h=>by
    obtain ⟨hp,g,d,tk,os⟩:=s;obtain ⟨m1,m2,h⟩:=h;have hsub:=sub_zip;have M1:A8 t1 (Shared.heap ⟨hp,g,d,tk,os⟩) l1 xs:=m1;have M2:A8 t2 (Shared.heap ⟨hp.push { cls:= .type (Kc t1),data:= .fields #[.ref l1, .int 0 0] },g,d,tk,os⟩) l2 ys:=AZ m2 λ o e=>Aa1 _ e
    wp_walk using IG M1,IG M2
    exact ⟨_,rfl,h⟩
theorem G3 {t1 t2:Bool} {l1 l2:Addr} {xs ys:Array Value} {Q:Value->Shared->Prop} (m1:A8 t1 s.heap l1 xs) (m2:A8 t2 s.heap l2 ys)
    (k:∀ h',ZipSt t1 t2 h' (s.heap.objs.size+4) (s.heap.objs.size+2) (s.heap.objs.size+3) s.heap.objs.size (s.heap.objs.size+1) l1 l2 0->
      (∀ c o,s.heap.get? c=some o->h'.get? c=some o)->Q (.ref (s.heap.objs.size+4)) { s with heap:=h' }):
    wpAny (model prog w) A (call (.type "zip") [.ref l1, .ref l2]) Q E s:=by
  refine callType_new F.called_zip (by decide) (F.typeCall_zip_2 _ _) (F.newCall_zip_2 _ _) (λ obj=>F.args_object_init_3 obj _ _) F.entry_zip_new (Mw t1 t2 l1 l2 xs ys) ⟨m1,m2,?_⟩;have n1:(zs1 t1 s.heap l1).objs.size=s.heap.objs.size+1:=Ae4 ..;have n2:(zs2 t1 t2 s.heap l1 l2).objs.size=s.heap.objs.size+2:=by rw [Ae4,n1]
  have n3:(zs3 t1 t2 s.heap l1 l2).objs.size=s.heap.objs.size+3:=by rw [Ae4,n2]
  have n4:(zs4 t1 t2 s.heap l1 l2).objs.size=s.heap.objs.size+4:=by rw [Ae4,n3]
  have g5:(zs5 t1 t2 s.heap l1 l2).get? (zs4 t1 t2 s.heap l1 l2).objs.size=some _:=Aa8 _ rfl;have g4:(zs5 t1 t2 s.heap l1 l2).get? (zs3 t1 t2 s.heap l1 l2).objs.size=some _:=Aa1 _ (Aa8 _ rfl);have g3:(zs5 t1 t2 s.heap l1 l2).get? (zs2 t1 t2 s.heap l1 l2).objs.size=some _:=Aa1 _ (Aa1 _ (Aa8 _ rfl));have up2:∀ c o,(zs2 t1 t2 s.heap l1 l2).get? c=some o->(zs5 t1 t2 s.heap l1 l2).get? c=some o:=λ c o e=>Aa1 _ (Aa1 _ (Aa1 _ e));have s2:BH t2 (zs5 t1 t2 s.heap l1 l2) (zs1 t1 s.heap l1).objs.size l2 0:=Ao Ha λ o e=>up2 _ o e;have s1:BH t1 (zs5 t1 t2 s.heap l1 l2) s.heap.objs.size l1 0:=Ao Ha λ o e=>up2 _ o (Aa1 _ e);show _/\_;rw [n2,n3,n4] at g5;rw [n1,n2] at g3;rw [n3] at g4;rw [n1] at s2;rw [n4];exact ⟨⟨_,g5,rfl⟩,k _ ⟨g5,g3,⟨_,_,g4⟩,s1,s2⟩ λ c o e=>up2 c o (Aa1 _ (Aa1 _ e))⟩
end
def SqS (tp:Bool) (K:PySem.W.Frag) (H:Hp) (a:Addr) (xs:List V):Prop:=if tp=true then SqT K H a xs else SqL K H a xs
theorem A3 {X:Cx} {pins:List (Addr × Obj)} {σ:St} {H:Hp} {s:Shared} {tp:Bool} {a:Addr} {xs:List V} (I:Inv X pins σ H s) (h:SqS tp X.K H a xs):∃ its:List Value,Vals xs its/\A8 tp s.heap a its.toArray:=by
  cases tp with
  | false=>
    obtain ⟨its,r,p,_⟩:=I.list (show SqL X.K H a xs from h);exact ⟨its,r,(show s.heap.IsList a its.toArray from p.isList)⟩
  | true=>
    obtain ⟨its,r,p,_⟩:=I.tuple (show SqT X.K H a xs from h);exact ⟨its,r,(show s.heap.IsTuple a its.toArray from p)⟩
theorem Gk {X:Cx} {pins:List (Addr × Obj)} {σ:St} {H:Hp} {s:Shared} {tp:Bool} {a:Addr} {xs ys:List V} (I:Inv X pins σ H s) (h:SqS tp X.K H a xs) (h2:SqS tp X.K H a ys):xs=ys:=by
  cases tp with
  | false=>exact I.list_inj h h2
  | true=>exact I.tuple_inj h h2
def Izs (t1 t2:Bool) (K:PySem.W.Frag) (a b:Addr):It:=
  ⟨λ i H=>∃ xs ys x y,SqS t1 K H a xs/\SqS t2 K H b ys/\xs[i]?=some x/\ys[i]?=some y,
   λ i H v H'=>∃ p x y,H p=none/\v= .ref p/\H'=upd H p (.tup [x,y])/\(∀ xs,SqS t1 K H a xs->xs[i]?=some x)/\∀ ys,SqS t2 K H b ys->ys[i]?=some y,
   λ i H=>∃ xs ys,SqS t1 K H a xs/\SqS t2 K H b ys/\(xs.length<=i\/ys.length<=i)⟩
theorem QL {P:Program} {w:World} {K:PySem.W.Frag} {elts:List Expr} {k:Nat} {pos:Pos} (t1 t2:Bool) (a b z TI TO i1 i2:Addr) (D:ZipApart z TI TO i1 i2 a b):
    Turn P w K (.Tuple elts k pos) (Izs t1 t2 K a b) [z,TI,TO,i1,i2] z (λ i h=>ZipSt t1 t2 h z TI TO i1 i2 a b i) where
  mem:=by simp
  obj:=λ i h st c hc=>by
    obtain ⟨hz,hTI,⟨x,y,hTO⟩,h1,h2⟩:=st;obtain ⟨o1,e1,d1⟩:=A5 h1;obtain ⟨o2,e2,d2⟩:=A5 h2;simp only [Ab5,Af7,or_false] at hc;rcases hc with q | q | q | q | q
    · subst q;exact ⟨_,hz,λ v z=>by cases (show Data.fields _=Data.cell v from z)⟩
    · subst q;exact ⟨_,hTI,λ v z=>by cases (show Data.seq _ _=Data.cell v from z)⟩
    · subst q;exact ⟨_,hTO,λ v z=>by cases (show Data.seq _ _=Data.cell v from z)⟩
    · subst q;exact ⟨o1,e1,λ v z=>by rw [d1] at z;cases z⟩
    · subst q;exact ⟨o2,e2,λ v z=>by rw [d2] at z;cases z⟩
  keep:=λ i h h' st kp=>by
    obtain ⟨hz,hTI,⟨x,y,hTO⟩,h1,h2⟩:=st;exact ⟨kp z (by simp) _ hz,kp TI (by simp) _ hTI,⟨x,y,kp TO (by simp) _ hTO⟩,Ao h1 λ o q=>kp i1 (by simp) o q,Ao h2 λ o q=>kp i2 (by simp) o q⟩
  item:=by
    intro X hP hw hK hc i pins s σ H E I hf st hg;subst hP hw hK;obtain ⟨xs,ys,x,y,hq1,hq2,hx,hy⟩:=hg;obtain ⟨its,rv,p1⟩:=A3 I hq1;obtain ⟨its2,rv2,p2⟩:=A3 I hq2;obtain ⟨u,hu,ru⟩:=rv.get hx;obtain ⟨u2,hu2,ru2⟩:=rv2.get hy;have lt:∀ q∈[z,TI,TO,i1,i2],q<s.heap.objs.size:=λ q hq=>by
      obtain ⟨hz,hTI,⟨c,d,hTO⟩,h1,h2⟩:=id st;obtain ⟨_,e1,_⟩:=A5 h1;obtain ⟨_,e2,_⟩:=A5 h2;simp only [Ab5,Af7,or_false] at hq;rcases hq with q' | q' | q' | q' | q'
      · subst q';exact Aa6 hz
      · subst q';exact Aa6 hTI
      · subst q';exact Aa6 hTO
      · subst q';exact Aa6 e1
      · subst q';exact Aa6 e2
    have hT0:s.TypeIs (.ref z) "zip":=⟨_,st.hz,rfl⟩;unfold pyNext;refine Aa0 (Af3 (Ab7 (name:=Str.ofString "__next__") hT0 F.slot_zip_next (Ad2 F.slot_zip_next hT0 F.entry_zip_next
      (Kr D st p1 p2 (x:=u) (y:=u2) (by simpa using hu) (by simpa using hu2) λ h' hz' hTO' h1' h2' hT hk=>Aa5 ?_) (F.args_zip_next_1 _))))
    have I0:=I.laid (h':=s.heap.push { cls:= .type "tuple",data:= .seq #[u,u2] }) (a:=s.heap.objs.size) (o:= .tup [x,y]) (t':=s.toks) (λ _ _ q=>Aa1 _ q) (Aa7 _)
      ⟨(by show 2<=sizeLine;decide),[u,u2], .cons ru (.cons ru2 .nil),⟨_,Aa8 _ rfl,rfl,_,rfl⟩⟩
    have f0:∀ b∈[z,TI,TO,i1,i2],DD X pins (upd H s.heap.objs.size (.tup [x,y])) b:=λ b hb=>Fe (hf b hb) (Ac2 (lt b hb));have I1:=Inv.turnedL (t':=s.toks) (h':=h') [z,TI,TO,i1,i2] I0 f0 (λ b o hb q=>by
      rcases Af9 (show (s.heap.push { cls:= .type "tuple",data:= .seq #[u,u2] }).get? b=some o from q) with ⟨q1,q2⟩ | q
      · rw [q1,q2];exact hT
      · exact hk b o (λ e=>hb (by simp [e])) (λ e=>hb (by simp [e])) (λ e=>hb (by simp [e])) (λ e=>hb (by simp [e])) q)
    refine ⟨.ref s.heap.objs.size,rfl,wpAny_letOwnedTupleGo_zip (s:={ s with heap:=h' }) hz' λ h3 hz3 sb=> ?_⟩;refine ⟨.ref s.heap.objs.size,_,Inv.turnedL (t':=s.toks) (h':=h3) [z,TI,TO,i1,i2] I1 f0 (λ b o hb q=>(sb.2 b λ e=>hb (by simp [e])).trans q),rfl,
      ⟨_,x,y,I.fresh,rfl,rfl,λ l hl=>by rw [Gk I hl hq1];exact hx,λ l hl=>by rw [Gk I hl hq2];exact hy⟩,
      ⟨hz3,(sb.2 TI D.TIz).trans (hk TI _ D.TIz D.TITO D.TIi1 D.TIi2 st.hTI),⟨u,u2,(sb.2 TO D.TOz).trans hTO'⟩,Ao h1' λ o q=>(sb.2 i1 D.i1z).trans q,Ao h2' λ o q=>(sb.2 i2 D.i2z).trans q⟩,λ b hb=>(f0 b hb).1⟩
  done:=by
    intro X hP hw hK hc i pins s σ H E I hf st hg;subst hP hw hK;obtain ⟨xs,ys,hq1,hq2,hx⟩:=hg;obtain ⟨its,rv,p1⟩:=A3 I hq1;obtain ⟨its2,rv2,p2⟩:=A3 I hq2;have hl:=rv.length;have hl2:=rv2.length;have hT0:s.TypeIs (.ref z) "zip":=⟨_,st.hz,rfl⟩;unfold pyNext;refine Aa0 (Af3 (Ab7 (name:=Str.ofString "__next__") hT0 F.slot_zip_next (Ad2 F.slot_zip_next hT0 F.entry_zip_next
      (LC (I.ok.hd hc) D st p1 p2 (hx.elim (λ q=> .inl (by simp;omega)) λ q=> .inr (by simp;omega)) λ h' e eb he=> ?_) (F.args_zip_next_1 _))))
    obtain ⟨oe,eo,ce⟩:=he;refine Aa0 (wpAny_isInstance (T:="StopIteration") (b:=true) ⟨oe,eo,ce⟩ isSubtype_stop (Aa5 ?_));exact ⟨rfl,I.turnedL (t':=s.toks) [z,TI,TO,i1,i2] hf λ b o hb q=>eb b o (λ e=>hb (by simp [e])) (λ e=>hb (by simp [e])) (λ e=>hb (by simp [e])) (λ e=>hb (by simp [e])) q⟩
  self:=λ _ _ _ _ _ st h=>wpAny_pyIter_zip st.hz h
section
variable {X:Cx} {elts:List Expr} {k:Nat} {tpos:Pos} {K:PySem.W.Frag}
def iZs (K:PySem.W.Frag) (ta:TA):TI:=λ σ H R=>ta σ H λ vs H1=>∃ t1 t2 a b,vs=[.ref a, .ref b]/\(∃ xs,SqS t1 K H1 a xs)/\(∃ ys,SqS t2 K H1 b ys)/\R (Izs t1 t2 K a b) H1
theorem Vy {l m:Expr} {ta:TA} {p pos:Pos} (hg:Gl X "zip") (hm:X.mg "zip"=none) (ha:PA X [l,m] ta) (hK:X.K=K:=by rfl) (hs:starEach [l,m] X.env=[(false,eval l X.env),(false,eval m X.env)]:=by rfl) (hs2:starEach [m] X.env=[(false,eval m X.env)]:=by rfl):
    PI X (.Tuple elts k tpos) (.Call (.Name "zip" p) [l,m] [] pos) (iZs K ta):=by
  subst hK;intro pins s σ H R I h;refine Call_ (Ck I hg hm Jg (PyProof.Rows.callWith_type1 (thn (ha pos pins s σ H _ I h) λ us s1 ⟨vs,H1,I1,r1,q1⟩=> ?_) (by rw [hs,hs2]) (by rw [hs2];rfl)));obtain ⟨t1,t2,a,b,e,⟨xs,hq⟩,⟨ys,hq2⟩,q⟩:=q1;subst e;cases r1 with
  | cons r rr=>
    cases rr with
    | cons r' rr=>
    cases rr;cases r;cases r';obtain ⟨its,rv,pl⟩:=A3 I1 hq;obtain ⟨its2,rv2,pl2⟩:=A3 I1 hq2;obtain ⟨oa,_,ea,_⟩:=B2 pl;obtain ⟨ob,_,eb,_⟩:=B2 pl2;refine G3 pl pl2 λ h' st hk=> ?_;refine wpAny_pyIter_zip st.hz ?_;have I2:=I1.kept (t':=s1.toks) hk;refine ⟨s1.heap.objs.size+4,_,_,_,H1,rfl,I2,QL t1 t2 a b _ _ _ _ _ (PySem.W.ktu_apart s1.heap.objs.size a b (Aa6 ea) (Aa6 eb)),st,λ c hc=> ?_,q⟩;have hb':s1.heap.objs.size<=c:=by
      simp only [Ab5,Af7,or_false] at hc;rcases hc with q | q | q | q | q <;> rw [q] <;> first | exact Aa7 _ | exact Nat.le_add_right _ _
    exact I1.fpOk hb' (I1.hok.fresh hb')
end
section
variable {X:Cx} {K:PySem.W.Frag}
theorem AA:bootBuiltins "list"=some (.type "list"):=by decide +kernel
theorem AN:bootBuiltins "tuple"=some (.type "tuple"):=by decide +kernel
def Pw (K:PySem.W.Frag):List V->Hp->VK->Prop:=λ xs H Q=>∃ (x:V) (p:Addr) (ns:List String) (t:Value) (b:Bool),xs=[x, .ref p]/\H p=some (.tup (ns.map V.ty))/\TyOf K H x t/\PySem.W.kitAny K t (ns.map Value.type)=some b/\Q (.bl b) H
theorem Nd:∀ {ns:List String} {us:List Value},Vals (ns.map V.ty) us->us=ns.map Value.type
  | [],us,r=>by cases r;rfl
  | n::ns,us,r=>by
    cases r with
    | cons r1 r2=>
      cases r1;rw [Nd r2];rfl
theorem Q6 (hK:X.K=K:=by rfl):Cf X (.builtin "isinstance") (Pw K):=by
  subst hK;intro pins s σ H xs us Q I r h;obtain ⟨x,p,ns,t,b,rfl,hp,ty,e,q⟩:=h;obtain ⟨u,c,rfl,rx,rc⟩:=PZ r;cases rc;obtain ⟨_,its,rt,ot,e1,e2,nt,e3⟩:=(show ObjOk X.prog X.w H s.heap p (.tup (ns.map V.ty)) from I.hok p _ hp);have ei:=Nd rt;subst ei;have htp:s.heap.get? p=some ⟨.type "tuple",ot.dict, .seq (ns.map Value.type).toArray nt,ot.slots⟩:=by
    rw [e1];obtain ⟨c,d,da,sl⟩:=ot;simp only at e2 e3;rw [e2,e3]
  have fin:∀ tk,EP X pins σ Q (.bool b) { s with toks:=tk }:=λ tk=>⟨.bl b,H,I.tok tk,rfl,q⟩;cases ty with
  | non=>cases (show u=Value.none from rx);exact PySem.W.kia_tup PySem.W.kitx_none I.kIn True.intro htp e (λ z=>nomatch z) fin
  | bl y=>cases (show u=Value.bool y from rx);exact PySem.W.kia_tup PySem.W.kitx_bool I.kIn True.intro htp e (λ z=>nomatch z) fin
  | int i=>obtain ⟨t,q⟩:=(show ∃ t,u=Value.int i t from rx);cases q;exact PySem.W.kia_tup PySem.W.kitx_int I.kIn True.intro htp e (λ z=>nomatch z) fin
  | str y=>obtain ⟨t,q⟩:=(show ∃ t,u=Value.str y t from rx);cases q;exact PySem.W.kia_tup PySem.W.kitx_str I.kIn True.intro htp e (λ z=>nomatch z) fin
  | flt y=>obtain ⟨t,q⟩:=(show ∃ t,u=Value.float y t from rx);cases q;exact PySem.W.kia_tup PySem.W.kitx_float I.kIn True.intro htp e (λ z=>nomatch z) fin
  | @lst a xs ea=>
    cases (show u=Value.ref a from rx);obtain ⟨_,_,n,_,h1⟩:=(show ObjOk X.prog X.w H s.heap a (.lst xs) from I.hok a _ ea);exact PySem.W.kia_tup PySem.W.kitx_list I.kIn ⟨_,h1,rfl⟩ htp e (λ z=>nomatch z) fin
  | @frz a ob xs ea=>
    cases (show u=Value.ref a from rx);obtain ⟨_,_,_,n,_,h1⟩:=(show ObjOk X.prog X.w H s.heap a (.frz ob (.lst xs)) from I.hok a _ ea);exact PySem.W.kia_tup PySem.W.kitx_list I.kIn ⟨_,h1,rfl⟩ htp e (λ z=>nomatch z) fin
  | @tup a xs ea=>
    cases (show u=Value.ref a from rx);obtain ⟨_,_,_,p⟩:=(show ObjOk X.prog X.w H s.heap a (.tup xs) from I.hok a _ ea);obtain ⟨o,h1,h2,_⟩:=p;exact PySem.W.kia_tup PySem.W.kitx_tuple I.kIn ⟨o,h1,h2⟩ htp e (λ z=>nomatch z) fin
  | @dK a kvs ea=>
    cases (show u=Value.ref a from rx);obtain ⟨_,_,vs,_,p⟩:=(show ObjOk X.prog X.w H s.heap a (.dK kvs) from I.hok a _ ea);obtain ⟨o,es,ep,h1,h2,_⟩:=p;exact PySem.W.kia_tup PySem.W.kitx_dict I.kIn ⟨o,h1,h2.1⟩ htp e (λ z=>nomatch z) fin
  | @dT a kvs ea=>
    cases (show u=Value.ref a from rx);obtain ⟨_,_,xs,_,o,es,ep,h1,h2,_⟩:=(show ObjOk X.prog X.w H s.heap a (.dT kvs) from I.hok a _ ea);exact PySem.W.kia_tup PySem.W.kitx_dict I.kIn ⟨o,h1,h2.1⟩ htp e (λ z=>nomatch z) fin
  | @ins a C dx fs ea cl ha hn htk hm=>
    cases (show u=Value.ref a from rx);obtain ⟨mA,O,_⟩:=Gv I.hok ea;obtain ⟨od,J,_⟩:=O.look;exact PySem.W.kia_tup (PySem.W.kitx_own (cl.get _) cl.hd ha hn htk hm) I.kIn J htp e (λ z=>nomatch z) fin
theorem Of {es:List Expr} {k:Nat} {t:TGs} {n:Nat} {pos:Pos} (hc:X.calm=true) (h:PGs X es t) (hK:X.K=K:=by rfl)
    (hn:(assignEach es X.env).length=n:=by rfl) (hst:(assignEach es X.env).findIdx? (·.1)=none:=by rfl):PG X (.Tuple es k pos) (Jk K n t):=by
  subst hK;exact O4 hc h hn hst
variable {scope:Scope} {fr:List (Str × Nat)}
theorem Qk {x y:Str} {px py pt:Pos} {k:Nat} (h:F9 X.env.scope X.N scope [x,y] fr=true) (hc:X.calm=true) (C:Addr) (ex:List Addr) (s:Shared) (H:Hp) (hK:X.K=K:=by rfl):
    PG (Bz X scope [x,y] fr C ex s H) (.Tuple [.Name x px, .Name y py] k pt) (Jk K 2 (Cc (AO 0) (Cc (AO 1) Jm))):=by
  subst hK;exact O4 (X:=Bz X scope [x,y] fr C ex s H) hc (Bt (KC h rfl C ex s H) (Bt (KC h rfl C ex s H) K0))
theorem Fn {elt iter:Expr} {x y:Str} {px py pt:Pos} {k:Nat} {ifs:List Expr} {pos:Pos} {wi:TI} {tc:TT} {te:TE} (hi:PI X (.Tuple [.Name x px, .Name y py] k pt) iter wi)
    (ht:∀ C ex s H,PTs (Bz X scope [x,y] (Ht X.N scope) C ex s H) ifs tc) (he:∀ C ex s H,PE (Bz X scope [x,y] (Ht X.N scope) C ex s H) elt te) (hK:X.K=K:=by rfl)
    (hb:F9 X.env.scope X.N scope [x,y] (Ht X.N scope)=true:=by with_unfolding_all rfl) (hc:X.calm=true:=by rfl)
    (hs:∀ x,foldedSetIterable iter X.env x=pure x:=by intro _;rfl):PE X (.ListComp elt [⟨.Tuple [.Name x px, .Name y py] k pt,iter,ifs,0⟩] scope pos) (Kq wi [x,y] (Ht X.N scope) (Jk K 2 (Cc (AO 0) (Cc (AO 1) Jm))) tc te):=
  Ni hc (.of hb) hi (λ C ex s H=>Qk hb hc C ex s H hK) ht he hs
end
section
variable {K:PySem.W.Frag} {D:Addr} {σ0:St} {tc:TT} {te:TE} {Q:VK} {H:Hp}
theorem Re {t1 t2:Bool} {a b:Addr} {xs zs:List V} (hlen:xs.length=zs.length) (Pv:Nat->List V->Hp->Prop) (h0:Pv 0 [] (upd H D (.lst [])))
    (hl:∀ i ys H,i<=xs.length->Pv i ys H->SqS t1 K H a xs/\SqS t2 K H b zs)
    (hs:∀ i x z ys H p,xs[i]?=some x->zs[i]?=some z->Pv i ys H->H p=none->Kp σ0 ((σ0.set 0 (some x)).set 1 (some z))/\tc ((σ0.set 0 (some x)).set 1 (some z)) (upd H p (.tup [x,z])) λ b H3=>
      if b=true then te ((σ0.set 0 (some x)).set 1 (some z)) H3 λ y H4=>H4 D=some (.lst ys)/\ys.length<sizeLine/\Pv (i+1) (ys++[y]) (upd H4 D (.lst (ys++[y]))) else Pv (i+1) ys H3)
    (hd:∀ ys H,Pv xs.length ys H->Q (.ref D) H):
    FM (Izs t1 t2 K a b) σ0 (Jk K 2 (Cc (AO 0) (Cc (AO 1) Jm))) tc te Q H D:=by
  refine ⟨λ i m ys H=>m=xs.length - i/\i<=xs.length/\Pv i ys H,⟨_,rfl,Nat.zero_le _,h0⟩,?_⟩;rintro i m ys H ⟨rfl,hi,p⟩;obtain ⟨q1,q2⟩:=hl i ys H hi p;by_cases hlt:i<xs.length
  · refine .inr ⟨⟨xs,zs,xs[i],zs[i]'(by omega),q1,q2,by simp [hlt],by simp⟩,Pv (i+1),λ ys' H' p'=>⟨xs.length - (i+1),by omega,rfl,hlt,p'⟩,λ x H' y=> ?_⟩;obtain ⟨pp,v,z,hp,rfl,rfl,hv,hz⟩:=y;exact ⟨pp,_,rfl,SqT.of Ae,rfl,_,_,rfl,_,_,rfl,rfl,hs i v z ys H pp (hv xs q1) (hz zs q2) p hp⟩
  · have e:i=xs.length:=by omega
    subst e;exact .inl ⟨⟨xs,zs,q1,q2, .inl (Aa7 _)⟩,hd ys H p⟩
end
inductive Dt where
  | non | bl (b:Bool) | int (i:Int) | str (z:Str) | lst (xs:List Dt) | tup (xs:List Dt)
inductive Rp (H:Hp) (F:Addr->Prop):Nat->V->Dt->Prop where
  | non {n:Nat}:Rp H F n .non .non
  | bl {n:Nat} (b:Bool):Rp H F n (.bl b) (.bl b)
  | int {n:Nat} (i:Int):Rp H F n (.int i) (.int i)
  | str {n:Nat} (z:Str):Rp H F n (.str z) (.str z)
  | lst {n:Nat} {a:Addr} {vs:List V} {ds:List Dt} (h:H a=some (.lst vs)) (f:F a) (b:vs.length<=100000) (l:vs.length=ds.length) (e:∀ (i:Nat) (v:V) (d:Dt),vs[i]?=some v->ds[i]?=some d->Rp H F n v d):Rp H F (n+1) (.ref a) (.lst ds)
  | tup {n:Nat} {a:Addr} {vs:List V} {ds:List Dt} (h:H a=some (.tup vs)) (b:vs.length<=100000) (l:vs.length=ds.length) (e:∀ (i:Nat) (v:V) (d:Dt),vs[i]?=some v->ds[i]?=some d->Rp H F n v d):Rp H F (n+1) (.ref a) (.tup ds)
theorem Rp.mono {H H':Hp} {F F':Addr->Prop} {n:Nat} {v:V} {d:Dt} (r:Rp H F n v d) (k:∀ a o,H a=some o->(∀ xs,o= .lst xs->F a)->H' a=some o) (f:∀ a,F a->F' a):Rp H' F' n v d:=by
  induction r with
  | non=>exact .non
  | bl b=>exact .bl b
  | int i=>exact .int i
  | str z=>exact .str z
  | lst h p b l e ih=>exact .lst (k _ _ h λ _ _=>p) (f _ p) b l λ i v d h1 h2=>ih i v d h1 h2
  | tup h b l e ih=>exact .tup (k _ _ h λ xs q=>by cases q) b l λ i v d h1 h2=>ih i v d h1 h2
theorem Rp.same {H H':Hp} {F:Addr->Prop} {n:Nat} {v:V} {d:Dt} (r:Rp H F n v d) (s:Same H H'):Rp H' F n v d:=r.mono (λ a o h _=>s a o h) λ _ h=>h
theorem Rp.imp {H:Hp} {F F':Addr->Prop} {n:Nat} {v:V} {d:Dt} (r:Rp H F n v d) (f:∀ a,F a->F' a):Rp H F' n v d:=r.mono (λ a o h _=>h) f
theorem Rp.up {H:Hp} {F:Addr->Prop} {n m:Nat} {v:V} {d:Dt} (r:Rp H F n v d) (h:n<=m):Rp H F m v d:=by
  induction r generalizing m with
  | non=>exact .non
  | bl b=>exact .bl b
  | int i=>exact .int i
  | str z=>exact .str z
  | lst h p b l e ih=>
    cases m with
    | zero=>exact absurd h (by omega)
    | succ m=>exact .lst ‹_› p b l λ i v d h1 h2=>ih i v d h1 h2 (by omega)
  | tup h b l e ih=>
    cases m with
    | zero=>exact absurd h (by omega)
    | succ m=>exact .tup ‹_› b l λ i v d h1 h2=>ih i v d h1 h2 (by omega)
abbrev FT:Addr->Prop:=λ _=>True
abbrev FN (H:Hp):Addr->Prop:=λ a=>H a=none
theorem Rp.any {H:Hp} {F:Addr->Prop} {n:Nat} {v:V} {d:Dt} (r:Rp H F n v d):Rp H FT n v d:=r.imp λ _ _=>trivial
theorem Rp.new {H:Hp} {F:Addr->Prop} {n:Nat} {v:V} {d:Dt} {p:Addr} {o:HO} (r:Rp H F n v d) (h:H p=none):Rp (L2.upd H p o) F n v d:=r.same λ b u e=>by rw [Ak (Ay e h)];exact e
def R8 (ns:List Int):Dt:= .lst (ns.map .int)
theorem M0 {H:Hp} {F:Addr->Prop} {n:Nat} {v:V} {ns:List Int} (r:Rp H F n v (R8 ns)):∃ a,v= .ref a/\H a=some (.lst (ns.map V.int))/\F a:=by
  unfold R8 at r;cases r with
  | @lst n a vs _ h f b l e=>
    refine ⟨a,rfl,?_,f⟩;rw [h];congr 2;refine Af6 (by simpa using l) λ i h1 h2=> ?_;have h2':i<ns.length:=by simpa using h2
    have:=e i vs[i] (.int ns[i]) (by simp [h1]) (by simp [h2']);cases hv:vs[i] <;> rw [hv] at this <;> cases this;simp
section
variable {t u:TS} {D:Ends} {σ:St} {H:Hp} {te ta tb tk:TE} {tt tu:TT} {g:TG} {Q:VK} {QT:Bool->Hp->Prop} {QA:List V->Hp->Prop} {i:Nat} {v x y:V} {r:R2} {tr:TA} {K:PySem.W.Frag}
theorem Px (h:t { D with nx:=u D } σ H):Wf t u D σ H:=h
theorem MX (h:D.nx σ H):RW D σ H:=h
theorem OA (h:te σ H λ x H1=>g x σ H1 D.nx):Pq te g D σ H:=h
theorem Kt {QS:St->Hp->Prop} (h:QS (σ.set i (some v)) H):AO i v σ H QS:=h
theorem SY (e:σ[i]?=some (some v)) (h:Q v H):SU i σ H Q:=⟨v,e,h⟩
theorem bw (h:Q v H):tC v σ H Q:=h
theorem aV (h:ta σ H λ x H1=>tb σ H1 λ y H2=>r x y H2 Q):tOp r ta tb σ H Q:=h
theorem Ux {ru:V->Hp->VK->Prop} (h:ta σ H λ x H1=>ru x H1 Q):tUn ru ta σ H Q:=h
theorem AD {C:Int->Int->Prop} {gg:Int->Int->V} {a b:Int} (c:C a b) (h:Q (gg a b) H):rI C gg (.int a) (.int b) H Q:=⟨a,b,rfl,rfl,c,h⟩
theorem Sr {gg:Int->Int->V} {a b:Int} (h:Q (gg a b) H):rI0 gg (.int a) (.int b) H Q:=⟨a,b,rfl,rfl,h⟩
theorem V9 {gg:Int->V} {a:Int} (h:Q (gg a) H):rU gg (.int a) H Q:=⟨a,rfl,h⟩
theorem Sy {a b:Int} (h:Q (.bl (decide (a=b))) H):rEq (.int a) (.int b) H Q:=⟨rfl,by rw [show decide (V.int a=V.int b)=decide (a=b) by rw [Ac6];simp];exact h⟩
theorem Tq {a b:Int} (h:Q (.bl (!decide (a=b))) H):rNe (.int a) (.int b) H Q:=⟨rfl,by rw [show decide (V.int a=V.int b)=decide (a=b) by rw [Ac6];simp];exact h⟩
theorem Tr {a b:Str} (h:Q (.bl (decide (a=b))) H):rEq (.str a) (.str b) H Q:=⟨rfl,by rw [show decide (V.str a=V.str b)=decide (a=b) by rw [Ac6];simp];exact h⟩
theorem SA {a b:Str} (h:Q (.bl (!decide (a=b))) H):rNe (.str a) (.str b) H Q:=⟨rfl,by rw [show decide (V.str a=V.str b)=decide (a=b) by rw [Ac6];simp];exact h⟩
theorem Sx {a b:Bool} (h:Q (.bl (decide (a=b))) H):rEq (.bl a) (.bl b) H Q:=⟨rfl,by rw [show decide (V.bl a=V.bl b)=decide (a=b) by rw [Ac6];simp];exact h⟩
theorem SZ {a b:Bool} (h:Q (.bl (!decide (a=b))) H):rNe (.bl a) (.bl b) H Q:=⟨rfl,by rw [show decide (V.bl a=V.bl b)=decide (a=b) by rw [Ac6];simp];exact h⟩
theorem Tv (h:tt σ H λ c H1=>QT (!c) H1):TU tt σ H QT:=h
theorem RD (h:te σ H λ x H'=>∃ k,x= .bl k/\QT k H'):R3 te σ H QT:=h
theorem Wp (h:te σ H λ x H'=>∃ k,x= .bl k/\QT k H'):tB te σ H QT:=h
theorem Yg {b:Bool} {R:Bool->Prop} (h:R b):∃ k,V.bl b= .bl k/\R k:=⟨b,rfl,h⟩
theorem XA (h:tt σ H λ c H1=>if c=true then QT true H1 else tu σ H1 QT):tOr tt tu σ H QT:=h
theorem Qs (h:ta σ H λ x H1=>∃ c,x= .bl c/\if c=true then tb σ H1 Q else Q (.bl false) H1):RT ta tb σ H Q:=h
theorem Tj (h:ta σ H λ x H1=>∃ c,x= .bl c/\if c=true then Q (.bl true) H1 else tb σ H1 Q):Uw ta tb σ H Q:=h
theorem Ri (h:ta σ H λ x H1=>∃ c,x= .bl c/\Q (.bl (!c)) H1):RL ta σ H Q:=h
theorem SG (h:tt σ H λ b H1=>if b=true then t D σ H1 else u D σ H1):Rv tt t u D σ H:=h
theorem YS (h:tt σ H λ c H1=>if c=true then ta σ H1 Q else tb σ H1 Q):tIf tt ta tb σ H Q:=h
theorem SE (h:te σ H D.rt):bg te D σ H:=h
theorem Rh (h:te σ H λ _ H1=>D.nx σ H1):R4 te D σ H:=h
theorem SK (h:QA [] H):Pd σ H QA:=h
theorem Qv (h:te σ H λ x H1=>tr σ H1 λ xs H2=>QA (x::xs) H2):Sd te tr σ H QA:=h
theorem Tg (h:tr σ H λ xs H1=>xs.length<=sizeLine/\∀ p,H1 p=none->Q (.ref p) (upd H1 p (.lst xs))):Y5 tr σ H Q:=h
theorem Sw (h:tr σ H λ xs H1=>xs.length<=sizeLine/\∀ p,H1 p=none->Q (.ref p) (upd H1 p (.tup xs))):UB tr σ H Q:=h
theorem Z2 {rr:List V->Hp->VK->Prop} (h:tr σ H λ vs H1=>rr vs H1 Q):tCB rr tr σ H Q:=h
theorem Q0 {sp:Sp} {E:XK} (h:tr σ H λ vs H1=>sp vs H1 Q E):Lb sp [] E tr σ H Q:=by
  unfold Lb;simpa using h
theorem ZD {rs:V->Option Int->Option Int->Hp->VK->Prop} {tl th:TO} (h:te σ H λ x H1=>tl σ H1 λ l H2=>th σ H2 λ u H3=>rs x l u H3 Q):tSl rs te tl th σ H Q:=h
theorem QQ {QO:Option Int->Hp->Prop} (h:te σ H λ x H1=>∃ i,x= .int i/\QO (some i) H1):Sf te σ H QO:=h
theorem NY {QO:Option Int->Hp->Prop} (h:QO none H):M8 σ H QO:=h
theorem Tw {a:Int} {R:Int->Prop} (h:R a):∃ k,V.int a= .int k/\R k:=⟨a,rfl,h⟩
theorem DC {p:Addr} {xs:List V} {lo hi:Option Int} (c:SqL K H p xs) (h:∀ q,H q=none->Q (.ref q) (upd H q (.lst (DR xs lo hi)))):Sz K (.ref p) lo hi H Q:=⟨p,xs,rfl,c,h⟩
theorem Q1 {z:Str} (c:z.length<=sizeLine) (h:Q (.int z.length) H):Os K [.str z] H Q:=⟨_,_,rfl,⟨c,rfl⟩,h⟩
theorem BU {p:Addr} {xs:List V} (c:SqL K H p xs) (h:Q (.int xs.length) H):Os K [.ref p] H Q:=⟨_,_,rfl, .inl ⟨xs,c,rfl⟩,h⟩
theorem HS {p:Addr} {xs:List V} (c:SqT K H p xs) (h:Q (.int xs.length) H):Os K [.ref p] H Q:=⟨_,_,rfl, .inr ⟨xs,c,rfl⟩,h⟩
theorem Sq {p:Addr} {ns:List Int} (c:SqL K H p (ns.map V.int)) (h:Q (.int ns.sum) H):Up K [.ref p] H Q:=⟨p,ns,rfl,c,h⟩
theorem Jd {p:Addr} {bs:List Bool} (c:SqL K H p (bs.map V.bl)) (h:Q (.bl (bs.all id)) H):Z6 K [.ref p] H Q:=⟨p,bs,rfl,c,h⟩
theorem AS {n:String} {ty:Value} {b:Bool} (c:TyOf K H x ty) (e:PySem.W.kitOne K ty (.type n)=some b) (h:Q (.bl b) H):RS K [x, .ty n] H Q:=⟨x,n,ty,b,rfl,c,e,h⟩
theorem Ax {p:Addr} {xs:List V} {k:Int} (c:SqL K H p xs) (e:atI xs k=some v) (h:Q v H):SB K (.ref p) (.int k) H Q:=⟨p,xs,k,v,rfl,rfl,c,e,h⟩
theorem Bw {p:Addr} {xs:List V} {k:Int} (c:SqT K H p xs) (e:atI xs k=some v) (h:Q v H):TC K (.ref p) (.int k) H Q:=⟨p,xs,k,v,rfl,rfl,c,e,h⟩
theorem PX {z:Str} {k:Int} {c:Nat} (l:z.length<=sizeLine) (e:atI z.cps.toList k=some c) (h:Q (.str ⟨#[c]⟩) H):US (.str z) (.int k) H Q:=⟨z,k,c,rfl,rfl,l,e,h⟩
theorem SI {xs:List V} {B:Prop} (c:xs.length<=1000) (h:B):xs.length<=sizeLine/\B:=⟨Ab8 c (by decide),h⟩
end
theorem CJ {p A B:Prop} [Decidable p] (h1:p->A) (h2:¬ p->B):if decide p=true then A else B:=by
  by_cases h:p
  · rw [if_pos (decide_eq_true h)];exact h1 h
  · rw [if_neg (λ q=>h (of_decide_eq_true q))];exact h2 h
theorem T8 {p A B:Prop} [Decidable p] (h1:¬ p->A) (h2:p->B):if (!decide p)=true then A else B:=by
  by_cases h:p
  · rw [decide_eq_true h];exact Cm (h2 h)
  · rw [decide_eq_false h];exact CI (h1 h)
theorem SV {b:Bool} {A B:Prop} (h1:b=true->A) (h2:b=false->B):if b=true then A else B:=by
  cases b with
  | true=>exact CI (h1 rfl)
  | false=>exact Cm (h2 rfl)
def tyD:Dt->String | .non=>"NoneType" | .bl _=>"bool" | .int _=>"int" | .str _=>"str" | .lst _=>"list" | .tup _=>"tuple"
def EL:Dt->Bool | .lst _=>true | _=>false
def CW:Dt->Bool | .tup _=>true | _=>false
def bM:Dt->Bool | .bl _=>true | _=>false
theorem Rp.ty {K:PySem.W.Frag} {H:Hp} {F:Addr->Prop} {n:Nat} {v:V} {d:Dt} (r:Rp H F n v d):TyOf K H v (.type (tyD d)):=by
  cases r with
  | non=>exact .non
  | bl b=>exact .bl b
  | int i=>exact .int i
  | str z=>exact .str z
  | lst h _ _ _ _=>exact .lst h
  | tup h _ _ _=>exact .tup h
theorem NA:En "NoneType" "list"=some false/\En "bool" "list"=some false/\En "int" "list"=some false/\En "str" "list"=some false/\En "list" "list"=some true/\En "tuple" "list"=some false:=by decide +kernel
theorem HU {K:PySem.W.Frag} (d:Dt):PySem.W.kitOne K (.type (tyD d)) (.type "list")=some (EL d):=by
  obtain ⟨h1,h2,h3,h4,h5,h6⟩:=NA;cases d with
  | non=>exact kb h1
  | bl _=>exact kb h2
  | int _=>exact kb h3
  | str _=>exact kb h4
  | lst _=>exact kb h5
  | tup _=>exact kb h6
theorem Ms:En "NoneType" "tuple"=some false/\En "bool" "tuple"=some false/\En "int" "tuple"=some false/\En "str" "tuple"=some false/\En "list" "tuple"=some false/\En "tuple" "tuple"=some true:=by decide +kernel
theorem Gn {K:PySem.W.Frag} (d:Dt):PySem.W.kitOne K (.type (tyD d)) (.type "tuple")=some (CW d):=by
  obtain ⟨h1,h2,h3,h4,h5,h6⟩:=Ms;cases d with
  | non=>exact kb h1
  | bl _=>exact kb h2
  | int _=>exact kb h3
  | str _=>exact kb h4
  | lst _=>exact kb h5
  | tup _=>exact kb h6
theorem NR:En "NoneType" "bool"=some false/\En "bool" "bool"=some true/\En "int" "bool"=some false/\En "str" "bool"=some false/\En "list" "bool"=some false/\En "tuple" "bool"=some false:=by decide +kernel
theorem Nj {K:PySem.W.Frag} (d:Dt):PySem.W.kitOne K (.type (tyD d)) (.type "bool")=some (bM d):=by
  obtain ⟨h1,h2,h3,h4,h5,h6⟩:=NR;cases d with
  | non=>exact kb h1
  | bl _=>exact kb h2
  | int _=>exact kb h3
  | str _=>exact kb h4
  | lst _=>exact kb h5
  | tup _=>exact kb h6
theorem UI {K:PySem.W.Frag} (d:Dt):PySem.W.kitAny K (.type (tyD d)) (["list","tuple"].map Value.type)=some (EL d||CW d):=by
  show (match PySem.W.kitOne K (.type (tyD d)) (.type "list") with
    | some true=>some true
    | some false=>(match PySem.W.kitOne K (.type (tyD d)) (.type "tuple") with
      | some true=>some true
      | some false=>some false
      | none=>none)
    | none=>none)=_
  rw [HU,Gn];cases d <;> rfl
theorem OK {K:PySem.W.Frag} {H:Hp} {Q:VK} {x:V} {p:Addr} {ns:List String} {t:Value} {b:Bool} (hp:H p=some (.tup (ns.map V.ty))) (c:TyOf K H x t) (e:PySem.W.kitAny K t (ns.map Value.type)=some b) (h:Q (.bl b) H):Pw K [x, .ref p] H Q:=⟨x,p,ns,t,b,rfl,hp,c,e,h⟩
def Bx:Dt->List Dt | .lst ds=>ds | .tup ds=>ds | _=>[]
theorem Rp.seq {K:PySem.W.Frag} {H:Hp} {F:Addr->Prop} {n:Nat} {v:V} {d:Dt} (r:Rp H F n v d) (h:(EL d||CW d)=true):
    ∃ m a vs,n=m+1/\v= .ref a/\SqS (CW d) K H a vs/\vs.length=(Bx d).length/\vs.length<=100000/\∀ (i:Nat) (x:V) (e:Dt),vs[i]?=some x->(Bx d)[i]?=some e->Rp H F m x e:=by
  cases r with
  | @lst m a vs ds q f b l e=>exact ⟨m,a,vs,rfl,rfl,(show SqL K H a vs from SqL.of q),l,b,e⟩
  | @tup m a vs ds q b l e=>exact ⟨m,a,vs,rfl,rfl,(show SqT K H a vs from SqT.of q),l,b,e⟩
  | non=>cases h
  | bl _=>cases h
  | int _=>cases h
  | str _=>cases h
theorem Nq {K:PySem.W.Frag} {H:Hp} {Q:VK} {tp:Bool} {p:Addr} {xs:List V} (c:SqS tp K H p xs) (h:Q (.int xs.length) H):Os K [.ref p] H Q:=by
  cases tp with
  | false=>exact BU c h
  | true=>exact HS c h
theorem SqS.same {K:PySem.W.Frag} {H H':Hp} {tp:Bool} {p:Addr} {xs:List V} (c:SqS tp K H p xs) (s:Same H H'):SqS tp K H' p xs:=by
  cases tp with
  | false=>exact (show SqL K H' p xs from s.seq c)
  | true=>
    rcases (show SqT K H p xs from c) with (q | ⟨o,q⟩) | q
    · exact (show SqT K H' p xs from .inl (.inl (s _ _ q)))
    · exact (show SqT K H' p xs from .inl (.inr ⟨o,s _ _ q⟩))
    · exact (show SqT K H' p xs from .inr q)
theorem Ai {H:Hp} {p:Addr} {o:HO} (h:H p=none):Same H (upd H p o):=λ b u e=>by rw [Ak (Ay e h)];exact e
theorem Fu {H H':Hp} {D:Addr} {o:HO} (s:Same H H') (h:H D=none):Same H (upd H' D o):=λ b u e=>by rw [Ak (Ay e h)];exact s b u e
theorem NS {v:V} {d:Dt} {H:Hp} {F:Addr->Prop} {n:Nat} (r:Rp H F n v d) (h:(EL d||CW d)=false):Ti v v=true:=by
  cases r with
  | non=>rfl
  | bl _=>rfl
  | int _=>rfl
  | str _=>rfl
  | lst _ _ _ _ _=>cases h
  | tup _ _ _ _=>cases h
theorem Qy {v u:V} {d:Dt} {H:Hp} {F:Addr->Prop} {n:Nat} (r:Rp H F n v d) (r2:Rp H F n u d) (h:(EL d||CW d)=false):v=u:=by
  cases r with
  | non=>cases r2;rfl
  | bl _=>cases r2;rfl
  | int _=>cases r2;rfl
  | str _=>cases r2;rfl
  | lst _ _ _ _ _=>cases h
  | tup _ _ _ _=>cases h
structure SrcOk (J:It) (g:TG) (σ0:St) (H:Hp) (n:Nat) (st:Nat->St):Prop where
  go:∀ i H',i<n->Same H H'->J.go i H'
  stop:∀ H',Same H H'->J.stop n H'
  yld:∀ i H' x H'' (R:St->Hp->Prop),i<n->Same H H'->J.yld i H' x H''->(∀ H3,Same H' H3->R (st i) H3)->g x σ0 H'' R
  kp:∀ i,i<n->Kp σ0 (st i)
section
variable {J:It} {g:TG} {σ0:St} {H:Hp} {n:Nat} {st:Nat->St} {tc:TT} {te:TE} {Q:VK} {D:Addr}
theorem Rp.off {H:Hp} {F:Addr->Prop} {m:Nat} {v:V} {d:Dt} {D:Addr} {xs:List V} {o:HO} (r:Rp H F m v d) (hD:H D=some (.lst xs)) (hF:¬ F D):Rp (L2.upd H D o) F m v d:=by
  refine r.mono (λ a u e q=> ?_) λ _ h=>h;have n:a≠D:=λ z=>by
    subst z;rw [hD] at e;cases e;exact hF (q _ rfl)
  rw [Ak n];exact e
theorem GP {m:Nat} {p:Nat->Bool} {G:Nat->Dt} (S:SrcOk J g σ0 H n st) (hD:H D=none) (hn:n<=100000)
    (ht:∀ i H' (R:Bool->Hp->Prop),i<n->Same H H'->(∀ H3,Same H' H3->R (p i) H3)->tc (st i) H' R)
    (he:∀ i H' (R:VK),i<n->p i=true->Same H H'->(∀ H3 y,Same H' H3->Rp H3 (FN H') m y (G i)->R y H3)->te (st i) H' R)
    (hd:∀ H' ys,Same H H'->H' D=some (.lst ys)->Rp H' (FN H) (m+1) (.ref D) (.lst (((Aa9 n).filter p).map G))->Q (.ref D) H'):
    FM J σ0 g tc te Q H D:=by
  refine ⟨λ i k ys H'=>k=n - i/\i<=n/\Same H H'/\H' D=some (.lst ys)/\ys.length=(((Aa9 i).filter p).map G).length/\∀ (j:Nat) (y:V) (d:Dt),ys[j]?=some y->(((Aa9 i).filter p).map G)[j]?=some d->Rp H' (λ a=>H a=none/\a≠D) m y d,
    ⟨_,rfl,Nat.zero_le _,Fu (Same.refl _) hD,Ae,rfl,λ j y d q=>by simp at q⟩,?_⟩
  rintro i k ys H1 ⟨rfl,hi,s1,hl,len,el⟩;have bnd:∀ i,(((Aa9 i).filter p).map G).length<=i:=λ i=>by
    rw [Aa2];exact Ab8 (Ah1 _ _) (by simp)
  by_cases hlt:i<n
  · refine .inr ⟨S.go i H1 hlt s1,λ ys' H'=>Same H H'/\H' D=some (.lst ys')/\ys'.length=(((Aa9 (i+1)).filter p).map G).length/\∀ (j:Nat) (y:V) (d:Dt),ys'[j]?=some y->(((Aa9 (i+1)).filter p).map G)[j]?=some d->Rp H' (λ a=>H a=none/\a≠D) m y d,
      λ ys' H' q=>⟨n - (i+1),by omega,rfl,hlt,q⟩,λ x H2 y=> ?_⟩
    refine S.yld i H1 x H2 _ hlt s1 y λ H3 s3=>⟨S.kp i hlt,?_⟩;refine ht i H3 _ hlt (s1.trans s3) λ H4 s4=> ?_;have hl4:H4 D=some (.lst ys):=s4 _ _ (s3 _ _ hl);have s14:Same H H4:=s1.trans (s3.trans s4);cases hp:p i with
    | false=>
      refine Cm ⟨s14,hl4,?_,?_⟩
      · rw [List.range_succ,Ah2,List.filter_cons,hp];simpa using len
      · intro j y d h1 h2;have e:((Aa9 (i+1)).filter p).map G=((Aa9 i).filter p).map G:=by
          rw [List.range_succ,Ah2,List.filter_cons,hp];simp
        rw [e] at h2;exact (el j y d h1 h2).same (s3.trans s4)
    | true=>
      refine CI ?_;refine he i H4 _ hlt hp s14 λ H5 y s5 ry=> ?_;have hl5:H5 D=some (.lst ys):=s5 _ _ hl4;have e:((Aa9 (i+1)).filter p).map G=((Aa9 i).filter p).map G++[G i]:=by
        rw [List.range_succ,Ah2,List.filter_cons,hp];simp
      refine ⟨hl5,?_,?_,Ae,?_,?_⟩
      · have:=bnd i;exact Nat.lt_of_le_of_lt (by omega:ys.length<=100000) (by decide)
      · exact Fu (s14.trans s5) hD
      · rw [e,Ac7,Ac7,len];rfl
      · intro j z d h1 h2;rw [e] at h2;have nF:¬ (H D=none/\D≠D):=λ q=>q.2 rfl;by_cases hj:j<ys.length
        · rw [Af2 hj] at h1;rw [Af2 (by omega)] at h2;exact ((el j z d h1 h2).same (s3.trans (s4.trans s5))).off hl5 nF
        · have ej:j=ys.length:=by
            have:=(Ac3.mp h1).1;rw [Ac7] at this;have:([y]:List V).length=1:=rfl;omega
          subst ej;rw [Ae9 (Aa7 _),Nat.sub_self] at h1;rw [len,Ae9 (Aa7 _),Nat.sub_self] at h2;cases h1;cases h2;refine (ry.imp (F':=λ a=>H a=none/\a≠D) λ a ha=>⟨s14.free ha,λ q=> ?_⟩).off hl5 nF;subst q;rw [show H4 a=none from ha] at hl4;cases hl4
  · have e:i=n:=by omega
    subst e;refine .inl ⟨S.stop H1 s1,hd H1 ys s1 hl (.lst hl hD ?_ len λ j y d h1 h2=>(el j y d h1 h2).imp λ a q=>q.1)⟩;have:=bnd i;omega
theorem Bc {m:Nat} {G:Nat->Dt} (S:SrcOk J g σ0 H n st) (hD:H D=none) (hn:n<=100000)
    (he:∀ i H' (R:VK),i<n->Same H H'->(∀ H3 y,Same H' H3->Rp H3 (FN H') m y (G i)->R y H3)->te (st i) H' R)
    (hd:∀ H' ys,Same H H'->H' D=some (.lst ys)->Rp H' (FN H) (m+1) (.ref D) (.lst ((Aa9 n).map G))->Q (.ref D) H'):
    FM J σ0 g Pl te Q H D:=by
  refine GP (p:=λ _=>true) (m:=m) (G:=G) S hD hn (λ i H' R _ _ k=>k H' (Same.refl _)) (λ i H' R hi _ s k=>he i H' R hi s k) λ H' ys s hl r=>hd H' ys s hl ?_;have e:(Aa9 n).filter (λ _=>true)=Aa9 n:=by simp
  rw [e] at r;exact r
variable {K:PySem.W.Frag} {a b:Addr} {xs zs:List V}
theorem Bl (h:SqL K H a xs) (h0:σ0[0]?=some none):SrcOk (Itl K a) (AO 0) σ0 H xs.length (λ i=>σ0.set 0 (some (xs.getD i .non))) where
  go:=λ i H' hi s=>⟨xs,xs[i],s.seq h,by simp [hi]⟩
  stop:=λ H' s=>⟨xs,s.seq h,Aa7 _⟩
  yld:=λ i H' x H'' R hi s y k=>by
    obtain ⟨e,hv⟩:=y;subst e;have e:x=xs.getD i .non:=by
      have:=hv xs (s.seq h);rw [Aa3,this];rfl
    subst e;exact k _ (Same.refl _)
  kp:=λ i hi=>(Kp.refl _).set h0
theorem Fp (h:SqT K H a xs) (h0:σ0[0]?=some none):SrcOk (Itt K a) (AO 0) σ0 H xs.length (λ i=>σ0.set 0 (some (xs.getD i .non))) where
  go:=λ i H' hi s=>⟨xs,xs[i],(SqS.same (tp:=true) h s),by simp [hi]⟩
  stop:=λ H' s=>⟨xs,(SqS.same (tp:=true) h s),Aa7 _⟩
  yld:=λ i H' x H'' R hi s y k=>by
    obtain ⟨e,hv⟩:=y;subst e;have e:x=xs.getD i .non:=by
      have:=hv xs (SqS.same (tp:=true) h s);rw [Aa3,this];rfl
    subst e;exact k _ (Same.refl _)
  kp:=λ i hi=>(Kp.refl _).set h0
theorem GX {lo:Int} {n:Nat} (h0:σ0[0]?=some none):SrcOk (Itr lo n) (AO 0) σ0 H n (λ i=>σ0.set 0 (some (.int (lo+i)))) where
  go:=λ i H' hi s=>hi
  stop:=λ H' s=>Aa7 _
  yld:=λ i H' x H'' R hi s y k=>by
    obtain ⟨e,hv⟩:=y;subst e hv;exact k _ (Same.refl _)
  kp:=λ i hi=>(Kp.refl _).set h0
theorem Pa (h:SqL K H a xs) (h0:σ0[0]?=some none) (h1:σ0[1]?=some none):SrcOk (Ite K a) (Jk K 2 (Cc (AO 0) (Cc (AO 1) Jm))) σ0 H xs.length (λ i=>(σ0.set 0 (some (.int i))).set 1 (some (xs.getD i .non))) where
  go:=λ i H' hi s=>⟨xs,xs[i],s.seq h,by simp [hi]⟩
  stop:=λ H' s=>⟨xs,s.seq h,Aa7 _⟩
  yld:=λ i H' x H'' R hi s y k=>by
    obtain ⟨p,v,hp,rfl,rfl,hv⟩:=y;have e:v=xs.getD i .non:=by
      have:=hv xs (s.seq h);rw [Aa3,this];rfl
    subst e;exact ⟨p,_,rfl,SqT.of Ae,rfl,_,_,rfl,_,_,rfl,rfl,k _ (Ai hp)⟩
  kp:=λ i hi=>((Kp.refl _).set h0).set h1
end
theorem AV {α β:Type} (f:α->β) (xs:List α) (d:α):(Aa9 xs.length).map (λ i=>f (xs.getD i d))=xs.map f:=by
  refine Af6 (by simp) λ i h1 h2=> ?_;have hi:i<xs.length:=by simpa using h2
  simp [Aa3,hi]
theorem O1 (a b c:Int) (hc:c≠0):0<=Builtin.Range.rangeSize a b c/\Builtin.Range.rangeSize a b c<=(b - a).natAbs:=by
  unfold Builtin.Range.rangeSize;split
  · rename_i h
    split
    · rename_i h2
      have h3:0<=(b - a - 1) / c:=Int.ediv_nonneg (by omega) (by omega);have h4:(b - a - 1) / c<=b - a - 1:=Int.ediv_le_self _ (by omega);omega
    · omega
  · rename_i h
    split
    · rename_i h2
      have h3:0<=(a - b - 1) / (-c):=Int.ediv_nonneg (by omega) (by omega);have h4:(a - b - 1) / (-c)<=a - b - 1:=Int.ediv_le_self _ (by omega);omega
    · omega
theorem RH {a b c:Int} (ha: -(2 ^ 40)<=a/\a<2 ^ 40) (hb: -(2 ^ 40)<=b/\b<2 ^ 40) (hc: -(2 ^ 20)<=c/\c<2 ^ 20) (h0:c≠0):Builtin.Range.small a b c=true:=by
  have h:=O1 a b c h0;unfold Builtin.Range.small;simp only [Builtin.Range.rangeFitsLong,Ab3,Bool.or_eq_true,decide_eq_true_eq,beq_iff_eq];generalize Builtin.Range.rangeSize a b c=n at h;have hn:(b - a).natAbs<2 ^ 42:=by omega
  refine ⟨⟨⟨⟨by omega,by omega⟩,by omega⟩,by omega⟩, .inr ?_⟩;split <;> rw [Ab3,decide_eq_true_eq,decide_eq_true_eq] <;> omega
def Itc (lo c:Int) (n:Nat):It:=⟨λ i _=>i<n,λ i H x H'=>H'=H/\x= .int (lo+i*c),λ i _=>n<=i⟩
theorem LB {P:Program} {w:World} {K:PySem.W.Frag} {tg:Expr} (it:Addr) (lo c:Int) (n:Nat):Turn P w K tg (Itc lo c n) [it] it (λ i h=>IsRangeIter h it (lo+(i:Nat)*c) ((n:Int) - (i:Nat)) c) where
  mem:=by simp
  obj:=λ i h st b hb=>by
    have e:b=it:=by simpa using hb
    subst e;exact ⟨_,st,λ v z=>by cases (show Data.fields _=Data.cell v from z)⟩
  keep:=λ i h h' st k=>k it (by simp) _ st
  item:=by
    intro X hP hw hK hc i pins s σ H E I hf st hg;subst hP hw hK;obtain ⟨f0,f1,f2,f3,f4,f5⟩:=hf it (by simp);have W:=Walks.range (prog:=X.prog) (w:=X.w) (I.ok.hd hc) it lo c n;refine W.item i s _ _ hg st λ v h' tk hv st' kk=> ?_;obtain ⟨t,rfl⟩:=hv;have I1:Inv X pins σ H { s with heap:=h',toks:=tk }:=I.turned (λ b o hb e=>kk b o (by simpa using hb) e) f0 f1 f3 f4 f5;exact ⟨_,rfl,Nk (s:={ s with heap:=h',toks:=tk }) (n:="range_iterator") st' rfl rfl (by decide) ⟨.int (lo+i*c),H,I1,⟨t,rfl⟩,⟨rfl,rfl⟩,st',λ b hb=>(hf b hb).1⟩⟩
  done:=by
    intro X hP hw hK hc i pins s σ H E I hf st hg;subst hP hw hK;obtain ⟨f0,f1,f2,f3,f4,f5⟩:=hf it (by simp);exact wpAny_pyNext_range_end (I.ok.hd hc) st (by have:n<=i:=hg;omega) λ h' eb=>⟨rfl,I.turned (t':=s.toks) (λ b o hb e=>eb b o hb e) f0 f1 f3 f4 f5⟩
  self:=λ _ _ _ _ _ st h=>wpAny_pyIter_rangeiter st h
section
variable {X:Cx} {tg:Expr}
def Sb (ta:TA):TI:=λ σ H R=>ta σ H λ vs H1=>∃ i j c:Int,vs=[.int i, .int j, .int c]/\(-(2 ^ 40)<=i/\i<2 ^ 40)/\(-(2 ^ 40)<=j/\j<2 ^ 40)/\(-(2 ^ 20)<=c/\c<2 ^ 20)/\c≠0/\R (Itc i c (Builtin.Range.rangeSize i j c).toNat) H1
theorem NM {a b c:Expr} {ta:TA} {p pos:Pos} (hg:Gl X "range") (hm:X.mg "range"=none) (ha:PA X [a,b,c] ta) (hs:starEach [a,b,c] X.env=[(false,eval a X.env),(false,eval b X.env),(false,eval c X.env)]:=by rfl)
    (hs2:starEach [b,c] X.env=[(false,eval b X.env),(false,eval c X.env)]:=by rfl):PI X tg (.Call (.Name "range" p) [a,b,c] [] pos) (Sb ta):=by
  intro pins s σ H R I h;refine Call_ (Ck I hg hm boot_range (PyProof.Rows.callWith_type1 (thn (ha pos pins s σ H _ I h) λ us s1 ⟨vs,H1,I1,r1,q1⟩=> ?_) (by rw [hs,hs2]) (by rw [hs2];rfl)));obtain ⟨i,j,k,e,h1,h2,h3,h0,q⟩:=q1;subst e;cases r1 with
  | cons r rr=>
    cases rr with
    | cons r' rr=>
      cases rr with
      | cons r'' rr=>
        cases rr;obtain ⟨t,rfl⟩:=r;obtain ⟨t',rfl⟩:=r';obtain ⟨t'',rfl⟩:=r'';refine call_range_3 h0 ?_ (.inl (PyProof.noPylong_small (by omega)));refine wpAny_pyIter_range (IsRange.new ..) (RH h1 h2 h3 h0) ?_;have I2:Inv X pins σ H1 { s1 with heap:=s1.heap.push { cls:= .type "range",data:= .fields #[.int i t, .int j t', .int k t''] },toks:=s1.toks }:=I1.kept λ b o e=>Aa1 _ e;refine ⟨(s1.heap.push { cls:= .type "range",data:= .fields #[.int i t, .int j t', .int k t''] }).objs.size,[(s1.heap.push { cls:= .type "range",data:= .fields #[.int i t, .int j t', .int k t''] }).objs.size],_,_,H1,rfl,
          I2.kept (t':=s1.toks) λ b o e=>Aa1 _ e,LB _ i k (Builtin.Range.rangeSize i j k).toNat,?_,λ b hb=> ?_,q⟩
        · have e1:i+((0:Nat):Int)*k=i:=by simp
          have e2:(((Builtin.Range.rangeSize i j k).toNat:Nat):Int) - ((0:Nat):Int)=Builtin.Range.rangeSize i j k:=by have:=(O1 i j k h0).1;omega
          show IsRangeIter _ _ (i+((0:Nat):Int)*k) ((((Builtin.Range.rangeSize i j k).toNat:Nat):Int) - ((0:Nat):Int)) k;rw [e1,e2];exact Aa8 _ rfl
        · have e:b=(s1.heap.push { cls:= .type "range",data:= .fields #[.int i t, .int j t', .int k t''] }).objs.size:=by simpa using hb
          subst e;exact I2.fpOk (Aa7 _) (I2.hok.fresh (Aa7 _))
theorem Mi {lo c:Int} {n:Nat} {σ0:St} {H:Hp} (h0:σ0[0]?=some none):SrcOk (Itc lo c n) (AO 0) σ0 H n (λ i=>σ0.set 0 (some (.int (lo+i*c)))) where
  go:=λ i H' hi s=>hi
  stop:=λ H' s=>Aa7 _
  yld:=λ i H' x H'' R hi s y k=>by
    obtain ⟨e,hv⟩:=y;subst e hv;exact k _ (Same.refl _)
  kp:=λ i hi=>(Kp.refl _).set h0
def VZ:List V->Hp->VK->Prop:=λ xs H Q=>∃ b:Bool,xs=[.bl b]/\Q (.int (if b=true then 1 else 0)) H
end
theorem SJ {X:Cx}:Cf X (.type "int") VZ:=by
  intro pins s σ H xs us Q I r h;obtain ⟨b,rfl,q⟩:=h;exact N0 pins s σ H _ us Q I r (.inr ⟨b,rfl,q⟩)
section
variable {X:Cx} {K:PySem.W.Frag} {e st:Expr} {te ts:TE} {pos p2:Pos}
end
end L2
namespace MM
theorem LR {α:Type} {p:List α->Prop} (h0:p []) (h1:∀ l a,p l->p (l++[a])):∀ l,p l:=λ l=>by
  have h:∀ r:List α,p r.reverse:=λ r=>by
    induction r with
    | nil=>exact h0
    | cons a r ih=>rw [List.reverse_cons];exact h1 _ _ ih
  have:=h l.reverse
  rwa [List.reverse_reverse] at this
theorem or_add_and (a:Nat):∀ b:Nat,(a ||| b)+(a &&& b)=a+b:=by
  induction a using Nat.strongRecOn with
  | ind a ih=>
    intro b;by_cases h:a=0
    · subst h;simp
    · have ih':=ih (a / 2) (by omega) (b / 2);have e1:(a ||| b)=2*((a ||| b) / 2)+(a ||| b)%2:=by omega
      have e2:(a &&& b)=2*((a &&& b) / 2)+(a &&& b)%2:=by omega
      have d1:(a ||| b) / 2=a / 2 ||| b / 2:=by simpa using Nat.or_div_two (a:=a) (b:=b)
      have d2:(a &&& b) / 2=a / 2 &&& b / 2:=by simpa using Nat.and_div_two (a:=a) (b:=b)
      have m1:(a ||| b)%2+(a &&& b)%2=a%2+b%2:=by
        have z:∀ x:Nat,x%2=(x.testBit 0).toNat:=λ x=>by rw [Nat.toNat_testBit];simp
        rw [z (a ||| b),z (a &&& b),z a,z b,Nat.testBit_or,Nat.testBit_and];cases a.testBit 0 <;> cases b.testBit 0 <;> rfl
      rw [d1] at e1;rw [d2] at e2;omega
def ofB (f:Nat->Bool):Nat->Nat
  | 0=>0
  | w+1=>ofB f w+(f w).toNat*2 ^ w
theorem ofB_lt (f:Nat->Bool):∀ w,ofB f w<2 ^ w
  | 0=>by simp [ofB]
  | w+1=>by
    have:=ofB_lt f w;unfold ofB;rw [Nat.pow_succ];cases f w <;> simp <;> omega
theorem ofB_bit (f:Nat->Bool):∀ w i,(ofB f w).testBit i=(decide (i<w)&&f i)
  | 0,i=>by simp [ofB]
  | w+1,i=>by
    have hl:=ofB_lt f w;unfold ofB;have e:ofB f w+(f w).toNat*2 ^ w=2 ^ w*(f w).toNat+ofB f w:=by rw [Nat.mul_comm];omega
    rw [e,Nat.testBit_two_pow_mul_add _ hl];by_cases h:i<w
    · rw [if_pos h,ofB_bit f w i];simp [h,Nat.lt_succ_of_lt h]
    · rw [if_neg h];by_cases h2:i=w
      · subst h2;cases f i <;> simp
      · have h3:¬ i<w+1:=by omega
        have h4:i - w≠0:=by omega
        have h5:(1:Nat).testBit (i - w)=false:=by
          obtain ⟨d,hd⟩:∃ d,i - w=d+1:=⟨i - w - 1,by omega⟩;rw [hd,Nat.testBit_succ];simp
        cases f w
        · simp [h3]
        · simp only [Bool.toNat_true,h5,h3,decide_false,Ac5]
theorem bit_div (m e:Nat):m / 2 ^ e%2=(m.testBit e).toNat:=by
  rw [Nat.testBit_eq_decide_div_mod_eq];have:m / 2 ^ e%2<2:=Nat.mod_lt _ (by decide);by_cases h:m / 2 ^ e%2=1
  · simp [h]
  · have:m / 2 ^ e%2=0:=by omega
    simp [this]
def mOf (ns:List Nat):Nat:=ns.foldl (λ m n=>m ||| 2 ^ (n - 1)) 0
theorem mOf_snoc (ns:List Nat) (n:Nat):mOf (ns++[n])=mOf ns ||| 2 ^ (n - 1):=by unfold mOf;rw [List.foldl_append];rfl
theorem mOf_bit (ns:List Nat) (i:Nat):(mOf ns).testBit i=ns.any λ n=>decide (n - 1=i):=by
  refine LR (p:=λ ns=>(mOf ns).testBit i=ns.any λ n=>decide (n - 1=i)) (by simp [mOf]) (λ l a ih=> ?_) ns
  · rw [mOf_snoc,Nat.testBit_or,ih,List.any_append,Nat.testBit_two_pow];simp
theorem mOf_lt {ns:List Nat} {w:Nat} (h:∀ n∈ns,n - 1<w):mOf ns<2 ^ w:=by
  refine Nat.lt_pow_two_of_testBit _ λ i hi=> ?_;rw [mOf_bit,List.any_eq_false];intro n hn;have:=h n hn;simp;omega
def uOf (ms:List Nat):Nat:=ms.foldl (λ m n=>m ||| n) 0
theorem uOf_snoc (ns:List Nat) (n:Nat):uOf (ns++[n])=uOf ns ||| n:=by unfold uOf;rw [List.foldl_append];rfl
theorem uOf_bit (ns:List Nat) (i:Nat):(uOf ns).testBit i=ns.any λ n=>n.testBit i:=by
  refine LR (p:=λ ns=>(uOf ns).testBit i=ns.any λ n=>n.testBit i) (by simp [uOf]) (λ l a ih=> ?_) ns;rw [uOf_snoc,Nat.testBit_or,ih,List.any_append];simp
def bits (m:Nat):Nat:=if m=0 then 0 else m.log2+1
theorem M4 (m:Nat):m<2 ^ bits m:=by
  unfold bits;split
  · subst_vars;decide
  · exact Nat.lt_log2_self
theorem bits_le {m w:Nat} (h:m<2 ^ w):bits m<=w:=by
  unfold bits;split
  · exact Nat.zero_le _
  · rename_i h0
    exact (Nat.log2_lt h0).mpr h
def nOf (m:Nat):List Nat:=((Aa9 (bits m)).filter m.testBit).map (· + 1)
theorem nOf_mem (m n:Nat):n∈nOf m↔1<=n/\m.testBit (n - 1)=true:=by
  unfold nOf;simp only [Ad0,Ah4,Af1];constructor
  · rintro ⟨k,⟨_,h⟩,rfl⟩;exact ⟨by omega,by simpa using h⟩
  · rintro ⟨h1,h2⟩;refine ⟨n - 1,⟨?_,h2⟩,by omega⟩;rcases Nat.lt_or_ge (n - 1) (bits m) with q | q
    · exact q
    · rw [Ag6 (Ab4 (M4 m) (Ag1 (by decide) q))] at h2;cases h2
theorem Og {m w:Nat} (h:m<2 ^ w):nOf m=((Aa9 w).filter m.testBit).map (· + 1):=by
  unfold nOf;have hb:=bits_le h;obtain ⟨d,rfl⟩:∃ d,w=bits m+d:=⟨w - bits m,by omega⟩;congr 1;rw [List.range_add,Ah2];have e:((Aa9 d).map (bits m+ ·)).filter m.testBit=[]:=by
    rw [List.filter_eq_nil_iff];intro x hx;obtain ⟨k,_,rfl⟩:=Ad0.mp hx;rw [Ag6 (Ab4 (M4 m) (Ag1 (by decide) (Nat.le_add_right _ _)))];simp
  rw [e,List.append_nil]
theorem nOf_len {m w:Nat} (h:m<2 ^ w):(nOf m).length<=w:=by
  rw [Og h,Aa2];exact Ab8 (Ah1 _ _) (by simp)
end MM
namespace L2
open PySem PySem.Spec PyProof.Rows
section
variable {X:Cx}
theorem Ka {x:Str} {i:Int} {pos:Pos} (h:∃ t,X.mg x=some (.int i t)) (hg:Gl X x:=by rfl) (hd:(x == ("__debug__":Str))=false:=by decide):PE X (.Name x pos) (tC (.int i)):=by
  obtain ⟨t,e⟩:=h;exact K1 hg e ⟨t,rfl⟩ hd
theorem Np {x z:Str} {pos:Pos} (h:∃ t,X.mg x=some (.str z t)) (hg:Gl X x:=by rfl) (hd:(x == ("__debug__":Str))=false:=by decide):PE X (.Name x pos) (tC (.str z)):=by
  obtain ⟨t,e⟩:=h;exact K1 hg e ⟨t,rfl⟩ hd
end
section
variable {H:Hp} {Q:VK} {σ:St} {td ty tv:TE} {D:Ends} {a:Addr} {kvs:List (Key × V)}
theorem QH (h:td σ H λ x H1=>ty σ H1 λ y H2=>∃ a v,x= .ref a/\DGet H2 a y (some v)/\Q v H2):Se td ty σ H Q:=h
theorem QI {trs:List (TE × TE)} (h:∀ p,H p=none->F0 trs σ (upd H p (.dK [])) λ ps H2=>H2 p=some (.dK [])/\∃ kvs:List (Key × V),ps=kvs.map (λ kv=>(kV kv.1,kv.2))/\kvs.length<=15/\Q (.ref p) (upd H2 p (.dK (AI [] kvs)))):RK trs σ H Q:=h
theorem QV {R:List (V × V)->Hp->Prop} (h:R [] H):F0 [] σ H R:=h
theorem O9 {tk tw:TE} {r:List (TE × TE)} {R:List (V × V)->Hp->Prop} (h:tk σ H λ x H1=>tw σ H1 λ y H2=>F0 r σ H2 λ ps H3=>R ((x,y)::ps) H3):F0 ((tk,tw)::r) σ H R:=h
end
theorem Room.units1 {k:Nat} {A:Around} (r:Room k A):A.units+1<cLine:=by have:=r.un;omega
section
variable {H:Hp} {Q:VK} {σ:St} {K:PySem.W.Frag} {to:TE} {t:TA} {r:V->List V->Hp->VK->Prop} {T:String} {l p q:Addr} {xs ys:List V} {y:V}
theorem SC (h:to σ H λ x H1=>tyV K T x H1/\r x [] H1 Q):Tx K T r to σ H Q:=h
theorem Zs (h:to σ H λ x H1=>tyV K T x H1/\t σ H1 λ xs H2=>r x xs H2 Q):tBM K T r to t σ H Q:=h
theorem tyL {B:Prop} (c:SqL K H l xs) (h:B):tyV K "list" (.ref l) H/\B:=⟨.inl ⟨rfl,xs,c⟩,h⟩
theorem tyI {B:Prop} {i:Int} (h:B):tyV K "int" (.int i) H/\B:=⟨rfl,h⟩
theorem S5 (c:H l=some (.lst xs)) (b:xs.length<16777216) (h:Q .non (upd H l (.lst (xs++[y])))):rAppend (.ref l) [y] H Q:=⟨l,xs,y,rfl,rfl,c,by rw [sizeLine_eq];exact b,h⟩
theorem Dn (c:SqL K H l xs) (d:SqL K H p ys) (b:xs.length+ys.length<=16777216) (h:∀ q,H q=none->Q (.ref q) (upd H q (.lst (xs++ys)))):Ot K (.ref l) (.ref p) H Q:=⟨l,p,xs,ys,rfl,rfl,c,d,by rw [sizeLine_eq];exact b,h⟩
theorem IL {k:Int} (c:H l=some (.lst xs)) (b1:0<=k) (b2:k<=100000) (b3:xs.length<=100) (h:∀ q,H q=none->Q (.ref q) (upd H q (.lst (Ab1 k.toNat xs).flatten))):aD (.ref l) (.int k) H Q:=
  ⟨l,k,xs,rfl,rfl,c,by omega,by omega,by
    rw [sizeLine_eq];have h1:k.toNat<=100000:=by omega
    exact Ab8 (Nat.mul_le_mul b3 h1) (by decide),h⟩
theorem Rg {as bs:List Int} (c:SqL K H l (as.map V.int)) (d:SqL K H p (bs.map V.int)) (h:Q (.bl (decide (as=bs))) H):RF K false (.ref l) (.ref p) H Q:=
  ⟨l,p,_,_,rfl,rfl,c,d,LN as,LN bs,by rw [OU];exact h⟩
theorem G4 {z:Addr} (c:SqL K H z xs) (h:∀ q,H q=none->Q (.ref q) (upd H q (.lst xs))):HR K [.ref z] H Q:=⟨z,xs,rfl, .inl c,h⟩
theorem BI {z:Addr} (c:SqT K H z xs) (h:∀ q,H q=none->Q (.ref q) (upd H q (.lst xs))):HR K [.ref z] H Q:=⟨z,xs,rfl, .inr c,h⟩
theorem B8 {z:Addr} (c:SqL K H z xs) (h:∀ q,H q=none->Q (.ref q) (upd H q (.tup xs))):Lx K [.ref z] H Q:=⟨z,xs,rfl, .inl ⟨c,h⟩⟩
end
end L2
namespace L2
open PySem
open Sem (wp)
open AutoSeq1 (wpAny_loadPart')
section
variable {prog:Program} {w:World} {A:Around} {E:Value->Shared->Prop} {s:Shared}
theorem LV {T newId:String} {Bn:Builtin} {v:Value} {x:Str} {u:Value} {Q:Value->Shared->Prop} (ft:TypeCalled T newId "object.__init__") (hne:(some newId != some "object.__new__")=true)
    (hct:checkTypeCall T ⟨[v],[(x,u)]⟩=pure ()) (hcn:checkBuiltinCall newId ⟨[.type T,v],[(x,u)]⟩=pure ()) (hok:∀ obj,argsOk "object.__init__" ⟨[obj,v],[(x,u)]⟩) (entryN:entryFor table newId=some Bn)
    (g:wpAny (model prog w) A.in1.in1 (Bn ⟨[.type T,v],[(x,u)]⟩) (λ fin s1=>∃ obj,fin= .done (.ret obj)/\s1.TypeIs obj T/\Q obj s1) E s):wpAny (model prog w) A (call (.type T) [v] [(x,u)]) Q E s:=by
  obtain ⟨c,tl,hmro⟩:=ft.mro;have hmade:=ft.made;have hsub:=ft.sub;refine wpAny_call (codeAny_of_tree ?_);show wpAny _ _ (callAny (.type T) _) _ _ _;refine Aa5 ⟨Code.quiet_builtin _ (by decide +kernel),codeAny_builtin F.entry_type_call ?_⟩;rw [Around.under_plain (weight_type_call_type T [v] [(x,u)]) (units_type_call_type T [v] [(x,u)])];have h1:=ft.notType;have h2:=ft.canCreate
  repeat (any_goals (first | assumption | wp_step))
  refine codeAny_call_builtin ft.plain entryN (wpAny_of_eq hcn (Ad5 g (λ fin s1 q=> ?_) λ _ _ q=>q));obtain ⟨obj,rfl,hT,q⟩:=q;have hli:=ft.init.lookup;have hbi:=ft.init.bind obj;show wpAny _ _ _ _ _ _
  repeat (any_goals (first | assumption | wp_step))
  refine codeAny_call_builtin ft.init.plain F.entry_object_init (ft.init.check _ _ _ _ _ _ _ _ hT (hok obj) ?_)
  repeat (any_goals (first | assumption | wp_step))
  trace_state
theorem Ln {v:Value} {t:Tok} {Q:Value->Shared->Prop}
    (h:wpAny (model prog w) A (pyIter v) (λ itv s1=>Q (.ref s1.heap.objs.size) { s1 with heap:=s1.heap.push { cls:= .type "enumerate",data:= .fields #[.none, .bool false,itv,rawInt 1, .none, .none] } }) E s):
    wpAny (model prog w) A (Builtin.«enumerate.__new__» ⟨[.type "enumerate",v],[("start", .int 1 t)]⟩) (λ fin s1=>∃ obj,fin= .done (.ret obj)/\Q obj s1) E s:=by
  have hsub:=sub_enumerate;have hit:∀ {R:Value->Shared->Prop},(∀ itv s1,Q (.ref s1.heap.objs.size) { s1 with heap:=s1.heap.push { cls:= .type "enumerate",data:= .fields #[.none, .bool false,itv,rawInt 1, .none, .none] } }->R itv s1)->wpAny (model prog w) A (pyIter v) R E s:=λ k=>Ad5 h k λ _ _ q=>q;unfold Builtin.«enumerate.__new__»
  wp_walk
  refine wpAny_stack_any λ st=>Aa5 ?_;split
  · rename_i c _ _ _ _ _
    cases (c == Value.type "enumerate")
    · wp_walk using hit
      intro itv s1 q
      wp_walk
      exact ⟨_,rfl,q⟩
    · wp_walk using hit
      intro itv s1 q
      wp_walk
      exact ⟨_,rfl,q⟩
  · wp_walk using hit
    intro itv s1 q
    wp_walk
    exact ⟨_,rfl,q⟩
theorem Iv {v:Value} {t:Tok} {Q:Value->Shared->Prop}
    (h:wpAny (model prog w) A.in1.in1 (pyIter v) (λ itv s1=>∃ it,itv= .ref it/\∀ h',IsEnum h' s1.heap.objs.size it 1 .none->(∀ b o,s1.heap.get? b=some o->h'.get? b=some o)->h'.objs.size=s1.heap.objs.size+1->Q (.ref s1.heap.objs.size) { s1 with heap:=h' }) E s):
    wpAny (model prog w) A (call (.type "enumerate") [v] [("start", .int 1 t)]) Q E s:=by
  refine LV F.called_enumerate (by decide) (by kernel_rfl) (by kernel_rfl) (λ obj=>by unfold argsOk;kernel_rfl) F.entry_enumerate_new (Ln (Ad5 h (λ itv s1 q=> ?_) λ _ _ q=>q));obtain ⟨it,rfl,q⟩:=q;refine ⟨⟨_,Aa8 _ rfl,rfl⟩,q _ (Aa8 _ rfl) (λ b o e=>Aa1 _ e) (Ae4 ..)⟩
end
theorem TF {prog:Program} {w:World} {A:Around} {it:Addr} {fp:List Addr} {n:Nat} {Pv:Nat->Value->Prop} {St:Nat->Heap->Prop} (k:Nat) (D:Draws prog w A it fp n Pv St):
    Draws prog w A it fp (n+k) (λ i v=>∃ j,i=j+k/\Pv j v) (λ i h=>∃ j,i=j+k/\St j h) where
  live:=λ i h ⟨j,_,st⟩=>D.live j h st
  frame:=λ i h h' ⟨j,e,st⟩ q=>⟨j,e,D.frame j h h' st q⟩
  item:=λ i s Q E hi ⟨j,e,st⟩ hQ=>D.item j s Q E (by omega) st λ x h' tk p st' sb=>hQ x h' tk ⟨j,e,p⟩ ⟨j+1,by omega,st'⟩ sb
  done:=λ s Q E ⟨j,e,st⟩ hE=>D.done s Q E (by
    have q:j=n:=by omega
    rw [q] at st;exact st) hE
theorem Hq {M:Model} {A:Around} {E:Value->Shared->Prop} {s:Shared} {pos:Pos} {T:String} {args:List (Bool × Sem Value)} {kws:List (Option Str × Sem Value)} {Q:Value->Shared->Prop}
    (hp:args.any (·.1)=false) (hk:kws.any (·.1.isNone)=false) (h:wpAny M A (evalArgs (.type T) true args kws) (λ a s1=>wpAny M A (call (.type T) a.pos a.kw) Q E s1) E s):wpAny M A (callWith pos (.type T) [] args kws) Q E s:=by
  unfold callWith;refine Aa0 (Ad9 (Ad5 h (λ a s1 h1=>Aa0 (wpAny_standAt ?_)) λ _ _ q=>q));simp only [hp,hk,Bool.or_false];refine Aa0 (Aa5 ?_);refine Aa0 (Ad5 h1 (λ r s2 hr=> ?_) λ _ _ q=>q);exact Aa0 (Ad9 (wpAny_point (Aa5 hr)))
end L2
namespace L2
open PySem PySem.Spec PyProof.Rows
theorem To {prog:Program} {w:World} {A:Around} (hh:A.handled=none) (tp:Bool) (it l:Addr) (hne:l≠it) (items:Array Value):
    Draws prog w A it [it,l] items.size (λ i v=>items[i]?=some v) (λ i h=>BH tp h it l i/\A8 tp h l items) where
  live:=λ _ _ st=>let ⟨o,e,_⟩:=A5 st.1;⟨o,e⟩
  frame:=λ _ _ _ st hk=>⟨Ao st.1 λ o e=>hk it (by simp) o e,AZ st.2 λ o e=>hk l (by simp) o e⟩
  item:=λ i s Q E hi st hQ=>BB st.1 st.2 (x:=items[i]) (by simp [hi]) λ h' hit sb=>hQ _ h' s.toks (by simp [hi]) ⟨hit,AZ st.2 λ o e=>(sb.2 l hne).trans e⟩ sb
  done:=λ s Q E st hE=>C0 hh st.1 st.2 (by simp) hE
def PK (tp:Bool) (K:PySem.W.Frag) (a:Addr):It:=
  ⟨λ i H=>∃ xs x,SqS tp K H a xs/\xs[i]?=some x,λ i H v H'=>∃ p x,H p=none/\v= .ref p/\H'=upd H p (.tup [.int ((i+1:Nat):Int),x])/\∀ xs,SqS tp K H a xs->xs[i]?=some x,λ i H=>∃ xs,SqS tp K H a xs/\xs.length<=i⟩
theorem MP {P:Program} {w:World} {K:PySem.W.Frag} {elts:List Expr} {k:Nat} {pos:Pos} (tp:Bool) (a e it:Addr) (hne:e≠it):
    Turn P w K (.Tuple elts k pos) (PK tp K a) [e,it] e (λ i h=>(∃ old,IsEnum h e it ((i+1:Nat):Int) old)/\BH tp h it a i) where
  mem:=by simp
  obj:=λ i h st b hb=>by
    obtain ⟨⟨old,he⟩,hi⟩:=st;obtain ⟨o,eo,d⟩:=A5 hi;rcases Ab5.mp hb with z | z
    · subst z;exact ⟨_,he,λ v z=>by cases (show Data.fields _=Data.cell v from z)⟩
    · have z:b=it:=by simpa using z
      subst z;exact ⟨o,eo,λ v z=>by rw [d] at z;cases z⟩
  keep:=λ i h h' st kp=>by
    obtain ⟨⟨old,he⟩,hi⟩:=st;exact ⟨⟨old,kp e (by simp) _ he⟩,Ao hi λ o z=>kp it (by simp) o z⟩
  item:=by
    intro X hP hw hK hc i pins s σ H E I hf st hg;subst hP hw hK;obtain ⟨xs,x,hq,hx⟩:=hg;obtain ⟨its,rv,p⟩:=A3 I hq;obtain ⟨u,hu,ru⟩:=rv.get hx;obtain ⟨⟨old,he⟩,hi⟩:=st;obtain ⟨oi,ei,di⟩:=A5 hi;obtain ⟨oa,na,ea,da⟩:=B2 p;have hel:e<s.heap.objs.size:=Aa6 he;have hil:it<s.heap.objs.size:=Aa6 ei;have nia:a≠it:=λ z=>by
      subst z;rw [ei] at ea;cases ea;rw [di] at da;cases da
    have nea:e≠a:=λ z=>by
      subst z;rw [show s.heap.get? e=_ from he] at ea;cases ea;cases (show Data.fields _=Data.seq _ _ from da)
    have hlt:i<its.toArray.size:=by
      have:=(Ac3.mp hu).1;simpa using this
    have D:=TF 1 (To (prog:=X.prog) (w:=X.w) (A:=X.A.in1) (I.ok.hd hc) tp it a nia its.toArray);refine wpAny_pyNext_enum_itemD (i:=i+1) D he ⟨i,rfl,hi,p⟩ (by omega) hne (by simp [hne,nea]) λ v h' tk pv ho st' hT hsz hk=> ?_;obtain ⟨j,ej,ev⟩:=pv;obtain ⟨j2,ej2,hi',p'⟩:=st';have ej:j=i:=by omega
    have ej2:j2=i+1:=by omega
    subst ej ej2;have ev:v=u:=by
      rw [show its.toArray[j]?=some u by simpa using hu] at ev;exact (Ad8.inj ev).symm
    subst ev;have I0:=I.laid (h':=s.heap.push { cls:= .type "tuple",data:= .seq #[.int ((j+1:Nat):Int) tk,v] }) (a:=s.heap.objs.size) (o:= .tup [.int ((j+1:Nat):Int),x]) (t':=tk+1) (λ _ _ q=>Aa1 _ q) (Aa7 _)
      ⟨(by show 2<=sizeLine;decide),[.int ((j+1:Nat):Int) tk,v], .cons ⟨_,rfl⟩ (.cons ru .nil),⟨_,Aa8 _ rfl,rfl,_,rfl⟩⟩
    have f0:∀ b∈[e,it],DD X pins (upd H s.heap.objs.size (.tup [.int ((j+1:Nat):Int),x])) b:=λ b hb=>Fe (hf b hb) (by
      rcases Ab5.mp hb with z | z
      · rw [z];exact Ac2 hel
      · rw [show b=it by simpa using z];exact Ac2 hil)
    have I1:=Inv.turnedL (t':=tk+1) (h':=h') [e,it] I0 f0 (λ b o hb z=>by
      have hb1:b≠e:=λ q=>hb (by simp [q]);have hb2:b≠it:=λ q=>hb (by simp [q]);rcases Af9 (show (s.heap.push { cls:= .type "tuple",data:= .seq #[.int ((j+1:Nat):Int) tk,v] }).get? b=some o from z) with ⟨q1,q2⟩ | q
      · rw [q1,q2];exact hT
      · exact hk b o hb1 hb2 q)
    refine ⟨.ref s.heap.objs.size,rfl,wpAny_letOwnedTupleGo_enum (s:={ s with heap:=h',toks:=tk+1 }) ho λ h2 he2 sb=> ?_⟩;exact ⟨.ref s.heap.objs.size,_,Inv.turnedL (t':=tk+1) (h':=h2) [e,it] I1 f0 (λ b o hb z=>(sb.2 b λ q=>hb (by simp [q])).trans z),rfl,⟨_,x,I.fresh,rfl,rfl,λ ys hy=>by rw [Gk I hy hq];exact hx⟩,
      ⟨⟨v,by simpa using he2⟩,Ao hi' λ o z=>(sb.2 it hne.symm).trans z⟩,λ b hb=>(f0 b hb).1⟩
  done:=by
    intro X hP hw hK hc i pins s σ H E I hf st hg;subst hP hw hK;obtain ⟨xs,hq,hx⟩:=hg;obtain ⟨its,rv,p⟩:=A3 I hq;obtain ⟨⟨old,he⟩,hi⟩:=st;obtain ⟨oi,ei,di⟩:=A5 hi;obtain ⟨oa,na,ea,da⟩:=B2 p;have hT:s.TypeIs (.ref e) "enumerate":=⟨_,he,rfl⟩;have hl:=rv.length;unfold pyNext;refine Aa0 (Af3 (Ab7 (name:=Str.ofString "__next__") hT F.slot_enumerate_next (Ad2 F.slot_enumerate_next hT F.entry_enumerate_next ?_ (F.args_enumerate_next_1 _))));show wpAny _ _ (field (.ref e) 2 >>= _) _ _ _;refine Aa0 (Ab9 he rfl (x:= .ref it) rfl ?_);refine Aa0 (C0 (A:=X.A.in1) (I.ok.hd hc) hi p (by simp;omega) λ h' x eb hx'=> ?_);obtain ⟨o,ho,hc2⟩:=hx';exact Aa0 (wpAny_isInstance (T:="StopIteration") (b:=true) ⟨o,ho,hc2⟩ isSubtype_stop (Aa5 ⟨rfl,I.turnedL (t':=s.toks) [e,it] hf λ b o hb z=>eb b o (λ q=>hb (by simp [q])) z⟩))
  self:=λ _ _ _ _ _ st h=>by
    obtain ⟨⟨old,he⟩,_⟩:=st;exact wpAny_pyIter_enum he h
section
variable {X:Cx} {elts:List Expr} {k:Nat} {tpos:Pos} {K:PySem.W.Frag}
def Qd (K:PySem.W.Frag) (ta:TA):TI:=λ σ H R=>ta σ H λ vs H1=>∃ tp a,vs=[.ref a]/\(∃ xs,SqS tp K H1 a xs)/\R (PK tp K a) H1
theorem PF {l:Expr} {ta:TA} {p pos kp cp:Pos} {cj:Nat} (hg:Gl X "enumerate") (hm:X.mg "enumerate"=none) (ha:PA X [l] ta) (hK:X.K=K:=by rfl) (hs:starEach [l] X.env=[(false,eval l X.env)]:=by rfl):
    PI X (.Tuple elts k tpos) (.Call (.Name "enumerate" p) [l] [⟨some "start", .Constant (.int 1) cj cp,kp⟩] pos) (Qd K ta):=by
  subst hK;intro pins s σ H R I h;refine Ag9 (Ck I hg hm G8 (Hq (by rw [hs];rfl) rfl (PyProof.Rows.evalArgs_kw2 rfl ?_ (by rw [hs];rfl))));refine thn (ha pos pins s σ H _ I h) λ us s1 ⟨vs,H1,I1,r1,q1⟩=>PyProof.Rows.kwAll_cons ?_;refine Ac pins s1 σ H1 (λ v H2=>v= .int 1/\H2=H1) I1 ⟨rfl,rfl⟩ |> λ z=>thn z λ u s2 ⟨v,H2,I2,r2,ev,eh⟩=> ?_
  subst ev eh;obtain ⟨t,rfl⟩:=r2;refine PyProof.Rows.kwAll_nil ?_;obtain ⟨tp,a,e,⟨xs,hq⟩,q⟩:=q1;subst e;cases r1 with
  | cons r rr=>
    cases rr;cases r;obtain ⟨its,rv,pl⟩:=A3 I2 hq;refine Iv ?_;refine IG pl ⟨_,rfl,λ h' he hk hsz=> ?_⟩;refine wpAny_pyIter_enum he ?_;have hz:(s2.heap.push { cls:= .type (Kc tp),data:= .fields #[.ref a, .int 0 0] }).objs.size=s2.heap.objs.size+1:=Ae4 ..;have hk2:∀ b o,s2.heap.get? b=some o->h'.get? b=some o:=λ b o z=>hk b o (Aa1 _ z);have I3:=I2.kept (t':=s2.toks) hk2;have st:BH tp h' s2.heap.objs.size a 0:=Ao Ha λ o z=>hk _ o z;refine ⟨_,[_,s2.heap.objs.size],_,_,H2,rfl,I3,MP tp a _ _ (by rw [hz];exact Nat.succ_ne_self _),⟨⟨_,he⟩,st⟩,λ b hb=> ?_,q⟩;have hb':s2.heap.objs.size<=b:=by
      rcases Ab5.mp hb with z | z
      · rw [z,hz];exact Nat.le_succ _
      · have z:b=s2.heap.objs.size:=by simpa using z
        rw [z];exact Aa7 _
    exact I2.fpOk hb' (I2.hok.fresh hb')
end
def Isq (tp:Bool) (K:PySem.W.Frag) (a:Addr):It:=if tp=true then Itt K a else Itl K a
section
variable {X:Cx} {tg:Expr} {K:PySem.W.Frag}
def iSq (K:PySem.W.Frag) (tl:TE):TI:=λ σ H R=>tl σ H λ x H1=>∃ tp a,x= .ref a/\(∃ xs,SqS tp K H1 a xs)/\R (Isq tp K a) H1
theorem On {l:Expr} {tl:TE} (hl:PE X l tl) (hK:X.K=K:=by rfl):PI X tg l (iSq K tl):=by
  subst hK;intro pins s σ H R I h;refine thn (hl pins s σ H _ I h) λ v s1 ⟨x,H1,I1,r1,q1⟩=> ?_;obtain ⟨tp,a,e,⟨xs,hq⟩,q⟩:=q1;subst e;cases r1;cases tp with
  | false=>
    obtain ⟨its,rv,p,hz⟩:=I1.list (show SqL X.K H1 a xs from hq);refine wpAny_pyIter_list p.isList ?_;refine ⟨s1.heap.objs.size,[s1.heap.objs.size],_,_,H1,rfl,I1.kept (t':=s1.toks) λ b o e=>Aa1 _ e,Kn a _,⟨_,Aa8 _ rfl,rfl,rfl⟩,λ b hb=> ?_,q⟩;have e:b=s1.heap.objs.size:=by simpa using hb
    subst e;exact I1.fpOk (Aa7 _) (I1.hok.fresh (Aa7 _))
  | true=>
    obtain ⟨its,rv,p,hz⟩:=I1.tuple (show SqT X.K H1 a xs from hq);refine wpAny_pyIter_tuple (show s1.heap.IsTuple a its.toArray from p) ?_;refine ⟨s1.heap.objs.size,[s1.heap.objs.size],_,_,H1,rfl,I1.kept (t':=s1.toks) λ b o e=>Aa1 _ e,Iz a _,⟨_,Aa8 _ rfl,rfl,rfl⟩,λ b hb=> ?_,q⟩;have e:b=s1.heap.objs.size:=by simpa using hb
    subst e;exact I1.fpOk (Aa7 _) (I1.hok.fresh (Aa7 _))
end
structure FSrc (J:It) (g:TG) (H:Hp) (n:Nat) (set:Nat->St->St):Prop where
  go:∀ i H',i<n->Same H H'->J.go i H'
  stop:∀ H',Same H H'->J.stop n H'
  yld:∀ i σ H' x H'' (R:St->Hp->Prop),i<n->Same H H'->J.yld i H' x H''->(∀ H3,Same H' H3->R (set i σ) H3)->g x σ H'' R
theorem HV {J:It} {g:TG} {H:Hp} {n:Nat} {set:Nat->St->St} {tb:TS} {D:Ends} {σ:St} (S:FSrc J g H n set) (Pv:Nat->St->Hp->Prop) (h0:Pv 0 σ H) (hk:∀ i σ H',Pv i σ H'->Same H H')
    (hs:∀ i σ H' H3,i<n->Pv i σ H'->Same H' H3->tb { D with nx:=Pv (i+1),ct:=Pv (i+1),bk:=D.nx } (set i σ) H3) (hd:∀ σ H',Pv n σ H'->D.nx σ H'):
    ∃ W:Nat->Nat->St->Hp->Prop,(∃ m,W 0 m σ H)/\∀ i m σ H,W i m σ H->
      (J.stop i H/\D.nx σ H)\/(J.go i H/\∃ N:St->Hp->Prop,(∀ σ' H',N σ' H'->∃ m',m'<m/\W (i+1) m' σ' H')/\∀ x H',J.yld i H x H'->g x σ H' λ σ2 H2=>tb { D with nx:=N,ct:=N,bk:=D.nx } σ2 H2):=by
  refine ⟨λ i m σ H'=>m=n - i/\i<=n/\Pv i σ H',⟨n,by simp,Nat.zero_le _,h0⟩,?_⟩;rintro i m σ H1 ⟨rfl,hi,p⟩;by_cases hlt:i<n
  · exact .inr ⟨S.go i H1 hlt (hk _ _ _ p),Pv (i+1),λ σ' H' p'=>⟨n - (i+1),by omega,rfl,hlt,p'⟩,λ x H' y=>S.yld i σ H1 x H' _ hlt (hk _ _ _ p) y λ H3 s3=>hs i σ H1 H3 hlt p s3⟩
  · have e:i=n:=by omega
    subst e;exact .inl ⟨S.stop H1 (hk _ _ _ p),hd σ H1 p⟩
section
variable {K:PySem.W.Frag} {H:Hp} {a b:Addr} {xs zs:List V} {tp t1 t2:Bool} {i1 i2:Nat}
theorem MU (h:SqS tp K H a xs):FSrc (Isq tp K a) (AO i1) H xs.length (λ i σ=>σ.set i1 (some (xs.getD i .non))):=by
  cases tp with
  | false=>exact {
      go:=λ i H' hi s=>⟨xs,xs[i],SqS.same (tp:=false) h s,by simp [hi]⟩
      stop:=λ H' s=>⟨xs,SqS.same (tp:=false) h s,Aa7 _⟩
      yld:=λ i σ H' x H'' R hi s y k=>by
        obtain ⟨e,hv⟩:=y;subst e;have e:x=xs.getD i .non:=by
          rw [Aa3,hv xs (SqS.same (tp:=false) h s)];rfl
        subst e;exact k _ (Same.refl _) }
  | true=>exact {
      go:=λ i H' hi s=>⟨xs,xs[i],SqS.same (tp:=true) h s,by simp [hi]⟩
      stop:=λ H' s=>⟨xs,SqS.same (tp:=true) h s,Aa7 _⟩
      yld:=λ i σ H' x H'' R hi s y k=>by
        obtain ⟨e,hv⟩:=y;subst e;have e:x=xs.getD i .non:=by
          rw [Aa3,hv xs (SqS.same (tp:=true) h s)];rfl
        subst e;exact k _ (Same.refl _) }
theorem M3 (h:SqL K H a xs):FSrc (Itl K a) (AO i1) H xs.length (λ i σ=>σ.set i1 (some (xs.getD i .non))):=MU (tp:=false) h
theorem Qc {lo:Int} {n:Nat}:FSrc (Itr lo n) (AO i1) H n (λ i σ=>σ.set i1 (some (.int (lo+i)))) where
  go:=λ i H' hi s=>hi
  stop:=λ H' s=>Aa7 _
  yld:=λ i σ H' x H'' R hi s y k=>by
    obtain ⟨e,hv⟩:=y;subst e hv;exact k _ (Same.refl _)
theorem PH (h:SqS tp K H a xs):FSrc (PK tp K a) (Jk K 2 (Cc (AO i1) (Cc (AO i2) Jm))) H xs.length (λ i σ=>(σ.set i1 (some (.int ((i+1:Nat):Int)))).set i2 (some (xs.getD i .non))) where
  go:=λ i H' hi s=>⟨xs,xs[i],h.same s,by simp [hi]⟩
  stop:=λ H' s=>⟨xs,h.same s,Aa7 _⟩
  yld:=λ i σ H' x H'' R hi s y k=>by
    obtain ⟨p,v,hp,rfl,rfl,hv⟩:=y;have e:v=xs.getD i .non:=by
      rw [Aa3,hv xs (h.same s)];rfl
    subst e;exact ⟨p,_,rfl,SqT.of Ae,rfl,_,_,rfl,_,_,rfl,rfl,k _ (Ai hp)⟩
theorem FSrc.src {J:It} {g:TG} {n:Nat} {set:Nat->St->St} {σ0:St} (S:FSrc J g H n set) (kp:∀ i,i<n->Kp σ0 (set i σ0)):SrcOk J g σ0 H n (λ i=>set i σ0) where
  go:=S.go
  stop:=S.stop
  yld:=λ i H' x H'' R hi s y k=>S.yld i σ0 H' x H'' R hi s y k
  kp:=kp
theorem Ss {σ0:St} (h:SqS tp K H a xs) (h0:σ0[0]?=some none):SrcOk (Isq tp K a) (AO 0) σ0 H xs.length (λ i=>σ0.set 0 (some (xs.getD i .non))):=(MU h).src λ i _=>(Kp.refl _).set h0
theorem N9 {σ0:St} (h:SqS tp K H a xs) (h0:σ0[0]?=some none) (h1:σ0[1]?=some none):SrcOk (PK tp K a) (Jk K 2 (Cc (AO 0) (Cc (AO 1) Jm))) σ0 H xs.length (λ i=>(σ0.set 0 (some (.int ((i+1:Nat):Int)))).set 1 (some (xs.getD i .non))):=
  (PH h).src λ i _=>((Kp.refl _).set h0).set h1
end
theorem bA (a b:Nat):Builtin.bitAnd (a:Int) (b:Int)=((a &&& b:Nat):Int):=by
  rw [PyProof.Rows.bitAnd_pp (by omega) (by omega)];rfl
theorem bO (a b:Nat):Builtin.bitOr (a:Int) (b:Int)=((a ||| b:Nat):Int):=by
  have h:=MM.or_add_and a b;rw [PyProof.Rows.bitOr_and,bA];omega
theorem QW (m:Nat):((Builtin.Int.intBits (m:Int):Nat):Int)=((MM.bits m:Nat):Int):=by
  unfold Builtin.Int.intBits MM.bits;by_cases h:m=0
  · subst h;rfl
  · have e:((m:Int) == 0)=false:=by simp [h]
    rw [e,if_neg h];simp
theorem Gi (n:Nat):(1:Int)*2 ^ n=((2 ^ n:Nat):Int):=by
  rw [Int.one_mul];push_cast;rfl
section
variable {X:Cx}
def rBits:V->List V->Hp->VK->Prop:=λ x vs H Q=>∃ i:Int,x= .int i/\vs=[]/\Q (.int (Builtin.Int.intBits i:Nat)) H
theorem JA:MtM X "int.bit_length" rBits:=by
  intro pins s σ H x vs v us Q I rx rv h;obtain ⟨i,rfl,rfl,q⟩:=h;obtain ⟨t,rfl⟩:=rx;have hus:=rv.zero;subst hus;exact PyProof.Rows.call_int_bit_length ⟨.int _,H,I.tok _,⟨_,rfl⟩,q⟩
end
section
variable {H:Hp} {Q:VK} {σ:St} {D:Ends} {te:TE} {ti:TIp} {i:Nat} {x:V}
theorem Q3 {m:Nat} (h:Q (.int (MM.bits m:Nat)) H):rBits (.int (m:Nat)) [] H Q:=⟨m,rfl,rfl,by rw [QW];exact h⟩
theorem Oe (e:σ[i]?=some (some x)) (h:te σ H λ y H1=>ti x y H1 λ z H2=>D.nx (σ.set i (some z)) H2):Um i te ti D σ H:=⟨x,e,h⟩
end
abbrev nV (n:Nat):V:= .int (n:Nat)
theorem Ed {ns:List Nat} {i:Nat} (h:i<(ns.map nV).length):(ns.map nV).getD i .non= .int (ns.getD i 0:Nat):=by
  have h':i<ns.length:=by simpa using h
  simp [Aa3,h']
theorem Df {ns:List Int} {i:Nat} (h:i<(ns.map V.int).length):(ns.map V.int).getD i .non= .int (ns.getD i 0):=by
  have h':i<ns.length:=by simpa using h
  simp [Aa3,h']
theorem Ry {ns:List Int} {k:Int} (h0:0<=k) (h1:k<ns.length):atI (ns.map V.int) k=some (.int (ns.getD k.toNat 0)):=by
  obtain ⟨j,rfl⟩:∃ j:Nat,k=j:=⟨k.toNat,by omega⟩;have h':j<ns.length:=by omega
  refine AW ?_;rw [show ((j:Int)).toNat=j by omega];simp [Aa3,h']
theorem LX {ns:List Nat} {k:Int} (h0:0<=k) (h1:k<ns.length):atI (ns.map nV) k=some (.int (ns.getD k.toNat 0:Nat)):=by
  obtain ⟨j,rfl⟩:∃ j:Nat,k=j:=⟨k.toNat,by omega⟩;have h':j<ns.length:=by omega
  refine AW ?_;rw [show ((j:Int)).toNat=j by omega];simp [Aa3,h']
theorem Ki {ns:List Nat} {i:Nat} (h:i<ns.length):ns.take (i+1)=ns.take i++[ns.getD i 0]:=by
  rw [List.take_succ_eq_append_getElem h];simp [Aa3,h]
theorem B4 {J:It} {g:TG} {σ0:St} {H:Hp} {n:Nat} {st:Nat->St} {te:TE} {Q:VK} {D:Addr} {G:Nat->Int} (S:SrcOk J g σ0 H n st) (hD:H D=none) (hn:n<=100000)
    (he:∀ i H' (R:VK),i<n->Same H H'->(∀ H3,Same H' H3->R (.int (G i)) H3)->te (st i) H' R)
    (hd:∀ H',Same H H'->H' D=some (.lst (((Aa9 n).map G).map V.int))->Q (.ref D) H'):FM J σ0 g Pl te Q H D:=by
  refine Bc (m:=0) (G:=λ i=> .int (G i)) S hD hn (λ i H' R hi s k=>he i H' R hi s λ H3 s3=>k H3 _ s3 (.int _)) λ H' ys s hl r=> ?_;have e:(Aa9 n).map (λ i=>Dt.int (G i))=((Aa9 n).map G).map Dt.int:=by rw [Ae8];rfl
  rw [e] at r;obtain ⟨b,eb,hb,fb⟩:=M0 r;cases eb;exact hd H' s hb
theorem FV {J:It} {g:TG} {σ0:St} {H:Hp} {n:Nat} {st:Nat->St} {tc:TT} {te:TE} {Q:VK} {D:Addr} {p:Nat->Bool} {G:Nat->Int} (S:SrcOk J g σ0 H n st) (hD:H D=none) (hn:n<=100000)
    (ht:∀ i H' (R:Bool->Hp->Prop),i<n->Same H H'->(∀ H3,Same H' H3->R (p i) H3)->tc (st i) H' R)
    (he:∀ i H' (R:VK),i<n->p i=true->Same H H'->(∀ H3,Same H' H3->R (.int (G i)) H3)->te (st i) H' R)
    (hd:∀ H',Same H H'->H' D=some (.lst ((((Aa9 n).filter p).map G).map V.int))->Q (.ref D) H'):FM J σ0 g tc te Q H D:=by
  refine GP (m:=0) (p:=p) (G:=λ i=> .int (G i)) S hD hn ht (λ i H' R hi hp s k=>he i H' R hi hp s λ H3 s3=>k H3 _ s3 (.int _)) λ H' ys s hl r=> ?_;have e:((Aa9 n).filter p).map (λ i=>Dt.int (G i))=(((Aa9 n).filter p).map G).map Dt.int:=by rw [Ae8];rfl
  rw [e] at r;obtain ⟨b,eb,hb,fb⟩:=M0 r;cases eb;exact hd H' s hb
theorem F8 {J:It} {g:TG} {σ0:St} {H:Hp} {n:Nat} {st:Nat->St} {te:TE} {Q:VK} {D:Addr} {G:Nat->Bool} (S:SrcOk J g σ0 H n st) (hD:H D=none) (hn:n<=100000)
    (he:∀ i H' (R:VK),i<n->Same H H'->(∀ H3,Same H' H3->R (.bl (G i)) H3)->te (st i) H' R)
    (hd:∀ H',Same H H'->H' D=some (.lst (((Aa9 n).map G).map V.bl))->Q (.ref D) H'):FM J σ0 g Pl te Q H D:=by
  refine Bc (m:=0) (G:=λ i=> .bl (G i)) S hD hn (λ i H' R hi s k=>he i H' R hi s λ H3 s3=>k H3 _ s3 (.bl _)) λ H' ys s hl r=> ?_;have e:ys=((Aa9 n).map G).map V.bl:=by
    cases r with
    | @lst _ _ vs _ q f b l ee=>
      rw [hl] at q;cases q;refine Af6 (by simpa using l) λ i h1 h2=> ?_;have hi:i<n:=by simpa using h2
      have:=ee i ys[i] (.bl (G i)) (by simp [h1]) (by simp [hi]);cases hv:ys[i] <;> rw [hv] at this <;> cases this;simp
  rw [e] at hl;exact hd H' s hl
def Bm (P:Program) (w:World) (K:PySem.W.Frag) (mg:Str->Option Value) (base:Heap) (C:Addr) (m:Str) (k:Nat) (ps:List Str) (sp:Sp):Prop:=
  ∃ f fd,Cls K C/\Meth K C m f/\FnOk P w K mg base CX0 k f fd ps sp/\Binds K fd ps []
section
variable {X:Cx} {x m:Str} {C:Addr} {k:Nat} {ps:List Str} {sp:Sp} {o e:Expr} {es:List Expr} {t:TA} {ta:TE} {p pos apos:Pos}
theorem Ee {pl:Sem Bool} (he:PE X o ta) (h:Bm X.prog X.w X.K X.mg X.base C m k ps sp) (hr:Room k X.A) (ha:PA X (e::es) t)
    (hst:starEach (e::es) X.env=(false,eval e X.env)::starEach es X.env:=by rfl) (hpl:(backTo pos (starEach es X.env)).any (·.1)=false:=by rfl)
    (ht:eval (.Call (.Attribute o m apos) (e::es) [] pos) X.env=(do
      let ov <-eval o X.env
      standAt apos.atName
      let (f,first) <-holding [ov] (getMethod ov m pl)
      callWith pos f first (backTo pos (starEach (e::es) X.env)) (backToKw pos (keywordEach [] X.env))):=by rfl):
    PE X (.Call (.Attribute o m apos) (e::es) [] pos) (FL C m sp [] E0 ta t):=by
  obtain ⟨f,fd,c,hm,F,hb⟩:=h;exact MT (pl:=pl) he c hm F hr hb .nil Ov ha hst hpl ht
theorem AQ {pl:Sem Bool} (he:PE X o ta) (h:Bm X.prog X.w X.K X.mg X.base C m k ps sp) (hr:Room k X.A)
    (ht:eval (.Call (.Attribute o m apos) [] [] pos) X.env=(do
      let ov <-eval o X.env
      standAt apos.atName
      let (f,first) <-holding [ov] (getMethod ov m pl)
      callWith pos f first (backTo pos (starEach [] X.env)) (backToKw pos (keywordEach [] X.env))):=by rfl):
    PE X (.Call (.Attribute o m apos) [] [] pos) (FL C m sp [] E0 ta Pd):=by
  obtain ⟨f,fd,c,hm,F,hb⟩:=h;exact La (pl:=pl) he c hm F hr hb .nil Ov ht
theorem Gj {x:Str} {C:Addr} {pos:Pos} (h:X.mg x=some (.ref C)) (hg:Gl X x:=by rfl) (hd:(x == ("__debug__":Str))=false:=by decide):PE X (.Name x pos) (tC (.ref C)):=K1 hg h rfl hd
end
structure Kind (K:PySem.W.Frag) (C:Addr):Prop where
  cl:Cls K C
  ha:PySem.W.findIn K (.ref C) "__class__"=some (some (.builtin "object.__class__"))
  hn:PySem.W.specialIn K (.builtin "object.__class__") "__get__"=some (some (.builtin "getset_descriptor.__get__"))
  htk:PySem.W.takesIn K (.builtin "object.__class__")=some true
  hm:PySem.W.mroIn K C (.type "object")=some true
section
variable {K:PySem.W.Frag} {H:Hp} {Q:VK} {σ:St} {D:Ends} {te tv:TE} {t:TA} {a C dx:Addr} {fs:List (Str × V)} {f:Str} {v:V} {sp:Sp}
theorem SM (h:te σ H λ x H1=>∃ a C dx fs v,x= .ref a/\H1 a=some (.ins C dx fs)/\Cls K C/\NoAttr K C f/\fs.lookup f=some v/\Q v H1):Tt K te f σ H Q:=h
theorem S3 (h:tv σ H λ y H1=>te σ H1 λ x H2=>∃ a C dx fs,x= .ref a/\H2 a=some (.ins C dx fs)/\Cls K C/\NoAttr K C f/\fs.length<1000/\D.nx σ (upd H2 a (.ins C dx (Bd f y fs)))):X4 K te tv f D σ H:=h
theorem CN {y:V} (e:H a=some (.ins C dx fs)) (c:Cls K C) (n:NoAttr K C f) (l:fs.length<1000) (h:D.nx σ (upd H a (.ins C dx (Bd f y fs)))):∃ a' C' dx' fs',V.ref a= .ref a'/\H a'=some (.ins C' dx' fs')/\Cls K C'/\NoAttr K C' f/\fs'.length<1000/\D.nx σ (upd H a' (.ins C' dx' (Bd f y fs'))):=⟨a,C,dx,fs,rfl,e,c,n,l,h⟩
theorem Qm (h:t σ H λ vs H1=>∀ x dx,H1 x=none->H1 dx=none->dx≠x->sp (.ref x::vs) (upd (upd H1 dx (.own x)) x (.ins C dx [])) (λ v H2=>v= .non/\Q (.ref x) H2) E0):Ko C sp [] E0 t σ H Q:=by
  unfold Ko;simpa using h
theorem Qi {m:Str} (h:te σ H λ x H1=>∃ a dx fs,x= .ref a/\H1 a=some (.ins C dx fs)/\fs.lookup m=none/\t σ H1 λ vs H2=>sp (x::vs) H2 Q E0):FL C m sp [] E0 te t σ H Q:=by
  unfold FL;simpa using h
end
theorem PJ {r r':R2} {ta tb tc:TE} {σ:St} {H:Hp} {Q:VK} (h:ta σ H λ x H1=>tb σ H1 λ y H2=>r x y H2 λ z H3=>∃ k,z= .bl k/\(if k=true then tc σ H3 λ w' H4=>r' y w' H4 Q else Q (.bl false) H3)):OI r r' ta tb tc σ H Q:=h
def As (x:V) (a b:Int):Bool:=match x with | .int i=>decide (a<=i)&&decide (i<=b) | _=>false
theorem Dk {b b':Bool} {Q:VK} {H:Hp} (e:b=b') (h:Q (.bl b') H):Q (.bl b) H:=e▸h
theorem Rb {b:Bool} {A B:Prop} (h1:b=true->A) (h2:b=false->B):if b=true then A else B:=by
  cases b with
  | true=>exact h1 rfl
  | false=>exact h2 rfl
theorem Gg {H:Hp} {x dx:Addr} {o:HO} {u:HO} (h1:H x=none) (h2:H dx=none):Same H (upd (upd H dx u) x o):=λ b q e=>by
  rw [Ak (Ay e h1),Ak (Ay e h2)];exact e
mutual
def eqD:Dt->Dt->Bool
  | .non, .non=>true
  | .bl a, .bl b=>a == b
  | .int a, .int b=>a == b
  | .str a, .str b=>a == b
  | .bl a, .int b=>(if a then 1 else 0) == b
  | .int a, .bl b=>a == (if b then 1 else 0)
  | .lst xs, .lst ys=>Fh xs ys
  | .tup xs, .tup ys=>Fh xs ys
  | _,_=>false
def Fh:List Dt->List Dt->Bool
  | [],[]=>true
  | x::xs,y::ys=>eqD x y&&Fh xs ys
  | _,_=>false
end
theorem Dc:∀ {xs ys:List Dt},xs.length≠ys.length->Fh xs ys=false
  | [],[],h=>absurd rfl h
  | [],_::_,_=>by unfold Fh;rfl
  | _::_,[],_=>by unfold Fh;rfl
  | x::xs,y::ys,h=>by
    unfold Fh;rw [Dc (xs:=xs) (ys:=ys) (λ e=>h (by simp [e])),Bool.and_false]
theorem C9:∀ {xs ys:List Dt},xs.length=ys.length->Fh xs ys=(Aa9 xs.length).all λ i=>eqD (xs.getD i .non) (ys.getD i .non)
  | [],[],_=>by unfold Fh;rfl
  | [],_::_,h=>by simp at h
  | _::_,[],h=>by simp at h
  | x::xs,y::ys,h=>by
    unfold Fh;rw [C9 (xs:=xs) (ys:=ys) (by simpa using h),Ac4,List.range_succ_eq_map,List.all_cons,List.all_map];rfl
mutual
theorem CD:∀ d:Dt,eqD d d=true
  | .non=>by unfold eqD;rfl
  | .bl a=>by unfold eqD;simp
  | .int a=>by unfold eqD;simp
  | .str a=>by unfold eqD;simp
  | .lst xs=>by unfold eqD;exact G9 xs
  | .tup xs=>by unfold eqD;exact G9 xs
theorem G9:∀ d:List Dt,Fh d d=true
  | []=>by unfold Fh;rfl
  | x::xs=>by unfold Fh;rw [CD x,G9 xs];rfl
end
theorem Rp.inj {H:Hp} {F G:Addr->Prop} {n m:Nat} {v:V} {d e:Dt} (r:Rp H F n v d) (r2:Rp H G m v e):d=e:=by
  induction r generalizing m e with
  | non=>cases r2;rfl
  | bl b=>cases r2;rfl
  | int i=>cases r2;rfl
  | str z=>cases r2;rfl
  | @lst n a vs ds h f b l el ih=>
    cases r2 with
    | @lst m _ vs2 ds2 h2 f2 b2 l2 el2=>
      rw [h] at h2;cases h2;congr 1;refine Af6 (by omega) λ i h1 h3=> ?_;have hv:i<vs.length:=by omega
      exact ih i vs[i] ds[i] (by simp [hv]) (by simp [h1]) (el2 i vs[i] ds2[i] (by simp [hv]) (by simp [h3]))
    | tup h2 _ _ _=>rw [h] at h2;cases h2
  | @tup n a vs ds h b l el ih=>
    cases r2 with
    | @tup m _ vs2 ds2 h2 b2 l2 el2=>
      rw [h] at h2;cases h2;congr 1;refine Af6 (by omega) λ i h1 h3=> ?_;have hv:i<vs.length:=by omega
      exact ih i vs[i] ds[i] (by simp [hv]) (by simp [h1]) (el2 i vs[i] ds2[i] (by simp [hv]) (by simp [h3]))
    | lst h2 _ _ _ _=>rw [h] at h2;cases h2
section
variable {X:Cx} {pins:List (Addr × Obj)} {σ:St} {H:Hp} {s:Shared}
theorem Fv {F G:Addr->Prop} {n:Nat} {xs ys:List V} {ds es:List Dt} {its its2:List Value} {A:Around} (r:Vals xs its) (r2:Vals ys its2) (l1:xs.length=ds.length) (l2:ys.length=es.length)
    (el:∀ (i:Nat) (v:V) (d:Dt),xs[i]?=some v->ds[i]?=some d->Rp H F n v d) (el2:∀ (i:Nat) (v:V) (d:Dt),ys[i]?=some v->es[i]?=some d->Rp H G n v d)
    (ih:∀ {v u:V} {d e:Dt} {rv ru:Value},Rp H F n v d->Rp H G n u e->RelV v rv->RelV u ru->SeqAt.EqAt A s rv ru (eqD d e)):
    ∀ j (h1:j<its.toArray.size) (h2:j<its2.toArray.size),SeqAt.EqAt A s its.toArray[j] its2.toArray[j] (eqD (ds.getD j .non) (es.getD j .non)):=λ j h1 h2=>by
  have k1:=r.length;have k2:=r2.length;have h1':j<its.length:=by simpa using h1
  have h2':j<its2.length:=by simpa using h2
  have g1:xs[j]?=some (xs.getD j .non):=by rw [Aa3,Aa4 (by omega)];rfl
  have g2:ys[j]?=some (ys.getD j .non):=by rw [Aa3,Aa4 (by omega)];rfl
  have d1:ds[j]?=some (ds.getD j .non):=by rw [Aa3,Aa4 (by omega)];rfl
  have d2:es[j]?=some (es.getD j .non):=by rw [Aa3,Aa4 (by omega)];rfl
  obtain ⟨u,e1,ru⟩:=r.get g1;obtain ⟨u2,e2,ru2⟩:=r2.get g2;have q1:its.toArray[j]=u:=by rw [Aa4 h1'] at e1;simpa using Ad8.inj e1
  have q2:its2.toArray[j]=u2:=by rw [Aa4 h2'] at e2;simpa using Ad8.inj e2
  rw [q1,q2];exact ih (el j _ _ g1 d1) (el2 j _ _ g2 d2) ru ru2
theorem C4 (A:Around):A.in1.units=A.units+1:=rfl
theorem Ku (I:Inv X pins σ H s) {F G:Addr->Prop}:∀ {n:Nat} {A:Around} {v u:V} {d e:Dt} {rv ru:Value},Rp H F n v d->Rp H G n u e->RelV v rv->RelV u ru->A.units+n<cLine->SeqAt.EqAt A s rv ru (eqD d e):=by
  intro n;have sc:∀ {n m:Nat} {A:Around} {v u:V} {d e:Dt} {rv ru:Value},Rp H F n v d->Rp H G m u e->(EL d||CW d)=false->(EL e||CW e)=false->RelV v rv->RelV u ru->SeqAt.EqAt A s rv ru (eqD d e):=by
    intro n m A v u d e rv ru r r2 n1 n2 rr rr2;cases r with
    | non=>
      cases rr;cases r2 with
      | non=>
        cases rr2;simp only [eqD];exact (show SeqAt.EqAt A s Value.none Value.none true from SeqAt.EqAt.same _)
      | bl x2=>
        cases rr2;simp only [eqD];exact SeqAt.EqAt.none_bool _
      | int x2=>
        obtain ⟨t2,rfl⟩:=rr2;simp only [eqD];exact SeqAt.EqAt.none_int _ _
      | str x2=>
        obtain ⟨t2,rfl⟩:=rr2;simp only [eqD];exact SeqAt.EqAt.none_str _ _
      | lst _ _ _ _ _=>cases n2
      | tup _ _ _ _=>cases n2
    | bl x1=>
      cases rr;cases r2 with
      | non=>
        cases rr2;simp only [eqD];exact SeqAt.EqAt.bool_none _
      | bl x2=>
        cases rr2;simp only [eqD];exact SeqAt.EqAt.bool_bool _ _
      | int x2=>
        obtain ⟨t2,rfl⟩:=rr2;simp only [eqD];exact SeqAt.EqAt.bool_int _ _ _
      | str x2=>
        obtain ⟨t2,rfl⟩:=rr2;simp only [eqD];exact SeqAt.EqAt.bool_str _ _ _
      | lst _ _ _ _ _=>cases n2
      | tup _ _ _ _=>cases n2
    | int x1=>
      obtain ⟨t1,rfl⟩:=rr;cases r2 with
      | non=>
        cases rr2;simp only [eqD];exact SeqAt.EqAt.int_none _ _
      | bl x2=>
        cases rr2;simp only [eqD];exact SeqAt.EqAt.int_bool _ _ _
      | int x2=>
        obtain ⟨t2,rfl⟩:=rr2;simp only [eqD];exact SeqAt.EqAt.int_int _ _ _ _
      | str x2=>
        obtain ⟨t2,rfl⟩:=rr2;simp only [eqD];exact SeqAt.EqAt.int_str _ _ _ _
      | lst _ _ _ _ _=>cases n2
      | tup _ _ _ _=>cases n2
    | str x1=>
      obtain ⟨t1,rfl⟩:=rr;cases r2 with
      | non=>
        cases rr2;simp only [eqD];exact SeqAt.EqAt.str_none _ _
      | bl x2=>
        cases rr2;simp only [eqD];exact SeqAt.EqAt.str_bool _ _ _
      | int x2=>
        obtain ⟨t2,rfl⟩:=rr2;simp only [eqD];exact SeqAt.EqAt.str_int _ _ _ _
      | str x2=>
        obtain ⟨t2,rfl⟩:=rr2;simp only [eqD];exact SeqAt.EqAt.str_str _ _ _ _
      | lst _ _ _ _ _=>cases n2
      | tup _ _ _ _=>cases n2
    | lst _ _ _ _ _=>cases n1
    | tup _ _ _ _=>cases n1
  induction n with
  | zero=>
    intro A v u d e rv ru r r2 rr rr2 hu;exact sc r r2 (by cases r <;> rfl) (by cases r2 <;> rfl) rr rr2
  | succ n ih=>
    intro A v u d e rv ru r r2 rr rr2 hu;have hu':A.units<cLine:=by omega
    cases h1:(EL d||CW d) with
    | false=>
      cases h2:(EL e||CW e) with
      | false=>exact sc r r2 h1 h2 rr rr2
      | true=>
        cases r2 with
        | @lst _ b ys es q2 f2 b2 l2 el2=>
          obtain rfl:ru=Value.ref b:=rr2;obtain ⟨its2,rv2,pl2,_⟩:=I.list (SqL.of q2);cases r with
          | non=>cases rr;simp only [eqD];exact SeqAt.EqAt.none_list pl2.isList hu'
          | bl x1=>cases rr;simp only [eqD];exact SeqAt.EqAt.bool_list _ pl2.isList hu'
          | int x1=>obtain ⟨t,rfl⟩:=rr;simp only [eqD];exact SeqAt.EqAt.int_list _ _ pl2.isList hu'
          | str x1=>obtain ⟨t,rfl⟩:=rr;simp only [eqD];exact SeqAt.EqAt.str_list _ _ pl2.isList hu'
          | lst _ _ _ _ _=>cases h1
          | tup _ _ _ _=>cases h1
        | @tup _ b ys es q2 b2 l2 el2=>
          obtain rfl:ru=Value.ref b:=rr2;obtain ⟨its2,rv2,pl2,_⟩:=I.tuple (SqT.of q2);have pl2:s.heap.IsTuple b its2.toArray:=pl2;cases r with
          | non=>cases rr;simp only [eqD];exact SeqAt.EqAt.none_tuple pl2 hu'
          | bl x1=>cases rr;simp only [eqD];exact SeqAt.EqAt.bool_tuple _ pl2 hu'
          | int x1=>obtain ⟨t,rfl⟩:=rr;simp only [eqD];exact SeqAt.EqAt.int_tuple _ _ pl2 hu'
          | str x1=>obtain ⟨t,rfl⟩:=rr;simp only [eqD];exact SeqAt.EqAt.str_tuple _ _ pl2 hu'
          | lst _ _ _ _ _=>cases h1
          | tup _ _ _ _=>cases h1
        | _=>cases h2
    | true=>
      cases r with
      | @lst _ a xs ds q1 f1 b1 l1 el1=>
        obtain rfl:rv=Value.ref a:=rr;obtain ⟨its,rv1,pl,_⟩:=I.list (SqL.of q1);have k1:=rv1.length;cases r2 with
        | @lst _ b ys es q2 f2 b2 l2 el2=>
          obtain rfl:ru=Value.ref b:=rr2;obtain ⟨its2,rv2,pl2,_⟩:=I.list (SqL.of q2);have k2:=rv2.length;by_cases hab:a=b
          · subst hab;have e:=(Rp.lst (n:=n) q1 f1 b1 l1 el1).inj (Rp.lst (n:=n) q2 f2 b2 l2 el2);rw [e,CD];exact SeqAt.EqAt.same _
          · refine SeqAt.EqAt.of_refs hab ?_;simp only [eqD];by_cases hl:ds.length=es.length
            · rw [C9 hl];have q:=SeqAt.RcAt.lists (A:=A) (e:=λ i=>eqD (ds.getD i .non) (es.getD i .non)) pl.isList pl2.isList (by simp;omega) hu' (Fv rv1 rv2 l1 l2 el1 el2 λ r r2 rr rr2=>ih r r2 rr rr2 (by rw [C4];omega));rw [show its.toArray.size=ds.length by simp;omega] at q;exact q
            · rw [Dc hl];exact SeqAt.RcAt.lists_lengths pl.isList pl2.isList (by simp;omega) hu'
        | @tup _ b ys es q2 b2 l2 el2=>
          obtain rfl:ru=Value.ref b:=rr2;obtain ⟨its2,rv2,pl2,_⟩:=I.tuple (SqT.of q2);simp only [eqD];exact SeqAt.EqAt.list_tuple pl.isList (show s.heap.IsTuple b its2.toArray from pl2) hu'
        | non=>cases rr2;simp only [eqD];exact SeqAt.EqAt.list_none pl.isList hu'
        | bl x1=>cases rr2;simp only [eqD];exact SeqAt.EqAt.list_bool _ pl.isList hu'
        | int x1=>obtain ⟨t,rfl⟩:=rr2;simp only [eqD];exact SeqAt.EqAt.list_int _ _ pl.isList hu'
        | str x1=>obtain ⟨t,rfl⟩:=rr2;simp only [eqD];exact SeqAt.EqAt.list_str _ _ pl.isList hu'
      | @tup _ a xs ds q1 b1 l1 el1=>
        obtain rfl:rv=Value.ref a:=rr;obtain ⟨its,rv1,pl,_⟩:=I.tuple (SqT.of q1);have pl:s.heap.IsTuple a its.toArray:=pl;have k1:=rv1.length;cases r2 with
        | @tup _ b ys es q2 b2 l2 el2=>
          obtain rfl:ru=Value.ref b:=rr2;obtain ⟨its2,rv2,pl2,_⟩:=I.tuple (SqT.of q2);have pl2:s.heap.IsTuple b its2.toArray:=pl2;have k2:=rv2.length;by_cases hab:a=b
          · subst hab;have e:=(Rp.tup (n:=n) (F:=F) q1 b1 l1 el1).inj (Rp.tup (n:=n) (F:=G) q2 b2 l2 el2);rw [e,CD];exact SeqAt.EqAt.same _
          · refine SeqAt.EqAt.of_refs hab ?_;simp only [eqD];have q:=SeqAt.RcAt.tuples (A:=A) (e:=λ i=>eqD (ds.getD i .non) (es.getD i .non)) pl pl2 hu' (Fv rv1 rv2 l1 l2 el1 el2 λ r r2 rr rr2=>ih r r2 rr rr2 (by rw [C4];omega));have e1:its.toArray.size=ds.length:=by simp;omega
            have e2:its2.toArray.size=es.length:=by simp;omega
            rw [e1,e2] at q;by_cases hl:ds.length=es.length
            · rw [C9 hl];rw [<-hl,Nat.min_self,beq_self_eq_true,Bool.and_true] at q;exact q
            · rw [Dc hl];rw [beq_eq_false_iff_ne.mpr hl,Bool.and_false] at q;exact q
        | @lst _ b ys es q2 f2 b2 l2 el2=>
          obtain rfl:ru=Value.ref b:=rr2;obtain ⟨its2,rv2,pl2,_⟩:=I.list (SqL.of q2);simp only [eqD];exact SeqAt.EqAt.tuple_list pl pl2.isList hu'
        | non=>cases rr2;simp only [eqD];exact SeqAt.EqAt.tuple_none pl hu'
        | bl x1=>cases rr2;simp only [eqD];exact SeqAt.EqAt.tuple_bool _ pl hu'
        | int x1=>obtain ⟨t,rfl⟩:=rr2;simp only [eqD];exact SeqAt.EqAt.tuple_int _ _ pl hu'
        | str x1=>obtain ⟨t,rfl⟩:=rr2;simp only [eqD];exact SeqAt.EqAt.tuple_str _ _ pl hu'
      | _=>cases h1
def Vj (neg:Bool):R2:=λ x y H Q=>∃ (n:Nat) (d e:Dt),n<=30/\Rp H FT n x d/\Rp H FT n y e/\(EL d&&EL e||CW d&&CW e)=true/\Q (.bl (if neg then !eqD d e else eqD d e)) H
theorem P8 (hu:X.A.units+64<cLine):OpR X (compareOp .Eq) (Vj false):=by
  intro pins s σ H x y v u Q I rx ry h;obtain ⟨n,d,e,hn,r,r2,hs,q⟩:=h;cases r with
  | @lst m a xs ds q1 f1 b1 l1 el1=>
    cases r2 with
    | @lst _ b ys es q2 f2 b2 l2 el2=>
      obtain rfl:v=Value.ref a:=rx;obtain rfl:u=Value.ref b:=ry;obtain ⟨its,rv1,pl,_⟩:=I.list (SqL.of q1);obtain ⟨its2,rv2,pl2,_⟩:=I.list (SqL.of q2);have k1:=rv1.length;have k2:=rv2.length;have q:Q (.bl (Fh ds es)) H:=by
        have q:=q;unfold eqD at q;exact q
      by_cases hl:ds.length=es.length
      · refine SeqAt.eq_listAt (e:=λ i=>eqD (ds.getD i .non) (es.getD i .non)) pl.isList pl2.isList (by simp;omega) (by omega) (Fv rv1 rv2 l1 l2 el1 el2 λ r r2 rr rr2=>Ku I r r2 rr rr2 (by rw [C4];omega)) ⟨.bl _,H,I,rfl,?_⟩;rw [show its.toArray.size=ds.length by simp;omega, <-C9 hl];exact q
      · refine SeqAt.eq_list_lengthsAt pl.isList pl2.isList (by simp;omega) (by omega) ⟨.bl _,H,I,rfl,?_⟩;rw [<-Dc hl];exact q
    | _=>cases hs
  | @tup m a xs ds q1 b1 l1 el1=>
    cases r2 with
    | @tup _ b ys es q2 b2 l2 el2=>
      obtain rfl:v=Value.ref a:=rx;obtain rfl:u=Value.ref b:=ry;obtain ⟨its,rv1,pl,_⟩:=I.tuple (SqT.of q1);obtain ⟨its2,rv2,pl2,_⟩:=I.tuple (SqT.of q2);have k1:=rv1.length;have k2:=rv2.length;have q:Q (.bl (Fh ds es)) H:=by
        have q:=q;unfold eqD at q;exact q
      refine SeqAt.eq_tupleAt (e:=λ i=>eqD (ds.getD i .non) (es.getD i .non)) (show s.heap.IsTuple a its.toArray from pl) (show s.heap.IsTuple b its2.toArray from pl2) (by omega) (Fv rv1 rv2 l1 l2 el1 el2 λ r r2 rr rr2=>Ku I r r2 rr rr2 (by rw [C4];omega)) ⟨.bl _,H,I,rfl,?_⟩;have e1:its.toArray.size=ds.length:=by simp;omega
      have e2:its2.toArray.size=es.length:=by simp;omega
      rw [e1,e2];by_cases hl:ds.length=es.length
      · rw [<-hl,Nat.min_self,beq_self_eq_true,Bool.and_true, <-C9 hl];exact q
      · rw [beq_eq_false_iff_ne.mpr hl,Bool.and_false, <-Dc hl];exact q
    | _=>cases hs
  | _=>cases hs
theorem Mg (hu:X.A.units+64<cLine):OpR X (compareOp .NotEq) (Vj true):=by
  intro pins s σ H x y v u Q I rx ry h;obtain ⟨n,d,e,hn,r,r2,hs,q⟩:=h;cases r with
  | @lst m a xs ds q1 f1 b1 l1 el1=>
    cases r2 with
    | @lst _ b ys es q2 f2 b2 l2 el2=>
      obtain rfl:v=Value.ref a:=rx;obtain rfl:u=Value.ref b:=ry;obtain ⟨its,rv1,pl,_⟩:=I.list (SqL.of q1);obtain ⟨its2,rv2,pl2,_⟩:=I.list (SqL.of q2);have k1:=rv1.length;have k2:=rv2.length;have q:Q (.bl (!Fh ds es)) H:=by
        have q:=q;unfold eqD at q;exact q
      by_cases hl:ds.length=es.length
      · refine SeqAt.RcNeAt.lists (e:=λ i=>eqD (ds.getD i .non) (es.getD i .non)) pl.isList pl2.isList (by simp;omega) (by omega) (Fv rv1 rv2 l1 l2 el1 el2 λ r r2 rr rr2=>Ku I r r2 rr rr2 (by rw [C4];omega)) _ _ _ _ ⟨.bl _,H,I,rfl,?_⟩;rw [show its.toArray.size=ds.length by simp;omega, <-C9 hl];exact q
      · refine SeqAt.RcNeAt.lists_lengths pl.isList pl2.isList (by simp;omega) (by omega) _ _ _ _ ⟨.bl _,H,I,rfl,?_⟩;rw [Dc hl] at q;exact q
    | _=>cases hs
  | @tup m a xs ds q1 b1 l1 el1=>
    cases r2 with
    | @tup _ b ys es q2 b2 l2 el2=>
      obtain rfl:v=Value.ref a:=rx;obtain rfl:u=Value.ref b:=ry;obtain ⟨its,rv1,pl,_⟩:=I.tuple (SqT.of q1);obtain ⟨its2,rv2,pl2,_⟩:=I.tuple (SqT.of q2);have k1:=rv1.length;have k2:=rv2.length;have q:Q (.bl (!Fh ds es)) H:=by
        have q:=q;unfold eqD at q;exact q
      refine SeqAt.RcNeAt.tuples (e:=λ i=>eqD (ds.getD i .non) (es.getD i .non)) (show s.heap.IsTuple a its.toArray from pl) (show s.heap.IsTuple b its2.toArray from pl2) (by omega) (Fv rv1 rv2 l1 l2 el1 el2 λ r r2 rr rr2=>Ku I r r2 rr rr2 (by rw [C4];omega)) _ _ _ _ ⟨.bl _,H,I,rfl,?_⟩;have e1:its.toArray.size=ds.length:=by simp;omega
      have e2:its2.toArray.size=es.length:=by simp;omega
      rw [e1,e2];by_cases hl:ds.length=es.length
      · rw [<-hl,Nat.min_self,beq_self_eq_true,Bool.and_true, <-C9 hl];exact q
      · rw [beq_eq_false_iff_ne.mpr hl,Bool.and_false, <-Dc hl];exact q
    | _=>cases hs
  | _=>cases hs
end
end L2
namespace L2
open PySem PySem.Spec PyProof.Rows
abbrev dN (n:Nat):Dt:= .int (n:Nat)
def dL (ns:List Nat):Dt:= .lst (ns.map dN)
def dT (ns:List Nat):Dt:= .tup (ns.map dN)
def dS (zs:List Str):Dt:= .lst (zs.map .str)
def dST (zs:List Str):Dt:= .tup (zs.map .str)
def dLL (ls:List (List Nat)):Dt:= .lst (ls.map dL)
def dTT (ls:List (List Nat)):Dt:= .tup (ls.map dT)
section
variable {H:Hp} {F:Addr->Prop} {n:Nat} {v:V}
theorem Gf {α:Type} {f:α->V} {g:α->Dt} (uniq:∀ (a:α) (v:V),Rp H F n v (g a)->v=f a) {vs:List V} {as:List α} (l:vs.length=(as.map g).length)
    (e:∀ (i:Nat) (v:V) (d:Dt),vs[i]?=some v->(as.map g)[i]?=some d->Rp H F n v d):vs=as.map f:=by
  refine Af6 (by simpa using l) λ i h1 h2=> ?_;have h3:i<as.length:=by simpa using h2
  rw [List.getElem_map];exact uniq _ _ (e i vs[i] (g as[i]) (by simp [h1]) (by simp [h3]))
theorem PV (a:Nat) (v:V) (r:Rp H F n v (dN a)):v=nV a:=by cases r;rfl
theorem Pm (a:Str) (v:V) (r:Rp H F n v (.str a)):v= .str a:=by cases r;rfl
theorem IC {ns:List Nat} (r:Rp H F n v (dL ns)):∃ a,v= .ref a/\H a=some (.lst (ns.map nV))/\F a/\ns.length<=100000:=by
  unfold dL at r;cases r with
  | @lst m a vs _ h f b l e=>
    have q:=Gf (f:=nV) (λ a v r=>PV a v r) l e;subst q;exact ⟨a,rfl,h,f,by simpa using b⟩
theorem Dq {ns:List Nat} (r:Rp H F n v (dT ns)):∃ a,v= .ref a/\H a=some (.tup (ns.map nV))/\ns.length<=100000:=by
  unfold dT at r;cases r with
  | @tup m a vs _ h b l e=>
    have q:=Gf (f:=nV) (λ a v r=>PV a v r) l e;subst q;exact ⟨a,rfl,h,by simpa using b⟩
theorem LE {zs:List Str} (r:Rp H F n v (dS zs)):∃ a,v= .ref a/\H a=some (.lst (zs.map V.str))/\F a/\zs.length<=100000:=by
  unfold dS at r;cases r with
  | @lst m a vs _ h f b l e=>
    have q:=Gf (f:=V.str) (λ a v r=>Pm a v r) l e;subst q;exact ⟨a,rfl,h,f,by simpa using b⟩
theorem EC {zs:List Str} (r:Rp H F n v (dST zs)):∃ a,v= .ref a/\H a=some (.tup (zs.map V.str))/\zs.length<=100000:=by
  unfold dST at r;cases r with
  | @tup m a vs _ h b l e=>
    have q:=Gf (f:=V.str) (λ a v r=>Pm a v r) l e;subst q;exact ⟨a,rfl,h,by simpa using b⟩
theorem K8 {α:Type} {f:α->V} {g:α->Dt} {as:List α} (k:∀ a∈as,Rp H F n (f a) (g a)):∀ (i:Nat) (v:V) (d:Dt),(as.map f)[i]?=some v->(as.map g)[i]?=some d->Rp H F n v d:=by
  intro i v d h1 h2;rw [Ad6] at h1 h2;cases e:as[i]? with
  | none=>rw [e] at h1;cases h1
  | some a=>
    rw [e] at h1 h2;cases h1;cases h2;exact k a (Af8 e)
theorem Gu {a:Addr} {ns:List Nat} (h:H a=some (.lst (ns.map nV))) (f:F a) (b:ns.length<=100000):Rp H F (n+1) (.ref a) (dL ns):= .lst h f (by simpa using b) (by simp) (K8 λ k _=> .int _)
theorem Rw {a:Addr} {ns:List Nat} (h:H a=some (.tup (ns.map nV))) (b:ns.length<=100000):Rp H F (n+1) (.ref a) (dT ns):= .tup h (by simpa using b) (by simp) (K8 λ k _=> .int _)
theorem OG {a:Addr} {zs:List Str} (h:H a=some (.lst (zs.map V.str))) (f:F a) (b:zs.length<=100000):Rp H F (n+1) (.ref a) (dS zs):= .lst h f (by simpa using b) (by simp) (K8 λ k _=> .str _)
theorem PN {a:Addr} {zs:List Str} (h:H a=some (.tup (zs.map V.str))) (b:zs.length<=100000):Rp H F (n+1) (.ref a) (dST zs):= .tup h (by simpa using b) (by simp) (K8 λ k _=> .str _)
theorem GO {ds:List Dt} (r:Rp H F n v (.lst ds)):∃ m a vs,n=m+1/\v= .ref a/\H a=some (.lst vs)/\F a/\vs.length=ds.length/\vs.length<=100000/\∀ i,i<ds.length->Rp H F m (vs.getD i .non) (ds.getD i .non):=by
  cases r with
  | @lst m a vs _ h f b l e=>
    refine ⟨m,a,vs,rfl,rfl,h,f,l,b,λ i hi=>e i _ _ ?_ ?_⟩
    · rw [Aa3,Aa4 (by omega)];rfl
    · rw [Aa3,Aa4 hi];rfl
theorem GJ {ds:List Dt} (r:Rp H F n v (.tup ds)):∃ m a vs,n=m+1/\v= .ref a/\H a=some (.tup vs)/\vs.length=ds.length/\vs.length<=100000/\∀ i,i<ds.length->Rp H F m (vs.getD i .non) (ds.getD i .non):=by
  cases r with
  | @tup m a vs _ h b l e=>
    refine ⟨m,a,vs,rfl,rfl,h,l,b,λ i hi=>e i _ _ ?_ ?_⟩
    · rw [Aa3,Aa4 (by omega)];rfl
    · rw [Aa3,Aa4 hi];rfl
theorem AX {α β:Type} (f:α->β) (as:List α) (i:Nat) (x:β) (y:α) (h:i<as.length):(as.map f).getD i x=f (as.getD i y):=by simp [Aa3,h]
theorem IH {zs:List Str} {i:Nat} (h:i<(zs.map V.str).length):(zs.map V.str).getD i .non= .str (zs.getD i Str.empty):=AX V.str zs i .non Str.empty (by simpa using h)
theorem getD_mem {α:Type} {as:List α} {i:Nat} {y:α} (h:i<as.length):as.getD i y∈as:=by
  rw [Aa3,Aa4 h];exact List.getElem_mem h
theorem Ef {α β:Type} (f:α->β) (as:List α) (y:α):(Aa9 as.length).map (λ i=>f (as.getD i y))=as.map f:=AV f as y
end
theorem Rp.ins {H:Hp} {F:Addr->Prop} {n:Nat} {v:V} {d:Dt} {x C dx:Addr} {fs:List (Str × V)} {o:HO} (r:Rp H F n v d) (h:H x=some (.ins C dx fs)):Rp (L2.upd H x o) F n v d:=by
  induction r with
  | non=>exact .non
  | bl b=>exact .bl b
  | int i=>exact .int i
  | str z=>exact .str z
  | @lst n a vs ds q f b l e ih=>
    refine .lst ?_ f b l ih;rw [Ak (Cg q h (by intro z;cases z))];exact q
  | @tup n a vs ds q b l e ih=>
    refine .tup ?_ b l ih;rw [Ak (Cg q h (by intro z;cases z))];exact q
def But (x:Addr) (H H':Hp):Prop:=∀ b o,H b=some o->b≠x->H' b=some o
theorem But.same {x:Addr} {H H1 H2:Hp} (b:But x H H1) (s:Same H1 H2):But x H H2:=λ a o e n=>s _ _ (b a o e n)
theorem But.of {x:Addr} {H H1:Hp} (s:Same H H1):But x H H1:=λ a o e _=>s _ _ e
theorem But.put {x:Addr} {H H1:Hp} {o:HO} (b:But x H H1):But x H (upd H1 x o):=λ a u e n=>by rw [Ak n];exact b a u e n
theorem But.rp {x:Addr} {H H':Hp} {F:Addr->Prop} {n:Nat} {v:V} {d:Dt} {C dx:Addr} {fs:List (Str × V)} (k:But x H H') (h:H x=some (.ins C dx fs)) (r:Rp H F n v d):Rp H' F n v d:=by
  induction r with
  | non=>exact .non
  | bl b=>exact .bl b
  | int i=>exact .int i
  | str z=>exact .str z
  | @lst n a vs ds q f b l e ih=>exact .lst (k _ _ q (Cg q h (by intro z;cases z))) f b l ih
  | @tup n a vs ds q b l e ih=>exact .tup (k _ _ q (Cg q h (by intro z;cases z))) b l ih
theorem Rp.tupd {H:Hp} {F:Addr->Prop} {n:Nat} {D t:Addr} {ds:List Dt} {ys:List V} (r:Rp H F (n+1) (.ref D) (.lst ds)) (hl:H D=some (.lst ys)) (ht:H t=none):Rp (L2.upd H t (.tup ys)) F (n+1) (.ref t) (.tup ds):=by
  cases r with
  | @lst _ _ vs _ q f b l ee=>
    rw [hl] at q;cases q;exact .tup Ae b l λ i v e h1 h2=>(ee i v e h1 h2).new ht
theorem RQ (ls:List (List Nat)):(Aa9 ls.length).map (λ i=>dT (ls.getD i []))=ls.map dT:=AV dT ls []
theorem Pp (ls:List (List Nat)):(Aa9 ls.length).map (λ i=>dL (ls.getD i []))=ls.map dL:=AV dL ls []
section
variable {H:Hp} {a:Addr} {kvs:List (Key × V)}
end
theorem LU {xs:List V} {k:Int} (h:0<=k):DR xs (some k) none=xs.drop k.toNat:=by
  unfold DR;have e2:HT.sIx xs.length xs.length none=xs.length:=rfl;rw [e2];have e1:HT.sIx xs.length 0 (some k)=min k.toNat xs.length:=by
    unfold HT.sIx;simp only;split <;> omega
  rw [e1];by_cases q:k.toNat<=xs.length
  · rw [Nat.min_eq_left q,Af0 (by simp)]
  · rw [Nat.min_eq_right (by omega),List.drop_of_length_le (Aa7 _),List.drop_of_length_le (by omega)];simp
theorem DP {xs:List V} {k:Int} (h:0<=k):DR xs none (some k)=xs.take k.toNat:=by
  unfold DR;have e2:HT.sIx xs.length 0 none=0:=rfl;rw [e2,List.drop_zero];have e1:HT.sIx xs.length xs.length (some k)=min k.toNat xs.length:=by
    unfold HT.sIx;simp only;split <;> omega
  rw [e1,Nat.sub_zero];by_cases q:k.toNat<=xs.length
  · rw [Nat.min_eq_left q]
  · rw [Nat.min_eq_right (by omega),Af0 (Aa7 _),Af0 (by omega)]
section
variable {K:PySem.W.Frag} {wi:TI} {own:List Str} {fr:List (Str × Nat)} {g:TG} {tc:TT} {te tl:TE} {tb:TS} {D:Ends} {σ:St} {H:Hp} {Q:VK} {R:It->Hp->Prop} {ta:TA}
theorem Qz (h:wi σ H λ J H1=>∀ D,H1 D=none->FM J (Gc own fr σ) g tc te Q H1 D):Kq wi own fr g tc te σ H Q:=h
theorem Sm (h:wi σ H λ J H1=>∃ W:Nat->Nat->St->Hp->Prop,(∃ m,W 0 m σ H1)/\∀ i m σ H,W i m σ H->
  (J.stop i H/\D.nx σ H)\/(J.go i H/\∃ N:St->Hp->Prop,(∀ σ' H',N σ' H'->∃ m',m'<m/\W (i+1) m' σ' H')/\∀ x H',J.yld i H x H'->g x σ H' λ σ2 H2=>tb { D with nx:=N,ct:=N,bk:=D.nx } σ2 H2)):W7 wi g tb D σ H:=h
theorem Vi (h:tl σ H λ x H1=>∃ a,x= .ref a/\(∃ xs,SqL K H1 a xs)/\R (Itl K a) H1):PM K tl σ H R:=h
theorem WQ (h:tl σ H λ x H1=>∃ a,x= .ref a/\(∃ xs,SqT K H1 a xs)/\R (Itt K a) H1):Sk K tl σ H R:=h
theorem YJ (h:tl σ H λ x H1=>∃ tp a,x= .ref a/\(∃ xs,SqS tp K H1 a xs)/\R (Isq tp K a) H1):iSq K tl σ H R:=h
theorem Ys (h:ta σ H λ vs H1=>∃ a,vs=[.ref a]/\(∃ xs,SqL K H1 a xs)/\R (Ite K a) H1):Sh K ta σ H R:=h
theorem Vv (h:ta σ H λ vs H1=>∃ tp a,vs=[.ref a]/\(∃ xs,SqS tp K H1 a xs)/\R (PK tp K a) H1):Qd K ta σ H R:=h
theorem W4 (h:ta σ H λ vs H1=>∃ t1 t2 a b,vs=[.ref a, .ref b]/\(∃ xs,SqS t1 K H1 a xs)/\(∃ ys,SqS t2 K H1 b ys)/\R (Izs t1 t2 K a b) H1):iZs K ta σ H R:=h
theorem Vr (h:ta σ H λ vs H1=>∃ j:Int,vs=[.int j]/\ -(2 ^ 62)<=j/\j<2 ^ 62/\R (Itr 0 j.toNat) H1):Si ta σ H R:=h
theorem Wu (h:ta σ H λ vs H1=>∃ i j:Int,vs=[.int i, .int j]/\(-(2 ^ 62)<=i/\i<2 ^ 62/\ -(2 ^ 62)<=j/\j<2 ^ 62)/\R (Itr i (j - i).toNat) H1):Sg ta σ H R:=h
theorem Wj (h:ta σ H λ vs H1=>∃ i j c:Int,vs=[.int i, .int j, .int c]/\(-(2 ^ 40)<=i/\i<2 ^ 40)/\(-(2 ^ 40)<=j/\j<2 ^ 40)/\(-(2 ^ 20)<=c/\c<2 ^ 20)/\c≠0/\R (Itc i c (Builtin.Range.rangeSize i j c).toNat) H1):Sb ta σ H R:=h
end
theorem PR {t:TG} {u:TGs} {v:V} {vs:List V} {σ:St} {H:Hp} {QS:St->Hp->Prop} (k:t v σ H λ σ' H'=>u vs σ' H' QS):Cc t u (v::vs) σ H QS:=⟨v,vs,rfl,k⟩
theorem QF {σ:St} {H:Hp} {QS:St->Hp->Prop} (k:QS σ H):Jm [] σ H QS:=⟨rfl,k⟩
theorem Lg {J:It} {g:TG} {H0 H:Hp} {n:Nat} {set:Nat->St->St} {tb:TS} {D:Ends} {σ:St} (S:FSrc J g H0 n set) (Pv:Nat->St->Hp->Prop) (h0:Pv 0 σ H) (hk:∀ i σ H',Pv i σ H'->Same H0 H')
    (hs:∀ i σ H' H3,i<n->Pv i σ H'->Same H' H3->tb { D with nx:=Pv (i+1),ct:=Pv (i+1),bk:=D.nx } (set i σ) H3) (hd:∀ σ H',Pv n σ H'->D.nx σ H'):
    ∃ W:Nat->Nat->St->Hp->Prop,(∃ m,W 0 m σ H)/\∀ i m σ H,W i m σ H->
      (J.stop i H/\D.nx σ H)\/(J.go i H/\∃ N:St->Hp->Prop,(∀ σ' H',N σ' H'->∃ m',m'<m/\W (i+1) m' σ' H')/\∀ x H',J.yld i H x H'->g x σ H' λ σ2 H2=>tb { D with nx:=N,ct:=N,bk:=D.nx } σ2 H2):=by
  refine ⟨λ i m σ H'=>m=n - i/\i<=n/\Pv i σ H',⟨n,by simp,Nat.zero_le _,h0⟩,?_⟩;rintro i m σ H1 ⟨rfl,hi,p⟩;by_cases hlt:i<n
  · exact .inr ⟨S.go i H1 hlt (hk _ _ _ p),Pv (i+1),λ σ' H' p'=>⟨n - (i+1),by omega,rfl,hlt,p'⟩,λ x H' y=>S.yld i σ H1 x H' _ hlt (hk _ _ _ p) y λ H3 s3=>hs i σ H1 H3 hlt p s3⟩
  · have e:i=n:=by omega
    subst e;exact .inl ⟨S.stop H1 (hk _ _ _ p),hd σ H1 p⟩
theorem Kl {H:Hp} {i1 n:Nat}:FSrc (Itr 0 n) (AO i1) H n (λ i σ=>σ.set i1 (some (.int (i:Nat)))):=by
  have:=Qc (H:=H) (i1:=i1) (lo:=0) (n:=n);simpa using this
theorem Jh {n:Nat} {σ0:St} {H:Hp} (h0:σ0[0]?=some none):SrcOk (Itr 0 n) (AO 0) σ0 H n (λ i=>σ0.set 0 (some (.int (i:Nat)))):=by
  have:=GX (H:=H) (lo:=0) (n:=n) h0;simpa using this
theorem bV {H:Hp} {F:Addr->Prop} {n:Nat} {a:Addr} {x y:V} {d e:Dt} (h:H a=some (.lst [x,y])) (f:F a) (r1:Rp H F n x d) (r2:Rp H F n y e):Rp H F (n+1) (.ref a) (.lst [d,e]):=by
  refine .lst h f (by simp) rfl λ i v u h1 h2=> ?_
  match i with
  | 0=>cases h1;cases h2;exact r1
  | 1=>cases h1;cases h2;exact r2
  | i+2=>cases h1
theorem K4 {H:Hp} {F:Addr->Prop} {n:Nat} {a:Addr} {x y:V} {d e:Dt} (h:H a=some (.tup [x,y])) (r1:Rp H F n x d) (r2:Rp H F n y e):Rp H F (n+1) (.ref a) (.tup [d,e]):=by
  refine .tup h (by simp) rfl λ i v u h1 h2=> ?_
  match i with
  | 0=>cases h1;cases h2;exact r1
  | 1=>cases h1;cases h2;exact r2
  | i+2=>cases h1
theorem Ou {A B:Prop} (h:B):if (!true)=true then A else B:=by simpa using h
theorem Vh {A B:Prop} (h:A):if (!false)=true then A else B:=by simpa using h
theorem KB {H:Hp} {F:Addr->Prop} {n:Nat} {a:Addr} {v0 v1 v2 v3 v4 v5 v6:V} {d0 d1 d2 d3 d4 d5 d6:Dt} (h:H a=some (.tup [v0,v1,v2,v3,v4,v5,v6])) (r0:Rp H F n v0 d0) (r1:Rp H F n v1 d1) (r2:Rp H F n v2 d2) (r3:Rp H F n v3 d3) (r4:Rp H F n v4 d4) (r5:Rp H F n v5 d5) (r6:Rp H F n v6 d6):
    Rp H F (n+1) (.ref a) (.tup [d0,d1,d2,d3,d4,d5,d6]):=by
  refine .tup h (by simp) rfl λ i v u h1 h2=> ?_
  match i with
  | 0=>cases h1;cases h2;exact r0
  | 1=>cases h1;cases h2;exact r1
  | 2=>cases h1;cases h2;exact r2
  | 3=>cases h1;cases h2;exact r3
  | 4=>cases h1;cases h2;exact r4
  | 5=>cases h1;cases h2;exact r5
  | 6=>cases h1;cases h2;exact r6
  | i+7=>cases h1
theorem Dj {α:Type} {xs:List α} {n:Nat} (h:xs.length=n+1):∃ x ys,xs=x::ys/\ys.length=n:=by
  cases xs with
  | nil=>cases h
  | cons x ys=>exact ⟨x,ys,rfl,Nat.succ.inj h⟩
theorem MZ {H:Hp} {F:Addr->Prop} {n:Nat} {v:V} {d0 d1 d2 d3 d4 d5 d6:Dt} (r:Rp H F n v (.tup [d0,d1,d2,d3,d4,d5,d6])):∃ m a v0 v1 v2 v3 v4 v5 v6,n=m+1/\v= .ref a/\H a=some (.tup [v0,v1,v2,v3,v4,v5,v6])/\
    Rp H F m v0 d0/\Rp H F m v1 d1/\Rp H F m v2 d2/\Rp H F m v3 d3/\Rp H F m v4 d4/\Rp H F m v5 d5/\Rp H F m v6 d6:=by
  cases r with
  | @tup m a vs _ h b l e=>
    replace l:vs.length=7:=l;obtain ⟨v0,w0,rfl,l0⟩:=Dj l;obtain ⟨v1,w1,rfl,l1⟩:=Dj l0;obtain ⟨v2,w2,rfl,l2⟩:=Dj l1;obtain ⟨v3,w3,rfl,l3⟩:=Dj l2;obtain ⟨v4,w4,rfl,l4⟩:=Dj l3;obtain ⟨v5,w5,rfl,l5⟩:=Dj l4;obtain ⟨v6,w6,rfl,l6⟩:=Dj l5;cases List.eq_nil_of_length_eq_zero l6;exact ⟨m,a,v0,v1,v2,v3,v4,v5,v6,rfl,rfl,h,e 0 _ _ rfl rfl,e 1 _ _ rfl rfl,e 2 _ _ rfl rfl,e 3 _ _ rfl rfl,e 4 _ _ rfl rfl,e 5 _ _ rfl rfl,e 6 _ _ rfl rfl⟩
theorem ifJ {c:TT} {t u:TS} {D:Ends} {σ:St} {H:Hp} (J:St->Hp->Prop) (h1:∀ σ' H',J σ' H'->D.nx σ' H') (h2:(∀ σ' H',J σ' H'->D.nx σ' H')->Rv c t u D σ H):Rv c t u D σ H:=h2 h1
theorem KZ {α:Type} (f:α->List Nat) (xs:List α):Dt.lst (xs.map λ x=>dL (f x))=dLL (xs.map f):=by unfold dLL;rw [Ae8];rfl
theorem SF {α:Type} (f:α->Nat) (xs:List α):Dt.lst (xs.map λ x=>dN (f x))=dL (xs.map f):=by unfold dL;rw [Ae8];rfl
theorem Py {α:Type} (f:α->Str) (xs:List α):Dt.lst (xs.map λ x=>Dt.str (f x))=dS (xs.map f):=by unfold dS;rw [Ae8];rfl
end L2
namespace L2
theorem MV {α:Type} {as:List α} {i:Nat} {y:α} (h:i<as.length):as.getD i y=as[i]:=by
  rw [Aa3,Aa4 h];rfl
end L2
namespace L2
open PySem PySem.Spec PyProof.Rows
def Ut (i j:Int):Prop:=0<j/\j<2 ^ 200
theorem N4 {j:Int} (h0:0<j) (h:j<2 ^ 200):j.natAbs.log2<9000:=by
  have h1:j.natAbs<2 ^ 200:=by omega
  have:=(Nat.log2_lt (show j.natAbs≠0 by omega)).mpr h1;omega
theorem By {X:Cx}:OpR X (binaryOp .FloorDiv) (rI Ut λ i j=> .int (i / j)):=opI λ i j _ _ _ _ _ hc q=>by
  rw [<-Int.fdiv_eq_ediv_of_nonneg i (by have:=hc.1;omega)] at q;exact floordiv_int (by have:=hc.1;omega) q (.inl (PyProof.noPylong_of_log2 (N4 hc.1 hc.2)))
section
variable {prog:Program} {w:World} {A:Around} {E:Value->Shared->Prop} {s:Shared} {T:String} {r d:Addr} {n:Nat} {P:Nat->Value->Prop} {St:Nat->Heap->Prop}
end
section
variable {prog:Program} {w:World} {A:Around} {E:Value->Shared->Prop} {s:Shared}
end
section
variable {X:Cx} {K:PySem.W.Frag} {e o:Expr} {ta:TA} {to:TE} {p p2 pos pos2 apos cpos:Pos}
end
section
variable {X:Cx} {K:PySem.W.Frag} {e o:Expr} {es:List Expr} {ta to:TE} {t:TA} {f name:Str} {pos apos cpos:Pos} {T id:String} {r:V->List V->Hp->VK->Prop}
theorem Au (he:PE X e ta) (hb:attributeBase e f X.env (eval e X.env)=eval e X.env) (hK:X.K=K:=by rfl):PE X (.Attribute e f pos) (Tt K ta f):=by
  subst hK;exact Ta he hb
theorem PP (pa:PlainAttrs T) (slot:Slot T name id) (hty:typeOf (.builtin id)=pure (.type "method_descriptor")) (hm:MtR X id r) (ho:PE X o to) (hK:X.K=K:=by rfl)
    (hbase:attributeBase o name X.env (eval o X.env)=eval o X.env:=by rfl) (hline:(apos.endLine == cpos.line)=true:=by rfl):PE X (.Call (.Attribute o name apos) [] [] cpos) (Tx K T r to):=by
  subst hK;exact Tf pa slot hty hm ho hbase hline
theorem J9 (pa:PlainAttrs T) (slot:Slot T name id) (hty:typeOf (.builtin id)=pure (.type "method_descriptor")) (hm:MtR X id r) (ho:PE X o to) (ha:PA X (e::es) t) (hK:X.K=K:=by rfl)
    (hbase:attributeBase o name X.env (eval o X.env)=eval o X.env:=by rfl)
    (hfew:((backTo cpos (starEach (e::es) X.env)).all (λ x=> !x.1)&&(backToKw cpos (keywordEach [] X.env)).all (λ x=>x.1.isSome)
      && decide ((e::es).length+([]:List Keyword).length+(if ([]:List Keyword).isEmpty then 0 else 1)<30))=true:=by rfl)
    (hline:(apos.endLine == cpos.line)=true:=by rfl) (hs:starEach (e::es) X.env=(false,eval e X.env)::starEach es X.env:=by rfl) (hplain:(backTo cpos (starEach es X.env)).any (·.1)=false:=by rfl):
    PE X (.Call (.Attribute o name apos) (e::es) [] cpos) (tBM K T r to t):=by
  subst hK;exact aB pa slot hty hm ho ha hbase hfew hline hs hplain
end
section
variable {prog:Program} {w:World} {A:Around} {E:Value->Shared->Prop} {s:Shared}
end
section
variable {X:Cx} {K:PySem.W.Frag} {e o:Expr} {ta:TA} {to:TE} {p p2 pos pos2 apos cpos:Pos}
end
section
variable {X:Cx} {k:Nat} {e o:Expr} {es:List Expr} {t:TA} {to:TE} {pos:Pos} {S:Addr->Sp->Prop}
end
theorem arg1 {α:Type} {P:List α->Prop} (h:∀ a0,P [a0]):∀ us:List α,us.length=1->P us:=λ us hl=>match us,hl with | [a0],_=>h a0
theorem arg2 {α:Type} {P:List α->Prop} (h:∀ a0 a1,P [a0,a1]):∀ us:List α,us.length=2->P us:=λ us hl=>match us,hl with | [a0,a1],_=>h a0 a1
theorem arg3 {α:Type} {P:List α->Prop} (h:∀ a0 a1 a2,P [a0,a1,a2]):∀ us:List α,us.length=3->P us:=λ us hl=>match us,hl with | [a0,a1,a2],_=>h a0 a1 a2
theorem arg4 {α:Type} {P:List α->Prop} (h:∀ a0 a1 a2 a3,P [a0,a1,a2,a3]):∀ us:List α,us.length=4->P us:=λ us hl=>match us,hl with | [a0,a1,a2,a3],_=>h a0 a1 a2 a3
theorem arg5 {α:Type} {P:List α->Prop} (h:∀ a0 a1 a2 a3 a4,P [a0,a1,a2,a3,a4]):∀ us:List α,us.length=5->P us:=λ us hl=>match us,hl with | [a0,a1,a2,a3,a4],_=>h a0 a1 a2 a3 a4
theorem arg6 {α:Type} {P:List α->Prop} (h:∀ a0 a1 a2 a3 a4 a5,P [a0,a1,a2,a3,a4,a5]):∀ us:List α,us.length=6->P us:=λ us hl=>match us,hl with | [a0,a1,a2,a3,a4,a5],_=>h a0 a1 a2 a3 a4 a5
theorem arg7 {α:Type} {P:List α->Prop} (h:∀ a0 a1 a2 a3 a4 a5 a6,P [a0,a1,a2,a3,a4,a5,a6]):∀ us:List α,us.length=7->P us:=λ us hl=>match us,hl with | [a0,a1,a2,a3,a4,a5,a6],_=>h a0 a1 a2 a3 a4 a5 a6
theorem arg8 {α:Type} {P:List α->Prop} (h:∀ a0 a1 a2 a3 a4 a5 a6 a7,P [a0,a1,a2,a3,a4,a5,a6,a7]):∀ us:List α,us.length=8->P us:=λ us hl=>match us,hl with | [a0,a1,a2,a3,a4,a5,a6,a7],_=>h a0 a1 a2 a3 a4 a5 a6 a7
theorem arg9 {α:Type} {P:List α->Prop} (h:∀ a0 a1 a2 a3 a4 a5 a6 a7 a8,P [a0,a1,a2,a3,a4,a5,a6,a7,a8]):∀ us:List α,us.length=9->P us:=λ us hl=>match us,hl with | [a0,a1,a2,a3,a4,a5,a6,a7,a8],_=>h a0 a1 a2 a3 a4 a5 a6 a7 a8
structure BlkScopeC (X:Cx) (scope:Scope) (cx:Str) (own:List Str) (fr:List (Str × Nat)):Prop where
  kind:scope.kind= .function
  onec:∀ y∈scope.names,y.2= .cell->y.1=cx
  isc:scope.names.lookup cx=some .cell
  lay:∀ n cl,cellsFrom n scope.names cl=(cx,n)::cl
  push:∀ h:Heap,pushCells h scope.names=h.push { cls:= .type "cell",data:= .cell none }
  loc:∀ y∈scope.names,y.2= .local->scope.names.lookup y.1=some .local
  free:∀ y∈scope.names,y.2= .free->(X.env.scope.names.lookup y.1=some .cell\/X.env.scope.names.lookup y.1=some .free)
  fr:∀ p∈fr,X.N[p.2]?=some p.1/\(p.1,NameKind.free)∈scope.names
  only:∀ x,(x,NameKind.free)∈scope.names->scope.names.lookup x=some .free
section
variable {X:Cx} {pins:List (Addr × Obj)} {σ:St} {H:Hp} {s:Shared} {scope:Scope} {cx:Str} {own:List Str} {fr:List (Str × Nat)} {fp:List Addr}
end
section
variable {X:Cx}
end
section
variable {X:Cx} {scope:Scope} {cx:Str} {own:List Str} {fr:List (Str × Nat)}
end
section
variable {X:Cx} {K:PySem.W.Frag} {scope:Scope} {fr:List (Str × Nat)}
end
section
variable {X:Cx} {e o:Expr} {es:List Expr} {t:TA} {to:TE} {pos:Pos} {S:Addr->Sp->Prop}
end
section
variable {X:Cx} {K:PySem.W.Frag}
end
end L2
namespace HT
open PySem PySem.Spec PyProof.Rows
variable {prog:Program} {w:World} {A:Around} {E:Value->Shared->Prop} {s:Shared}
theorem getItem_tuple_whole {t sl:Addr} {items:Array Value} {vl vu:Value} {lo hi:Option Int} {Q:Value->Shared->Prop} (ht:IsTup s.heap t items) (hs:s.heap.IsSliceOf sl vl vu .none) (pl:IsPart vl lo) (pu:IsPart vu hi)
    (w1:sIx items.size 0 lo=0) (w2:sIx items.size items.size hi=items.size) (h:Q (.ref t) s):wpAny (model prog w) A (getItem (.ref t) (.ref sl)) Q E s:=by
  obtain ⟨os,hos,hcs,hds⟩:=id hs;have hTs:s.TypeIs (.ref sl) "slice":=⟨os,hos,hcs⟩;unfold getItem
  try with_reducible refine Ad9 ?_
  first | refine Aa0 (Aa5 ?_) | skip
  refine Aa0 (wpAny_sequenceKey ht.typeIs (by decide) ?_);refine Aa0 (Ab7 (name:=Str.ofString "__getitem__") ht.typeIs PyProof.Rows.slot_tuple_getitem
    (Ad2 PyProof.Rows.slot_tuple_getitem ht.typeIs entry_tuple_getitem ?_ (args_tuple_getitem _ _)))
  show wpAny _ _ (Builtin.Tuple.tupleItemsOf (.ref t) >>= _) _ _ s;refine Aa0 (tupleItemsOf_ ht ?_);refine Aa0 (wpAny_typeOf hTs ?_);rw [if_pos (by decide)];refine Aa0 (DQ hs pl pu ?_);have hyes:(((sIx items.size 0 lo:Nat):Int) == 0&&(1:Int) == 1&&(sIx items.size items.size hi - sIx items.size 0 lo) == items.size)=true:=by
    rw [w1,w2];simp
  show wpAny _ _ (if (((sIx items.size 0 lo:Nat):Int) == 0&&(1:Int) == 1&&(sIx items.size items.size hi - sIx items.size 0 lo) == items.size)=true then _ else _) _ _ s;rw [if_pos hyes];unfold Builtin.Tuple.tupleIsExact;refine Aa0 (Aa0 (wpAny_typeOf ht.typeIs (Aa5 ?_)));rw [if_pos (by decide)];exact Aa0 (wpAny_rule (Aa5 ⟨_,rfl,Aa5 h⟩))
end HT
namespace L2
open PySem PySem.Spec PyProof.Rows
def T2 (K:PySem.W.Frag):V->Option Int->Option Int->Hp->VK->Prop:=λ x lo hi H Q=>∃ a xs,x= .ref a/\SqT K H a xs/\∀ H' p,Same H H'->SqT K H' p (DR xs lo hi)->Q (.ref p) H'
theorem OW {X:Cx} {K:PySem.W.Frag} (hK:X.K=K:=by rfl):SlR X (T2 K):=by
  subst hK;intro pins s σ H x v vl vu lo hi sl Q I rx hs pl pu h;obtain ⟨a,xs,rfl,hx,q⟩:=h;by_cases hw:HT.sIx xs.length 0 lo=0/\HT.sIx xs.length xs.length hi=xs.length
  · cases rx;obtain ⟨its,r,ht,hz⟩:=I.tuple hx;have hlen:its.toArray.size=xs.length:=by rw [Ab2];exact r.length.symm
    refine ⟨"tuple",_,PyProof.Rows.slot_tuple_getitem.lookup,ht.typeIs,?_⟩;refine HT.getItem_tuple_whole ht hs pl pu (by rw [hlen];exact hw.1) (by rw [hlen];exact hw.2) ?_;have e:DR xs lo hi=xs:=by
      unfold DR;rw [hw.1,hw.2,List.drop_zero,Nat.sub_zero,Af0 (Aa7 _)]
    exact ⟨.ref a,H,I,rfl,q H a (Same.refl _) (by rw [e];exact hx)⟩
  · exact Tl pins s σ H _ v vl vu lo hi sl Q I rx hs pl pu ⟨a,xs,rfl,hx,hw,λ p hp=>q _ p (Ai hp) (SqT.of Ae)⟩
theorem OH {K:PySem.W.Frag} {H:Hp} {Q:VK} {a:Addr} {xs:List V} {lo hi:Option Int} (c:SqT K H a xs) (h:∀ H' p,Same H H'->SqT K H' p (DR xs lo hi)->Q (.ref p) H'):T2 K (.ref a) lo hi H Q:=⟨a,xs,rfl,c,h⟩
theorem NH (as bs:List Str):Iy (as.map V.str) (bs.map V.str)=decide (as=bs):=by
  rw [Ac6,decide_eq_true_iff];unfold Iy;simp only [Ab3,beq_iff_eq,Aa2,Ac0,Af1];constructor
  · rintro ⟨h1,h2⟩;refine Af6 h1 λ i ha hb=> ?_;have h3:=h2 i ha;rw [IH (by simpa using ha),IH (by simpa using hb)] at h3;have h4:(as.getD i Str.empty == bs.getD i Str.empty)=true:=h3;rw [beq_iff_eq,MV ha,MV hb] at h4;exact h4
  · rintro rfl;refine ⟨rfl,λ i hi=> ?_⟩;rw [IH (by simpa using hi)];show (as.getD i Str.empty == as.getD i Str.empty)=true;rw [beq_iff_eq]
theorem Rr {K:PySem.W.Frag} {H:Hp} {Q:VK} {l p:Addr} {as bs:List Str} (c:SqL K H l (as.map V.str)) (d:SqL K H p (bs.map V.str)) (h:Q (.bl (decide (as=bs))) H):RF K false (.ref l) (.ref p) H Q:=
  ⟨l,p,_,_,rfl,rfl,c,d,by simp [Cd],by simp [Cd],by rw [NH];exact h⟩
def DK {α:Type}:Sem α->Prop
  | .rule _ k=>DK (k ())
  | .at _ k=>DK (k ())
  | .load _ _ k=>∀ o,DK (k o)
  | .update _ _ f k=>(∀ o,(f o).dict=o.dict)/\DK (k ())
  | .loadIfAlive _ k=>∀ o,DK (k o)
  | .point _ k=>DK (k ())
  | .alloc _ k=>∀ a,DK (k a)
  | .fresh k=>∀ t,DK (k t)
  | .ask k=>∀ t,DK (k t)
  | .choose _ _ k=>∀ t,DK (k t)
  | .os _ _ k=>∀ t,DK (k t)
  | .call .. => False
  | .handled _ k=>∀ t,DK (k t)
  | .genState _ k=>∀ t,DK (k t)
  | .newGen _ k=>∀ t,DK (k t)
  | .resume .. => False
  | .stack k=>∀ t,DK (k t)
  | .thread k=>∀ t,DK (k t)
  | _=>True
def KD (h h':Heap):Prop:=∀ (b:Nat) (o:Obj),h.objs[b]?=some o->∃ o',h'.objs[b]?=some o'/\o'.dict=o.dict
theorem KD.refl (h:Heap):KD h h:=λ b o e=>⟨o,e,rfl⟩
theorem KD.trans {h h1 h2:Heap} (a:KD h h1) (b:KD h1 h2):KD h h2:=λ c o e=>by
  obtain ⟨o1,e1,d1⟩:=a c o e;obtain ⟨o2,e2,d2⟩:=b c o1 e1;exact ⟨o2,e2,d2.trans d1⟩
theorem O5 {h:Heap} {b:Addr} {o:Obj} (e:h.get? b=some o):h.objs[b]?=some o:=by
  unfold Heap.get? at e;split at e
  · cases e
  · exact e
theorem KD.at' {h h':Heap} (k:KD h h') {b:Addr} {o o':Obj} (e:h.get? b=some o) (e':h'.get? b=some o'):o'.dict=o.dict:=by
  obtain ⟨o1,e1,d1⟩:=k b o (O5 e);rw [O5 e'] at e1;cases e1;exact d1
theorem KD.push (h:Heap) (o:Obj):KD h (h.push o):=λ b u e=>by
  refine ⟨u,?_,rfl⟩;show (h.objs.push o)[b]?=some u;have hb:b<h.objs.size:=(Array.getElem?_eq_some_iff.mp e).1;rw [Array.getElem?_push_lt hb];rw [Array.getElem?_eq_getElem hb] at e;exact e
theorem KD.upd (h:Heap) (a:Addr) {f:Obj->Obj} (hf:∀ o,(f o).dict=o.dict):KD h (h.update a f):=λ b u e=>by
  have hb:b<h.objs.size:=(Array.getElem?_eq_some_iff.mp e).1;show ∃ o',(h.objs.modify a f)[b]?=some o'/\_;rw [Array.getElem?_modify,e];by_cases q:a=b
  · rw [if_pos q];exact ⟨f u,rfl,hf u⟩
  · rw [if_neg q];exact ⟨u,rfl,rfl⟩
theorem UG {α:Type} {M:Model} {Γ:PySem.Ctx}:∀ (t:Sem α) (Q:α->Pos->Shared->Prop) (E:Value->Pos->Shared->Prop) (p:Pos) (s s0:Shared),DK t->KD s0.heap s.heap->Sem.wp M Γ t Q E p s->
    Sem.wp M Γ t (λ a p s'=>Q a p s'/\KD s0.heap s'.heap) (λ a p s'=>E a p s'/\KD s0.heap s'.heap) p s:=by
  intro t
  induction t with
  | pure a=>intro Q E p s s0 _ k h;rw [Sem.wp] at h ⊢;exact ⟨h,k⟩
  | raise e=>intro Q E p s s0 _ k h;rw [Sem.wp] at h ⊢;exact ⟨h,k⟩
  | unsupported w=>intro Q E p s s0 _ k h;rw [Sem.wp] at h;exact h.elim
  | finish e=>intro Q E p s s0 _ k h;rw [Sem.wp] at h;exact h.elim
  | rule t k ih=>intro Q E p s s0 d k h;rw [Sem.wp] at h ⊢;exact ih () Q E p s s0 d k h
  | «at» t k ih=>intro Q E p s s0 d k h;rw [Sem.wp] at h ⊢;exact ih () Q E _ s s0 d k h
  | load a part k ih=>
    intro Q E p s s0 d k h;rw [Sem.wp] at h ⊢;obtain ⟨o,e,h⟩:=h;exact ⟨o,e,ih o Q E p s s0 (d o) k h⟩
  | update a part f k ih=>
    intro Q E p s s0 d k h;rw [Sem.wp] at h ⊢;exact ⟨h.1,ih () Q E p _ s0 d.2 (k.trans (KD.upd s.heap a d.1)) h.2⟩
  | alloc o k ih=>intro Q E p s s0 d k h;rw [Sem.wp] at h ⊢;exact ih _ Q E p _ s0 (d _) (k.trans (KD.push _ _)) h
  | loadIfAlive a k ih=>intro Q E p s s0 d k h;rw [Sem.wp] at h ⊢;exact ih _ Q E p _ s0 (d _) k h
  | point l k ih=>intro Q E p s s0 d k h;rw [Sem.wp] at h ⊢;exact ih _ Q E p _ s0 d k h
  | register a k ih=>intro Q E p s s0 d k h;rw [Sem.wp] at h;exact h.elim
  | fresh k ih=>intro Q E p s s0 d k h;rw [Sem.wp] at h ⊢;exact ih _ Q E p _ s0 (d _) k h
  | ask k ih=>intro Q E p s s0 d k h;rw [Sem.wp] at h ⊢;exact ih _ Q E p _ s0 (d _) k h
  | choose a n k ih=>intro Q E p s s0 d k h;rw [Sem.wp] at h ⊢;exact ⟨h.1,ih _ Q E p _ s0 (d _) k h.2⟩
  | os a n k ih=>intro Q E p s s0 d k h;rw [Sem.wp] at h ⊢;exact ih _ Q E p _ s0 (d _) k h
  | call c a b l k ih=>intro Q E p s s0 d k h;exact d.elim
  | handled a k ih=>intro Q E p s s0 d k h;rw [Sem.wp] at h ⊢;exact ih _ Q E p _ s0 (d _) k h
  | newGen c k ih=>intro Q E p s s0 d k h;rw [Sem.wp] at h ⊢;exact ih _ Q E p _ s0 (d _) k h
  | genState g k ih=>
    intro Q E p s s0 d k h;rw [Sem.wp] at h ⊢;obtain ⟨st,e,h⟩:=h;exact ⟨st,e,ih _ Q E p s s0 (d _) k h⟩
  | resume g r l k ih=>intro Q E p s s0 d k h;exact d.elim
  | yield v g l k ih=>intro Q E p s s0 d k h;rw [Sem.wp] at h;exact h.elim
  | stack k ih=>intro Q E p s s0 d k h;rw [Sem.wp] at h ⊢;exact ih _ Q E p _ s0 (d _) k h
  | fork c k ih=>intro Q E p s s0 d k h;rw [Sem.wp] at h;exact h.elim
  | thread k ih=>intro Q E p s s0 d k h;rw [Sem.wp] at h ⊢;exact ih _ Q E p _ s0 (d _) k h
  | await a t b l k ih=>intro Q E p s s0 d k h;rw [Sem.wp] at h;exact h.elim
theorem E7 {α:Type} {M:Model} {A:Around} {t:Sem α} {Q:α->Shared->Prop} {E:Value->Shared->Prop} {s:Shared} (d:DK t) (h:wpAny M A t Q E s):wpAny M A t (λ a s'=>Q a s'/\KD s.heap s'.heap) (λ e s'=>E e s'/\KD s.heap s'.heap) s:=
  λ Γ p hΓ=>UG t _ _ p s s d (KD.refl _) (h Γ p hΓ)
theorem DK.bind {α β:Type} {f:α->Sem β}:∀ {t:Sem α},DK t->(∀ a,DK (f a))->DK (t >>= f):=by
  intro t;show _->_->DK (Sem.bind t f)
  induction t with
  | pure a=>intro _ h;exact h a
  | raise e=>intro _ _;trivial
  | unsupported w=>intro _ _;trivial
  | finish e=>intro _ _;trivial
  | rule t k ih=>intro d h;exact ih () d h
  | «at» t k ih=>intro d h;exact ih () d h
  | load a part k ih=>intro d h o;exact ih o (d o) h
  | update a part f k ih=>intro d h;exact ⟨d.1,ih () d.2 h⟩
  | alloc o k ih=>intro d h a;exact ih a (d a) h
  | loadIfAlive a k ih=>intro d h o;exact ih o (d o) h
  | point l k ih=>intro d h;exact ih () d h
  | register a k ih=>intro _ _;trivial
  | fresh k ih=>intro d h o;exact ih o (d o) h
  | ask k ih=>intro d h o;exact ih o (d o) h
  | choose a n k ih=>intro d h o;exact ih o (d o) h
  | os a n k ih=>intro d h o;exact ih o (d o) h
  | call c a b l k ih=>intro d h;exact d.elim
  | handled a k ih=>intro d h o;exact ih o (d o) h
  | newGen c k ih=>intro d h o;exact ih o (d o) h
  | genState g k ih=>intro d h o;exact ih o (d o) h
  | resume g r l k ih=>intro d h;exact d.elim
  | yield v g l k ih=>intro _ _;trivial
  | stack k ih=>intro d h o;exact ih o (d o) h
  | fork c k ih=>intro _ _;trivial
  | thread k ih=>intro d h o;exact ih o (d o) h
  | await a t b l k ih=>intro _ _;trivial
theorem Bg {α:Type} (a:α):DK (pure a:Sem α):=trivial
theorem DB {α:Type} (w:String):DK (unsupported w:Sem α):=trivial
theorem KS (a:Addr):DK (load a):=λ _=>trivial
theorem LT (v:Value):DK (fieldsOf v):=by
  unfold fieldsOf;split
  · refine DK.bind (KS _) λ o=> ?_;split
    · exact Bg _
    · exact DB _
  · exact DB _
theorem Gy (v:Value) (i:Nat):DK (field v i):=by
  unfold field;refine DK.bind (LT v) λ vs=> ?_;split
  · exact Bg _
  · exact DB _
theorem IU (f:Array Value->Array Value) (o:Obj):(Obj.mapFields f o).dict=o.dict:=by
  unfold Obj.mapFields;split <;> rfl
theorem Kg (a:Addr) {f:Obj->Obj} (h:∀ o,(f o).dict=o.dict):DK (update a f):=⟨h,trivial⟩
theorem E8 (v:Value) (i:Nat) (x:Value):DK (setField v i x):=by
  unfold setField;split
  · unfold updateField;refine DK.bind (KS _) λ o=> ?_;split
    · split
      · exact Kg _ (IU _)
      · exact DB _
    · exact DB _
  · exact DB _
theorem Ip:DK (stack):=λ _=>trivial
theorem E9 {α:Type} {c:Prop} [Decidable c] {x y:Sem α} (hx:DK x) (hy:DK y):DK (if c then x else y):=by
  split
  · exact hx
  · exact hy
theorem Eu (e:Value) (f:Option Addr):DK (setFlight e f):=by
  unfold setFlight;refine DK.bind (Gy _ _) λ tb=> ?_;exact E9 (E8 _ _ _) (Bg _)
theorem NF (env:Env) (outer:List Env):DK (behindIsImport env outer):=by
  unfold behindIsImport;refine E9 (Bg _) (E9 (Bg _) ?_);exact DK.bind (Gy _ _) λ _=>Bg _
theorem Rm (env:Env) (i:Bool) (l:List Env):DK (keptBack env i l):=by
  unfold keptBack;split
  · refine E9 (Bg _) ?_;unfold underTheClaimsCaller;exact DK.bind (DK.bind Ip λ _=>Bg _) λ _=>Bg _
  · exact Bg _
theorem Lz:∀ l:List Env,DK (readyFrames l)
  | []=>trivial
  | env::outer=>by
    unfold readyFrames;split
    · refine DK.bind (KS _) λ o=> ?_;refine E9 (Bg _) ?_;refine DK.bind (NF _ _) λ _=>DK.bind (Rm _ _ _) λ _=>DK.bind (Kg _ λ _=>rfl) λ _=>Lz outer
    · exact DB _
theorem Mo (env:Env):DK (PySem.frameOf env):=by
  unfold PySem.frameOf;refine DK.bind ?_ λ _=>DK.bind ?_ λ o=> ?_
  · unfold frameEnvs;exact DK.bind Ip λ _=>Bg _
  · unfold frameObject;split
    · exact Bg _
    · exact DK.bind (Lz _) λ _=>Bg _
  · split
    · exact Bg _
    · exact DB _
theorem KW (ty:String) (vs:List Value):DK (newFields ty vs):=by
  unfold newFields newObj;have hj:DK (newObjAsIs (.type ty) (.fields vs.toArray)):=by
    unfold newObjAsIs;exact λ _=>trivial
  exact E9 (DK.bind (DB _) λ _=>hj) hj
theorem Oj (f:Addr) (b:Bool):DK (entryPlaceOf f b):=by
  unfold entryPlaceOf;refine DK.bind Ip λ _=> ?_;split
  · exact Bg _
  · exact Bg _
theorem M5 (e:Value) (env:Env):DK (noteFrame e env):=by
  unfold noteFrame;split
  · rename_i f _
    refine DK.bind (Gy _ _) λ head=> ?_;have hj:DK (do
        let fr <-PySem.frameOf env
        let pl <-entryPlaceOf f (head != Value.none)
        let b <-EntryCells.newEntry head fr Value.none (rawInt f) Value.none pl
        setField e 1 b):=DK.bind (Mo env) λ _=>DK.bind (Oj _ _) λ _=>DK.bind (KW _ _) λ _=>E8 _ _ _
    refine E9 (DK.bind (Gy _ _) λ _=>E9 (Bg _) (DK.bind (E8 _ _ _) λ _=>hj)) hj
  · exact DB _
theorem Ig (env:Env) (e:Value):DK (leaving env e):=by
  unfold leaving;exact DK.bind (M5 _ _) λ _=>Eu _ _
section
variable {M:Model} {A:Around} {E:Value->Shared->Prop} {s:Shared}
theorem Mu {base:Heap} {env:Env} {outer:List Env} {L e:Addr} {cls a0:Value} {Q:Unit->Shared->Prop} (hfr:A.frames=some (env::outer)) (hf:env.frame=some L) (hfl:Heap.FlyingW base (env::outer) e cls a0 s.heap)
    (hQ:∀ h',Heap.FlyingW base outer e cls a0 h'->s.heap.UpToSlots h'->KD s.heap h'->Q () { s with heap:=h' }):wpAny M A (leaving env (.ref e)) Q E s:=
  Ad5 (E7 (Ig env (.ref e)) (wpAny_leaves_onW (Q:=λ _ s'=>∃ h',s'={ s with heap:=h' }/\Heap.FlyingW base outer e cls a0 h'/\s.heap.UpToSlots h') hfr hf hfl λ h' a b=>⟨h',rfl,a,b⟩))
    (λ _ _ ⟨⟨h',e,a,b⟩,k⟩=>by subst e;exact hQ h' a b k) λ _ _ z=>z.1
theorem KR {base h:Heap} {env:Env} {outer:List Env} {L e:Addr} {cls:Value} {args:List Value} {Q:Unit->Shared->Prop}
    (hfr:A.frames=some (env::outer)) (hf:env.frame=some L) (hkb:base.StaysIn h) (hl:h.FunFrames base (env::outer)) (hx:Heap.MadeExcOf h s.heap e cls args)
    (hQ:∀ h' t,Heap.FlyingW base outer e cls (.ref t) h'->s.heap.UpToSlots h'->KD s.heap h'->Q () { s with heap:=h' }):wpAny M A (leaving env (.ref e)) Q E s:=
  Ad5 (E7 (Ig env (.ref e)) (wpAny_leaves_madeW (Q:=λ _ s'=>∃ h' t,s'={ s with heap:=h' }/\Heap.FlyingW base outer e cls (.ref t) h'/\s.heap.UpToSlots h') hfr hf hkb hl hx λ h' t a _ _ b=>⟨h',t,rfl,a,b⟩))
    (λ _ _ ⟨⟨h',t,e,a,b⟩,k⟩=>by subst e;exact hQ h' t a b k) λ _ _ z=>z.1
theorem NX {base:Heap} {env:Env} {outer:List Env} {L e:Addr} {cls a0:Value} {Q:Unit->Shared->Prop} (hfr:A.frames=some (env::outer)) (hf:env.frame=some L) (hfl:Heap.FlyingW base (env::outer) e cls a0 s.heap)
    (hQ:∀ h',Heap.HeldW base (env::outer) e cls a0 L h'->s.heap.UpToSlots h'->KD s.heap h'->Q () { s with heap:=h' }):wpAny M A (noteFrame (.ref e) env) Q E s:=
  Ad5 (E7 (M5 (.ref e) env) (wpAny_looks_onW (Q:=λ _ s'=>∃ h',s'={ s with heap:=h' }/\Heap.HeldW base (env::outer) e cls a0 L h'/\s.heap.UpToSlots h') hfr hf hfl λ h' a b=>⟨h',rfl,a,b⟩))
    (λ _ _ ⟨⟨h',e,a,b⟩,k⟩=>by subst e;exact hQ h' a b k) λ _ _ z=>z.1
theorem S2 {base:Heap} {l:List Env} {e L:Addr} {cls a0:Value} {Q:Unit->Shared->Prop} (hh:Heap.HeldW base l e cls a0 L s.heap)
    (hQ:∀ h',Heap.FlyingW base l e cls a0 h'->s.heap.UpToSlots h'->KD s.heap h'->Q () { s with heap:=h' }):wpAny M A (setFlight (.ref e) none) Q E s:=
  Ad5 (E7 (Eu (.ref e) none) (wpAny_landsW (Q:=λ _ s'=>∃ h',s'={ s with heap:=h' }/\Heap.FlyingW base l e cls a0 h'/\s.heap.UpToSlots h') hh λ h' a b=>⟨h',rfl,a,b⟩))
    (λ _ _ ⟨⟨h',e,a,b⟩,k⟩=>by subst e;exact hQ h' a b k) λ _ _ z=>z.1
theorem Rk {base:Heap} {l:List Env} {e:Addr} {cls a0 fl:Value} {Q:Unit->Shared->Prop} (hkb:base.StaysIn s.heap) (hl:s.heap.FunFrames base l) (ht:s.heap.TracedAtW base e cls a0 fl)
    (h:∀ h',base.StaysIn h'->h'.FunFrames base l->h'.TracedW base e cls a0->(∀ b o,s.heap.get? b=some o->(∀ vs,o.data≠ .fields vs)->h'.get? b=some o)->KD s.heap h'->Q () { s with heap:=h' }):
    wpAny M A (setFlight (.ref e) none) Q E s:=
  Ad5 (E7 (Eu (.ref e) none) (wpAny_setFlight_noneW (Q:=λ _ s'=>∃ h',s'={ s with heap:=h' }/\base.StaysIn h'/\h'.FunFrames base l/\h'.TracedW base e cls a0/\∀ b o,s.heap.get? b=some o->(∀ vs,o.data≠ .fields vs)->h'.get? b=some o) hkb hl ht λ h' a b c d=>⟨h',rfl,a,b,c,d⟩))
    (λ _ _ ⟨⟨h',e,a,b,c,d⟩,k⟩=>by subst e;exact h h' a b c d k) λ _ _ z=>z.1
def DictIs (h:Heap) (a:Addr) (od:Option Addr):Prop:=∃ o,h.get? a=some o/\o.dict=od
theorem DictIs.on {h h':Heap} {a:Addr} {od:Option Addr} (x:DictIs h a od) (k:KD h h') (t:∃ o,h'.get? a=some o):DictIs h' a od:=by
  obtain ⟨o,e,d⟩:=x;obtain ⟨o',e'⟩:=t;exact ⟨o',e',(k.at' e e').trans d⟩
end
theorem HOk.on {P:Program} {w:World} {H:Hp} {h h':Heap} (x:HOk P w H h) (k:∀ b u,H b≠none->h.get? b=some u->h'.get? b=some u):HOk P w H h':=λ a o e=>
  (x a o e).stay (λ b u hb q=>k b u (by
    rcases hb with rfl | hb
    · rw [e];exact λ z=>by cases z
    · rw [hb];exact λ z=>by cases z) q) (λ _ q=>q) λ _ _ q=>q
theorem L7 {P:Program} {w:World} {H:Hp} {h:Heap} {a:Addr} {o:HO} (x:ObjOk P w H h a o):∃ u,h.get? a=some u:=by
  cases o with
  | lst xs=>obtain ⟨_,_,_,_,e⟩:=x;exact ⟨_,e⟩
  | tup xs=>obtain ⟨_,_,_,o,e,_⟩:=x;exact ⟨_,e⟩
  | dK kvs=>obtain ⟨_,_,_,_,o,_,_,e,_⟩:=x;exact ⟨_,e⟩
  | dT kvs=>obtain ⟨_,_,_,_,o,_,_,e,_⟩:=x;exact ⟨_,e⟩
  | set S n=>obtain ⟨o,_,_,_,e,_⟩:=x;exact ⟨_,e⟩
  | ins C dx fs=>obtain ⟨_,_,_,e,_⟩:=x;exact ⟨_,e⟩
  | own y=>exact x
  | xd fs=>obtain ⟨_,⟨_,_,_,e,_⟩,_⟩:=x;exact ⟨_,e⟩
  | rng lo hi=>obtain ⟨_,_,_,e⟩:=x;exact ⟨_,e⟩
  | frz ob u=>obtain ⟨e,_⟩:=x;exact ⟨_,e⟩
  | tbl ps=>exact ⟨_,(show h.get? a=some _ from x)⟩
  | met f y=>exact ⟨_,(show h.get? a=some _ from x)⟩
  | ext φ=>obtain ⟨_,e,_⟩:=x;exact e
def Yu (outer:List Env) (s:Shared) (H':Hp) (a C t:Addr) (s':Shared):Prop:=
  ∃ B:Heap,B.FlyingW outer a (.ref C) (.ref t) s'.heap/\∀ b,(H' b≠none\/∃ o,s.heap.get? b=some o)->b∉frs outer->∀ o,s'.heap.get? b=some o->B.get? b=some o
def CXE (P:Program) (w:World):CXT:=λ outer H s E e s'=>
  ∃ a C t od H',e= .ref a/\s'.os=s.os/\AllBare s'.gens/\Un (frs outer) [] H H' s.heap s'.heap/\HOk P w H' s'.heap/\Yu outer s H' a C t s'/\DictIs s'.heap a od/\E (.ref C) od H'
theorem Gp {env:Env} {L:Addr} {outer:List Env} (h:env.frame=some L):frs (env::outer)=L::frs outer:=by
  unfold frs;rw [List.filterMap_cons,h]
theorem BQ {h base:Heap}:∀ {l:List Env} {b:Addr},h.FunFrames base l->b∈frs l->base.get? b=none/\∃ o,h.get? b=some o/\∀ vs,o.data≠ .fields vs
  | [],b,_,hb=>by cases hb
  | env::l,b,⟨_,⟨L,o,e1,e2,e3,e4⟩,r⟩,hb=>by
    rw [Gp e1] at hb;rcases Ab5.mp hb with rfl | hb
    · exact ⟨e2,o,e3,e4⟩
    · exact BQ r hb
theorem Od {P:Program} {w:World} {K:PySem.W.Frag} {mg:Str->Option Value} {base:Heap} {N:List Str} {qual:Str} {scope:Scope} {f:Addr} {cd:Value} {A:Around} {outer:List Env} {s₀:Shared} {H₀:Hp} {E E':XK}
    (hE:∀ c o H,E c o H->E' c o H):BP (CXE P w) (EV (CXE P w) P w K mg base N qual scope f cd A outer s₀ H₀ E') E:=by
  intro pins σ H s e s' I h;obtain ⟨a,C,t,od,H',rfl,os,bare,un,hok,⟨B,fl,cov⟩,di,q⟩:=h;have hfr:(envOfC qual scope s₀.heap.objs.size f cd).frame=some s₀.heap.objs.size:=rfl;have hfs:frs (envOfC qual scope s₀.heap.objs.size f cd::outer)=s₀.heap.objs.size::frs outer:=Gp hfr;refine Mu I.ok.frames hfr fl λ h' fl' ups kd=> ?_;have ib:Un (frs outer) [] H₀ H s₀.heap s.heap:=I.base;have nl:∀ b o,s₀.heap.get? b=some o->b≠s₀.heap.objs.size:=λ b o e=>Ac2 (Aa6 e);have toB:∀ b,(H' b≠none\/∃ o,s.heap.get? b=some o)->b∉frs (envOfC qual scope s₀.heap.objs.size f cd::outer)->∀ o,s'.heap.get? b=some o->h'.get? b=some o:=λ b hb hn o e=>fl'.1 b o (cov b hb hn o e);have untr:∀ b,b∈frs (envOfC qual scope s₀.heap.objs.size f cd::outer)->H' b=none:=λ b hb=>by
    obtain ⟨_,o,e,_⟩:=BQ I.stack hb;exact un.free b o e (I.stkFree b hb) (by simp)
  have hok':HOk P w H' h':=hok.on λ b u hb e=>by
    refine toB b (.inl hb) (λ z=>hb (untr b z)) u e
  refine ⟨a,C,t,od,H',rfl,os.trans I.os,bare,?_,hok',⟨B,fl',λ b hb hn o e=> ?_⟩,di.on kd (let ⟨o,e,_⟩:=fl'.there;⟨o,e⟩),hE _ _ _ q⟩
  · have notin:∀ b o,s₀.heap.get? b=some o->b∉frs outer->b∉frs (envOfC qual scope s₀.heap.objs.size f cd::outer):=λ b o e hn z=>by
      rw [hfs] at z;rcases Ab5.mp z with z | z
      · exact nl b o e z
      · exact hn z
    have isin:∀ b,b∈frs outer->b∈frs (envOfC qual scope s₀.heap.objs.size f cd::outer):=λ b hb=>by rw [hfs];exact Ad3 _ hb
    refine ⟨λ b o e hH hn _=> ?_,λ b o e hH hb _=> ?_,λ b o e hH _=> ?_,λ b o e _=> ?_,λ b xs e=>un.tups b xs (ib.tups b xs e),λ b o u e=>un.frzs b o u (ib.frzs b o u e),λ b ps e=> ?_⟩
    · have e1:=ib.keep b o e hH hn (by simp);exact toB b (.inr ⟨o,e1⟩) (notin b o e hn) o (un.keep b o e1 (ib.free b o e hH (by simp)) (notin b o e hn) (by simp))
    · obtain ⟨sl,e1⟩:=ib.slot b o e hH hb (by simp);obtain ⟨sl2,e2⟩:=un.slot b _ e1 (ib.free b o e hH (by simp)) (isin b hb) (by simp);obtain ⟨_,o',e',nf⟩:=BQ fl.2.2.1 (isin b hb);rw [e2] at e';cases e';obtain ⟨sl3,e3⟩:=ups b _ e2 nf;exact ⟨sl3,e3⟩
    · obtain ⟨o1,e1⟩:=ib.there b o e (by simp);exact un.free b o1 e1 (ib.free b o e hH (by simp)) (by simp)
    · obtain ⟨o1,e1⟩:=ib.there b o e (by simp);obtain ⟨o2,e2⟩:=un.there b o1 e1 (by simp);by_cases hb:b∈frs outer
      · obtain ⟨_,o',e',nf⟩:=BQ fl.2.2.1 (isin b hb);obtain ⟨sl3,e3⟩:=ups b _ e' nf;exact ⟨_,e3⟩
      · exact ⟨o2,toB b (.inr ⟨o1,e1⟩) (notin b o e hb) o2 e2⟩
    · obtain ⟨m1,e1⟩:=ib.tbls b ps e;obtain ⟨m2,e2⟩:=un.tbls b _ e1;exact ⟨m1++m2,by rw [e2,Array.append_assoc]⟩
  · have hn2:b∉frs (envOfC qual scope s₀.heap.objs.size f cd::outer):=λ z=>by
      have z0:=z;rw [hfs] at z;rcases Ab5.mp z with z | z
      · rcases hb with hb | ⟨o1,e1⟩
        · exact hb (untr b z0)
        · exact nl b o1 e1 z
      · exact hn z
    obtain ⟨o2,e2,hb2⟩:∃ o2,s'.heap.get? b=some o2/\(H' b≠none\/∃ o,s.heap.get? b=some o):=by
      rcases hb with hb | ⟨o1,e1⟩
      · cases hx:H' b with
        | none=>exact absurd hx hb
        | some u=>
          obtain ⟨o2,e2⟩:=L7 (hok b u hx);exact ⟨o2,e2, .inl (λ z=>by cases z)⟩
      · obtain ⟨o3,e3⟩:=ib.there b o1 e1 (by simp);obtain ⟨o2,e2⟩:=un.there b o3 e3 (by simp);exact ⟨o2,e2, .inr ⟨o3,e3⟩⟩
    have e3:=cov b hb2 hn2 o2 e2;have e4:=fl'.1 b o2 e3;rw [show h'.get? b=some o from e] at e4;cases e4;exact e3
theorem J1 {h base B:Heap}:∀ {l:List Env},h.FunFrames base l->(∀ b∈frs l,B.get? b=none)->h.FunFrames B l
  | [],_,_=>trivial
  | env::l,⟨k,⟨L,o,e1,e2,e3,e4⟩,r⟩,hb=>by
    rw [Gp e1] at hb;exact ⟨k,⟨L,o,e1,hb L (Ad7 ..),e3,e4⟩,J1 r λ b h'=>hb b (Ad3 _ h')⟩
section
variable {P:Program} {w:World} {K:PySem.W.Frag} {mg:Str->Option Value} {base:Heap} {N:List Str} {qual:Str} {scope:Scope} {f:Addr} {cd:Value} {A:Around} {outer:List Env} {s₀:Shared} {H₀:Hp} {E:XK}
theorem Pc {pins:List (Addr × Obj)} {σ:St} {H:Hp} {s:Shared} {e C:Addr} {vs:List Value} {h':Heap} (I:Inv (EV (CXE P w) P w K mg base N qual scope f cd A outer s₀ H₀ E) pins σ H s) (mk:Heap.MadeExcOf s.heap h' e (.ref C) vs) (q:E (.ref C) none H):
    (EV (CXE P w) P w K mg base N qual scope f cd A outer s₀ H₀ E).xe (.ref e) { s with heap:=h' }:=by
  have hfr:(envOfC qual scope s₀.heap.objs.size f cd).frame=some s₀.heap.objs.size:=rfl;have hfs:frs (envOfC qual scope s₀.heap.objs.size f cd::outer)=s₀.heap.objs.size::frs outer:=Gp hfr;refine KR (base:=PySem.W.hideAll s.heap (frs (envOfC qual scope s₀.heap.objs.size f cd::outer))) (h:=s.heap) I.ok.frames hfr (λ b o e=>PySem.W.of_hideAll _ e) (J1 I.stack λ b hb=>PySem.W.hideAll_none _ hb) mk λ h2 t fl ups kd=> ?_;have ib:Un (frs outer) [] H₀ H s₀.heap s.heap:=I.base;have nl:∀ b o,s₀.heap.get? b=some o->b≠s₀.heap.objs.size:=λ b o e=>Ac2 (Aa6 e);have inB:∀ b o,s.heap.get? b=some o->b∉frs (envOfC qual scope s₀.heap.objs.size f cd::outer)->h2.get? b=some o:=λ b o e hn=>fl.1 b o (PySem.W.hideAll_get _ e hn);have notin:∀ b o,s₀.heap.get? b=some o->b∉frs outer->b∉frs (envOfC qual scope s₀.heap.objs.size f cd::outer):=λ b o e hn z=>by
    rw [hfs] at z;rcases Ab5.mp z with z | z
    · exact nl b o e z
    · exact hn z
  have isin:∀ b,b∈frs outer->b∈frs (envOfC qual scope s₀.heap.objs.size f cd::outer):=λ b hb=>by rw [hfs];exact Ad3 _ hb
  refine ⟨e,C,t,none,H,rfl,I.os,I.bare,?_,I.hok.on λ b u hb e=>inB b u e (λ z=>hb (I.stkFree b z)),⟨_,fl,λ b hb hn o e=> ?_⟩,DictIs.on (let ⟨_,e,_⟩:=mk.there;⟨_,e,rfl⟩) kd (let ⟨o,e,_⟩:=fl.there;⟨o,e⟩),q⟩
  · refine ⟨λ b o e hH hn _=> ?_,λ b o e hH hb _=> ?_,λ b o e hH _=>ib.free b o e hH (by simp),λ b o e _=> ?_,λ b xs e=>ib.tups b xs e,λ b o u e=>ib.frzs b o u e,λ b ps e=>ib.tbls b ps e⟩
    · exact inB b o (ib.keep b o e hH hn (by simp)) (notin b o e hn)
    · obtain ⟨sl,e1⟩:=ib.slot b o e hH hb (by simp);obtain ⟨_,o',e',nf⟩:=BQ I.stack (isin b hb);rw [e1] at e';cases e';obtain ⟨sl3,e3⟩:=ups b _ (mk.keeps b _ e1) nf;exact ⟨sl3,e3⟩
    · obtain ⟨o1,e1⟩:=ib.there b o e (by simp);by_cases hb:b∈frs outer
      · obtain ⟨_,o',e',nf⟩:=BQ I.stack (isin b hb);obtain ⟨sl3,e3⟩:=ups b _ (mk.keeps b _ e') nf;exact ⟨_,e3⟩
      · exact ⟨o1,inB b o1 e1 (notin b o e hb)⟩
  · have hn2:b∉frs (envOfC qual scope s₀.heap.objs.size f cd::outer):=λ z=>by
      rcases hb with hb | ⟨o1,e1⟩
      · exact hb (I.stkFree b z)
      · exact notin b o1 e1 hn z
    obtain ⟨o2,e2⟩:∃ o2,s.heap.get? b=some o2:=by
      rcases hb with hb | ⟨o1,e1⟩
      · cases hx:H b with
        | none=>exact absurd hx hb
        | some u=>exact L7 (I.hok b u hx)
      · exact ib.there b o1 e1 (by simp)
    have e3:=inB b o2 e2 hn2;have e:h2.get? b=some o:=e;rw [e] at e3;cases e3;exact PySem.W.hideAll_get _ e2 hn2
def OT (E:XK) (C:Addr) (ta:TA):TS:=λ _ σ H=>ta σ H λ vs H1=>vs.length<=1000/\E (.ref C) none H1
theorem P0 {x:Str} {C:Addr} {B newId initId:String} {bm:List Value} {e₀:Expr} {B9:List Expr} {np cpos pos:Pos} {ta:TA} (O:OwnCls x C bm newId mg base) (FB:ExcBaseFacts B newId initId bm)
    (ha:PA (EV (CXE P w) P w K mg base N qual scope f cd A outer s₀ H₀ E) (e₀::B9) ta)
    (he:starEach (e₀::B9) (envOfC qual scope s₀.heap.objs.size f cd)=(false,eval e₀ (envOfC qual scope s₀.heap.objs.size f cd))::starEach B9 (envOfC qual scope s₀.heap.objs.size f cd):=by rfl)
    (hplain:(backTo cpos (starEach B9 (envOfC qual scope s₀.heap.objs.size f cd))).any (·.1)=false:=by rfl)
    (hg:Gl (EV (CXE P w) P w K mg base N qual scope f cd A outer s₀ H₀ E) x:=by rfl) (hd:(x == ("__debug__":Str))=false:=by decide):
    PS (EV (CXE P w) P w K mg base N qual scope f cd A outer s₀ H₀ E) (.Raise (some (.Call (.Name x np) (e₀::B9) [] cpos)) none pos) (OT E C ta):=by
  intro pins s σ H D I h;obtain ⟨tl,Nn,nm,q,bs,hdct,sn,sub,ab,col,dd,k0,k1,k2,k3,k5,mN,hC,hN,hni,T⟩:=O.obj;have hw:=ha cpos pins s σ H _ I h;refine wpAny_Raise_call_subT (C:=C) (nm:=nm) (q:=q) (N:=Nn) (bs:=bs) (bm:=tl) (hdct:=hdct) (sn:=sn) (sub:=sub) (ab:=ab) (col:=col) (dd:=dd) (k0:=k0) (k1:=k1) (k2:=k2) (k3:=k3) (k5:=k5)
    FB (mN:=mN) (T.hasType FB.hasBase) (I.ok.hd rfl) (by
      show (backTo cpos (starEach (e₀::B9) (envOfC qual scope s₀.heap.objs.size f cd))).any (·.1)=false;rw [he];show (false||(backTo cpos (starEach B9 (envOfC qual scope s₀.heap.objs.size f cd))).any (·.1))=false;rw [hplain];rfl) hni (HY I hg O.bound ⟨rfl,?_⟩ hd)
  have he':starEach (e₀::B9) (EV (CXE P w) P w K mg base N qual scope f cd A outer s₀ H₀ E).env=(false,eval e₀ (envOfC qual scope s₀.heap.objs.size f cd))::starEach B9 (envOfC qual scope s₀.heap.objs.size f cd):=he;rw [he'] at hw ⊢;refine Calls.evalArgs_plain (thn hw λ us s2 ⟨vs,H1,I1,r,hl,hq⟩=> ?_);have bk:∀ b o,base.get? b=some o->s2.heap.get? b=some o:=I1.bk;refine ⟨rfl,?_,bk _ _ hC,hN.keeps bk,T.keeps bk,λ h' e mk=>Pc I1 mk hq⟩;rw [<-r.length];exact Ab8 hl (by decide)
end
theorem IV {h h1 h2:Heap} (a:h.UpToSlots h1) (b:h1.UpToSlots h2):h.UpToSlots h2:=λ c o e nf=>by
  obtain ⟨sl,e1⟩:=a c o e nf;obtain ⟨sl2,e2⟩:=b c _ e1 nf;exact ⟨sl2,e2⟩
theorem OM {P:Program} {w:World} {l:List Env} {s s₁:Shared} {H H':Hp} {a C t:Addr} {B h3:Heap} (un:Un (frs l) [] H H' s.heap s₁.heap) (hok:HOk P w H' s₁.heap) (fl:B.FlyingW l a (.ref C) (.ref t) s₁.heap)
    (cov:∀ b,(H' b≠none\/∃ o,s.heap.get? b=some o)->b∉frs l->∀ o,s₁.heap.get? b=some o->B.get? b=some o) (untr:∀ b∈frs l,H' b=none) (fl3:B.FlyingW l a (.ref C) (.ref t) h3) (ups:s₁.heap.UpToSlots h3):
    Un (frs l) [] H H' s.heap h3/\HOk P w H' h3:=by
  have inB:∀ b,(H' b≠none\/∃ o,s.heap.get? b=some o)->b∉frs l->∀ o,s₁.heap.get? b=some o->h3.get? b=some o:=λ b hb hn o e=>fl3.1 b o (cov b hb hn o e);refine ⟨⟨λ b o e hH hn hx=>inB b (.inr ⟨o,e⟩) hn o (un.keep b o e hH hn hx),λ b o e hH hb hx=> ?_,un.free,λ b o e hx=> ?_,un.tups,un.frzs,un.tbls⟩,hok.on λ b u hb e=>inB b (.inl hb) (λ z=>hb (untr b z)) u e⟩
  · obtain ⟨sl,e1⟩:=un.slot b o e hH hb hx;obtain ⟨_,o',e',nf⟩:=BQ fl.2.2.1 hb;rw [e1] at e';cases e';obtain ⟨sl3,e3⟩:=ups b _ e1 nf;exact ⟨sl3,e3⟩
  · obtain ⟨o1,e1⟩:=un.there b o e hx;by_cases hb:b∈frs l
    · obtain ⟨_,o',e',nf⟩:=BQ fl.2.2.1 hb;obtain ⟨sl,e2⟩:=ups b _ e' nf;exact ⟨_,e2⟩
    · exact ⟨o1,inB b (.inr ⟨o,e⟩) hb o1 e1⟩
def Ie (a C:Addr) (od:Option Addr):HO:= .ext λ h=>∃ o,h.get? a=some o/\o.cls= .ref C/\o.dict=od/\∃ vs,o.data= .fields vs
theorem Tu {P:Program} {w:World} {H:Hp} {h:Heap} {a C:Addr} {o:Obj} {vs:Array Value} (e:h.get? a=some o) (c:o.cls= .ref C) (d:o.data= .fields vs):ObjOk P w H h a (Ie a C o.dict):=
  ⟨⟨o,e,c,rfl,vs,d⟩,⟨o,e⟩,λ _ _ ⟨o,e,c⟩ k=>⟨o,k o e,c⟩⟩
theorem Pf {P:Program} {w:World} {H:Hp} {h:Heap} {a:Addr} {u:HO} (hok:HOk P w H h) (n:H a=none) (new:ObjOk P w (upd H a u) h a u):HOk P w (upd H a u) h:=λ b o e=>by
  by_cases z:b=a
  · subst z;rw [Ae] at e;cases e;exact new
  · rw [Ak z] at e;have ne:∀ c v,H c=some v->c≠a:=λ c v q z=>by rw [z,n] at q;cases q
    exact (hok b o e).stay (λ c v _ q=>q) (λ c q=>(Ak (ne c _ q)).trans q) λ c xs q=>(Ak (ne c _ q)).trans q
theorem OF {fs ex:List Addr} {H H':Hp} {h h':Heap} {a:Addr} {u:HO} (un:Un fs ex H H' h h') (n:H' a=none) (na:h.get? a=none):Un fs ex H (upd H' a u) h h':=by
  have ne:∀ c v,H' c=some v->c≠a:=λ c v q z=>by rw [z,n] at q;cases q
  refine ⟨un.keep,un.slot,λ b o e hH hx=> ?_,un.there,λ b xs e=> ?_,λ b o v e=> ?_,λ b ps e=> ?_⟩
  · have z:b≠a:=λ z=>by rw [z,na] at e;cases e
    rw [Ak z];exact un.free b o e hH hx
  · have:=un.tups b xs e;exact (Ak (ne _ _ this)).trans this
  · have:=un.frzs b o v e;exact (Ak (ne _ _ this)).trans this
  · obtain ⟨m,this⟩:=un.tbls b ps e;exact ⟨m,(Ak (ne _ _ this)).trans this⟩
section
variable {X:Cx} {pins:List (Addr × Obj)} {σ:St} {H:Hp} {s s₁:Shared} {E:XK} {e:Value}
theorem bW {E1 E2:Value->Shared->Prop} {R:Shared->Prop} (I:Inv X pins σ H s) (hst:X.stack=X.env::X.outer) (hf:X.env.frame=some X.env.locals) (h:CXE X.prog X.w X.stack H s E e s₁)
    (k:∀ (a C t:Addr) (od:Option Addr) (H':Hp) (B h3:Heap),e= .ref a->B.FlyingW X.stack a (.ref C) (.ref t) h3->s₁.heap.UpToSlots h3->DictIs h3 a od->(∀ h4:Heap,B.FlyingW X.stack a (.ref C) (.ref t) h4->s₁.heap.UpToSlots h4->DictIs h4 a od->Inv X pins σ H' { s₁ with heap:=h4 }/\Inv X pins σ (upd H' a (Ie a C od)) { s₁ with heap:=h4 })->H' a=none->E (.ref C) od H'->R { s₁ with heap:=h3 }):
    wpAny (model X.prog X.w) X.A (noteFrame e X.env) (λ _ s₂=>wpAny (model X.prog X.w) X.A (setFlight e none) (λ _ s₃=>R s₃) E2 s₂) E1 s₁:=by
  obtain ⟨a,C,t,od,H',rfl,os,bare,un,hok,⟨B,fl,cov⟩,di,q⟩:=h;have untr:∀ b∈frs X.stack,H' b=none:=λ b hb=>by
    obtain ⟨_,o,e,_⟩:=BQ I.stack hb;exact un.free b o e (I.stkFree b hb) (by simp)
  obtain ⟨oa,hoa,hca⟩:=fl.there;have af:a∉frs X.stack:=λ z=>by
    obtain ⟨_,_,_,oe,vs,T,oT,ts,he,hcls,hd,_⟩:=id fl;obtain ⟨_,o',e',nf⟩:=BQ fl.2.2.1 z;rw [he] at e';cases e';exact nf _ hd
  have an:H' a=none:=by
    cases hx:H' a with
    | none=>rfl
    | some u=>
      have:=cov a (.inl (by rw [hx];exact λ z=>by cases z)) af oa hoa;rw [fl.2.1] at this;cases this
  have as:s.heap.get? a=none:=by
    cases hx:s.heap.get? a with
    | none=>rfl
    | some o=>
      have:=cov a (.inr ⟨o,hx⟩) af oa hoa;rw [fl.2.1] at this;cases this
  have fl':=fl;rw [hst] at fl';refine NX (by rw [I.ok.frames,hst]) hf fl' λ h2 hh u2 kd2=>S2 (s:={ s₁ with heap:=h2 }) hh λ h3 fl3 u3 kd3=> ?_;rw [<-hst] at fl3;refine k a C t od H' B h3 rfl fl3 (IV u2 u3) (di.on (kd2.trans kd3) (let ⟨o,e,_⟩:=fl3.there;⟨o,e⟩)) (λ h4 fl4 u4 di4=> ?_) an q;obtain ⟨un4,hok4⟩:=OM un hok fl cov untr fl4 u4;obtain ⟨_,_,_,o4,vs4,_,_,_,e4,⟨c4,_⟩,dd4,_⟩:=id fl4;have d4:o4.dict=od:=by
    obtain ⟨o5,e5,d5⟩:=di4;rw [e4] at e5;cases e5;exact d5
  subst d4;exact ⟨I.call' (s':={ s₁ with heap:=h4 }) (ch:=[]) os un4 hok4 bare (λ _ z=>by cases z),I.call' (s':={ s₁ with heap:=h4 }) (ch:=[]) os (OF un4 an as) (Pf hok4 an (Tu e4 c4 dd4)) bare (λ _ z=>by cases z)⟩
end
def Cx.tryC (X:Cx) (pn:List (Addr × Obj)) (xe:Value->Shared->Prop):Cx:={ X with pn:=pn,xe:=xe }
def Cx.markC (X:Cx) (a:Addr) (xe:Value->Shared->Prop):Cx:={ X with A:=X.A.mark (some (.ref a)),calm:=false,xe:=xe }
section
variable {X:Cx} {pins pins0:List (Addr × Obj)} {σ:St} {H:Hp} {s:Shared} {xe:Value->Shared->Prop}
theorem Inv.tryC (I:Inv X pins σ H s):Inv (X.tryC (X.pn++pins) xe) [] σ H s:=
  ⟨⟨I.ok.mod,I.ok.kind,I.ok.glob,I.ok.blt,I.ok.above,I.ok.inj,I.ok.has,I.ok.cab,I.ok.hd,I.ok.frames,I.ok.stk,I.ok.exf,I.ok.bs,I.ok.bsz,I.ok.noex,I.ok.exfs,I.ok.funs,I.ok.frf⟩,
    I.os,I.bare,I.base,I.loc,I.cell,I.free,I.freeC,λ p hp=>I.pin p (by simpa [Cx.tryC] using hp),I.hok,I.len⟩
theorem Inv.untry (ok:X.Ok) (I:Inv (X.tryC (X.pn++pins0) xe) pins σ H s):Inv X pins0 σ H s:=
  ⟨ok,I.os,I.bare,I.base,I.loc,I.cell,I.free,I.freeC,λ p hp=>I.pin p (List.mem_append_left _ hp),I.hok,I.len⟩
theorem Inv.markC {a:Addr} (I:Inv X pins σ H s):Inv (X.markC a xe) pins σ H s:=
  ⟨⟨I.ok.mod,I.ok.kind,I.ok.glob,I.ok.blt,I.ok.above,I.ok.inj,I.ok.has,I.ok.cab,λ z=>(by cases z),I.ok.frames,I.ok.stk,I.ok.exf,I.ok.bs,I.ok.bsz,I.ok.noex,I.ok.exfs,I.ok.funs,I.ok.frf⟩,
    I.os,I.bare,I.base,I.loc,I.cell,I.free,I.freeC,I.pin,I.hok,I.len⟩
theorem Inv.unmark {a:Addr} (ok:X.Ok) (I:Inv (X.markC a xe) pins σ H s):Inv X pins σ H s:=
  ⟨ok,I.os,I.bare,I.base,I.loc,I.cell,I.free,I.freeC,I.pin,I.hok,I.len⟩
theorem Oa {M:Model} {A:Around} {E:Value->Shared->Prop} {i:Nat} {x:Str} {v:V} {Q:Unit->Shared->Prop} (I:Inv X pins σ H s) (hN:X.N.Nodup) (hi:X.N[i]?=some x) (hx:X.env.scope.names.lookup x=some .local) (hv:σ[i]?=some (some v))
    (h:∀ s',Inv X pins (σ.set i none) H s'->Q () s'):wpAny M A (unbindName X.env x) Q E s:=by
  obtain ⟨m,hn,hl⟩:=id I.loc;have hcls:(X.env.scope.kind == .class||(X.env.scope.kind == .module&&X.env.locals != X.env.globals))=false:=by rw [I.ok.kind];rfl
  obtain ⟨u0,_,q0⟩:=hl i x v hi hv (.inl hx);have hm:m x=some u0:=by
    rcases q0 with ⟨_,e⟩ | ⟨k,_⟩
    · exact e
    · rcases k with k | k
      · rw [show X.env.kindOf x=some .local from hx] at k;cases k
      · rw [show X.env.kindOf x=some .local from hx] at k;cases k
  have hiσ:i<σ.length:=by rw [I.len];exact (Ac3.mp hi).1
  have cne:=I.cne;refine wpAny_unbindName_local hx hn hm hcls λ h' u hn' hs=> ?_;obtain ⟨oL,_,_,hoL,_⟩:=id hn;have neL:∀ b o,X.s₀.heap.get? b=some o->b≠X.env.locals:=λ b o e=>Ac2 (Ab4 (Aa6 e) I.ok.above);refine h _ ⟨I.ok,I.os,I.bare,⟨λ b o e n hb hx=> ?_,λ b o e n hb hx=> ?_,I.base.free,λ b o e hx=> ?_,I.base.tups,I.base.frzs,I.base.tbls⟩,⟨_,hn',λ j y v' e1 e2 e3=> ?_⟩,λ y c e=> ?_,I.free,I.freeC,λ p hp=> ?_,λ b ob e=> ?_,by simpa using I.len⟩
  · exact (hs.2 b (neL b o e)).trans (I.base.keep b o e n hb hx)
  · obtain ⟨sl,e1⟩:=I.base.slot b o e n hb hx;exact ⟨sl,(hs.2 b (neL b o e)).trans e1⟩
  · obtain ⟨o',e1⟩:=I.base.there b o e hx;exact ⟨o',(hs.2 b (neL b o e)).trans e1⟩
  · by_cases hj:j=i
    · subst hj;rw [List.getElem?_set_self hiσ] at e2;cases e2
    · rw [List.getElem?_set_ne (Ne.symm hj)] at e2;obtain ⟨u',r',q⟩:=hl j y v' e1 e2 e3;refine ⟨u',r',?_⟩;rcases q with ⟨k,e⟩ | ⟨k,c,e,z⟩
      · refine .inl ⟨k,?_⟩;have:y≠x:=λ e=>hj (Il hN e1 (e▸hi));simp [this,e]
      · exact .inr ⟨k,c,e,z.sameBut hs (cne y c e)⟩
  · obtain ⟨w',z⟩:=I.cell y c e;exact ⟨w',z.sameBut hs (cne y c e)⟩
  · obtain ⟨e,n,ne,nf,d⟩:=I.pin p hp;exact ⟨(hs.2 p.1 ne).trans e,n,ne,nf,d⟩
  · refine (I.hok b ob e).stay (λ c w' hc q=>(hs.2 c ?_).trans q) (λ _ q=>q) λ _ _ q=>q;rintro rfl;rcases hc with rfl | hc
    · rw [I.free] at e;cases e
    · rw [I.free] at hc;cases hc
end
def S4 (j:Nat) (D:Ends):Ends:={ nx:=λ σ H=>D.nx (σ.set j none) H,rt:=D.rt,bk:=λ σ H=>D.bk (σ.set j none) H,ct:=λ σ H=>D.ct (σ.set j none) H }
def Pk (K:PySem.W.Frag) (CL:Addr) (len j:Nat) (ts:TS) (D:Ends):XK:=λ cls od H'=>∃ C,cls= .ref C/\PySem.W.exmOne K cls (.ref CL)=some true/\
  ∀ (a:Addr) (σ:St),H' a=none->σ.length=len->ts (S4 j D) (σ.set j (some (.ref a))) (upd H' a (Ie a C od))
def VU (K:PySem.W.Frag) (CL:Addr) (len j:Nat) (tb:XK->TS) (ts:TS):TS:=λ D σ H=>tb (Pk K CL len j ts D) D σ H
end L2
namespace L2
open PySem PySem.Spec PyProof.Rows PySem.W
theorem OQ {X:Cx} {x n:Str} {CL:Addr} {j:Nat} {body:List Stmt} {b₀:Stmt} {suite:List Stmt} {tb:XK->TS} {ts:TS} {xp hp pos:Pos} (hst:X.stack=X.env::X.outer) (hf:X.env.frame=some X.env.locals) (hm:X.mg x=some (.ref CL))
    (hN:X.N.Nodup) (hj:X.N[j]?=some n) (hx:X.env.scope.names.lookup n=some .local)
    (hb:∀ (pn:List (Addr × Obj)) (xe:Value->Shared->Prop) (E:XK),BP (CXE X.prog X.w) (X.tryC pn xe) E->PSs (X.tryC pn xe) body (tb E)) (hs:∀ (a:Addr) (xe:Value->Shared->Prop),PSs (X.markC a xe) (b₀::suite) ts)
    (hg:Gl X x:=by rfl) (hd:(x == ("__debug__":Str))=false:=by decide):
    PS X (.Try body [.ExceptHandler (some (.Name x xp)) (some n) (b₀::suite) hp] [] [] pos) (VU X.K CL X.N.length j tb ts):=by
  intro pins s σ H D I h;refine wpAny_Try_except ?_;have pass:BP (CXE X.prog X.w) (X.tryC (X.pn++pins) (λ e s₁=>wpAny (model X.prog X.w) X.A (noteFrame e X.env) (λ _ s₂=>wpAny (model X.prog X.w) X.A (setFlight e none) (λ _ s₃=>wpAny (model X.prog X.w) X.A (handleBy e X.env [.ExceptHandler (some (.Name x xp)) (some n) (b₀::suite) hp]) (SP X pins D) X.xe s₃) X.xe s₂) X.xe s₁)) (Pk X.K CL X.N.length j ts D):=by
    intro pins' σ' H1 s1 e s' I1 hc;have I1':Inv X pins σ' H1 s1:=I1.untry I.ok;refine bW I1' hst hf hc λ a C t od H' B h3 e0 fl3 u3 di3 inv an q=> ?_;subst e0;obtain ⟨C',eC,hx',hr⟩:=q;cases eC;have I3:=(inv h3 fl3 u3 di3).1;obtain ⟨oa,hoa,hca⟩:=fl3.there;refine wpAny_handleBy_cons (codeAny_handlers_test ?_) (by intro q;cases q);refine Calls.Name_function_global I.ok.kind hg (Calls.loadGlobal_global (by rw [I.ok.glob];exact I.mod.glob.keeps I3.bk) hm ?_) hd;have lt:Looks (model X.prog X.w) h3 (typeOf (.ref a)) (.ref C):=hca▸(Looks.ld hoa).andThen .now;refine Looks.here (s:={ s' with heap:=h3 }) (PySem.W.exm_one (K:=X.K) I3.kIn lt hx') ?_;show codeAny _ _ (.handlers (.ref a) [.ExceptHandler none (some n) (b₀::suite) hp] X.env) _ _;refine codeAny_handlers_suite_as ?_;refine Rk (base:=B) (l:=X.stack) (s:={ s' with heap:=h3 }) fl3.1 fl3.2.2.1 fl3.2.2.2 λ h4 k1 k2 k3 k4 kd4=> ?_;have fl4:B.FlyingW X.stack a (.ref C) (.ref t) h4:=⟨k1,fl3.2.1,k2,k3⟩;have u4:s'.heap.UpToSlots h4:=IV u3 λ b o e nf=>⟨o.slots,k4 b o e nf⟩;have I4:=(inv h4 fl4 u4 (di3.on kd4 (let ⟨o,e,_⟩:=fl4.there;⟨o,e⟩))).2;refine Ea (v:= .ref a) I4 hN hj (.inl hx) rfl (λ s5 I5=> ?_) (.inr hx);refine Ad5 (hs a _ pins s5 _ _ (S4 j D) I5.markC (hr a σ' an I1'.len)) (λ f s6 hq=> ?_) λ _ _ y=>y;have fin:∀ σ6 H6,Inv X pins σ6 H6 s6->∀ Qf:Shared->Prop,(∀ s7,Inv X pins (σ6.set j none) H6 s7->Qf s7)->wpAny (model X.prog X.w) X.A (do bindName X.env n .none;unbindBehindTheSuite X.env n hp) (λ _ s₃=>Qf s₃) X.xe s6:=λ σ6 H6 I6 Qf hQ=>by
      refine Aa0 (bindName_ (Ea (v:= .non) I6 hN hj (.inl hx) rfl (λ s7 I7=> ?_) (.inr hx)));unfold unbindBehindTheSuite;have hl6:j<σ6.length:=by rw [I6.len];exact (Ac3.mp hj).1
      refine Ah0 (Oa (v:= .non) I7 hN hj hx (by rw [List.getElem?_set_self hl6]) λ s8 I8=> ?_);rw [List.set_set] at I8;exact hQ s8 I8
    show wpAny (model X.prog X.w) X.A (do bindName X.env n .none;unbindBehindTheSuite X.env n hp) (λ _ s₃=>SP X pins D f s₃) X.xe s6;cases f with
    | next=>
      obtain ⟨σ6,H6,I6,q6⟩:=hq;exact fin σ6 H6 (I6.unmark I.ok) _ λ s7 I7=>⟨_,_,I7,q6⟩
    | brk=>
      obtain ⟨σ6,H6,I6,q6⟩:=hq;exact fin σ6 H6 (I6.unmark I.ok) _ λ s7 I7=>⟨_,_,I7,q6⟩
    | cont=>
      obtain ⟨σ6,H6,I6,q6⟩:=hq;exact fin σ6 H6 (I6.unmark I.ok) _ λ s7 I7=>⟨_,_,I7,q6⟩
    | ret u=>
      obtain ⟨v6,σ6,H6,I6,r6,q6⟩:=hq;exact fin σ6 H6 (I6.unmark I.ok) _ λ s7 I7=>⟨v6,_,_,I7,r6,q6⟩
  refine Ad5 (hb _ _ _ pass [] s σ H D I.tryC h) (λ f s₁ hq=> ?_) λ _ _ y=>y;cases f with
  | next=>
    obtain ⟨σ',H',I',q'⟩:=hq;exact wpAny_execs_nil ⟨σ',H',I'.untry I.ok,q'⟩
  | brk=>
    obtain ⟨σ',H',I',q'⟩:=hq;exact ⟨σ',H',I'.untry I.ok,q'⟩
  | cont=>
    obtain ⟨σ',H',I',q'⟩:=hq;exact ⟨σ',H',I'.untry I.ok,q'⟩
  | ret u=>
    obtain ⟨v',σ',H',I',r',q'⟩:=hq;exact ⟨v',σ',H',I'.untry I.ok,r',q'⟩
end L2
namespace HT
open PySem PySem.Spec PyProof.Rows PySem.W PySem.Calls PySem.Builtin PySem.Builtin.ObjectAttr PySem.Builtin.Getset_descriptor
def ExcAt (a C:Addr) (h:Heap):Prop:=∃ o,h.get? a=some o/\o.cls= .ref C
structure ExcKind (K:Frag) (C:Addr):Prop where
  cl:(clsIn K C).isSome=true
  ga:findIn K (.ref C) "__getattribute__"=some (some (.builtin "BaseException.__getattribute__"))
  ng:findIn K (.ref C) "__getattr__"=some none
  hb:mroIn K C (.type "BaseException")=some true
  ha:findIn K (.ref C) "__class__"=some (some (.builtin "object.__class__"))
  hn:specialIn K (.builtin "object.__class__") "__get__"=some (some (.builtin "getset_descriptor.__get__"))
  htk:takesIn K (.builtin "object.__class__")=some true
  hm:mroIn K C (.type "object")=some true
theorem ExcAt.type {M:Model} {h:Heap} {a C:Addr} (x:ExcAt a C h):Looks M h (typeOf (.ref a)) (.ref C):=by
  obtain ⟨o,e,c⟩:=x;exact c▸(Looks.ld e).andThen .now
theorem Ox {K:Frag} {M:Model} {h:Heap} {a C:Addr} (k:ExcKind K C) (X:K.In h):Looks M h (find (.ref a) (.ref C) "__class__") (.bind (.builtin "getset_descriptor.__get__") (.builtin "object.__class__")):=by
  have L1:=looks_findIn (M:=M) X k.ha;have L2:Looks M h (getOf (some (.builtin "object.__class__"))) (some (.builtin "getset_descriptor.__get__")):=looks_specialIn X k.hn;have L3:=looks_takesIn (M:=M) X k.htk;exact L1.andThen (L2.andThen ((show Looks M h (dataDescriptor? (some (.builtin "object.__class__")) (some (.builtin "getset_descriptor.__get__"))) (some (.builtin "getset_descriptor.__get__", .builtin "object.__class__")) from L3.andThen .now).andThen (Looks.tag .now)))
section
variable {prog:Program} {w:World} {A:Around} {E:Value->Shared->Prop} {s:Shared} {K:Frag} {a C:Addr}
theorem Qo {R:Result->Shared->Prop} {tp:Value} (X:K.In s.heap) (x:ExcAt a C s.heap) (hm:mroIn K C (.type "object")=some true) (h:R (.ok (.ret (.ref C))) s):
    codeAny (model prog w) A (.call (.builtin "getset_descriptor.__get__") ⟨[.builtin "object.__class__", .ref a,tp],[]⟩) R s:=by
  obtain ⟨hh,g,dr,t,os⟩:=s;have L0:=x.type (M:=model prog w);have L1:=looks_mroIn (M:=model prog w) X hm;refine codeAny_call_builtin KF.slot_gs.plain KF.entry_gs (KF.slot_gs.check _ _ _ _ _ _ _ _ KF.type_class (KF.args_gs _ _ _) ?_);unfold Builtin.«getset_descriptor.__get__» descrGet;rw [dga_obj];refine Aa0 (Aa5 ?_);unfold descrGetter descrCheckInstance descrNameAndClass isInstance;simp only [KF.owner_class]
  repeat lk
  refine ⟨Code.quiet_builtin _ (by decide +kernel),codeAny_builtin KF.entry_class ?_⟩;unfold Builtin.«object.__class__» shownTypeOf
  repeat lk
  exact h
theorem NW {Q:Unit->Shared->Prop} {nameV:Value} (k:ExcKind K C) (X:K.In s.heap) (x:ExcAt a C s.heap) (h:Q () s):wpAny (model prog w) A (checkBuiltinCall "BaseException.__getattribute__" ⟨[.ref a,nameV],[]⟩) Q E s:=by
  have hk:builtinKind "BaseException.__getattribute__"=some .slot:=by decide +kernel
  have hsplit:splitId "BaseException.__getattribute__"=some ("BaseException","__getattribute__"):=by decide +kernel
  have ha:=PySem.F.args_bexc_ga (.ref a) nameV;have L0:=x.type (M:=model prog w);have L1:=looks_mroIn (M:=model prog w) X k.hb;simp only [checkBuiltinCall,hk,hsplit];refine Aa0 ?_;unfold isInstance
  repeat lk
  exact h
theorem NZ {Q:Option Value->Shared->Prop} (k:ExcKind K C) (X:K.In s.heap) (x:ExcAt a C s.heap) (h:Q (some (.ref C)) { s with toks:=s.toks+1 }):wpAny (model prog w) A (getAttr? (.ref a) "__class__") Q E s:=by
  obtain ⟨hh,g,d,t,os⟩:=s;have L0:=x.type (M:=model prog w);have L1:=looks_findIn (M:=model prog w) X k.ga;have L2:=looks_findIn (M:=model prog w) X k.ng;have L3:=Ox (M:=model prog w) (a:=a) k X;unfold getAttr? getAttrBy? getAttrBy;refine Aa0 (wpAny_mkText (Aa0 (Af3 (Ad9 (Aa0 (L0.at (Aa0 (L1.at ?_))))))));show wpAny _ _ (getAttrByItsOwn (.ref a) _ (.ref C) (.builtin "BaseException.__getattribute__") false false) _ _ _;unfold getAttrByItsOwn;refine Aa0 (L2.at ?_);refine Aa0 (Af3 (Ad9 ?_));show wpAny _ _ (boundAndCalled (.builtin "BaseException.__getattribute__") (.ref a) _) _ _ _;unfold boundAndCalled;rw [PySem.F.excAttr_ValueError.ga.bind (.ref a)];refine Aa0 (Aa5 ?_);refine wpAny_call (codeAny_call_builtin PySem.F.excAttr_ValueError.ga.plain PySem.F.entry_bexc_ga (NW (s:=⟨hh,g,d,t+1,os⟩) k X x ?_));unfold Builtin.«object.__getattribute__»
  iterate 22 lk
  refine wpAny_call (Qo (s:=⟨hh,g,d,t+1,os⟩) X x k.hm ?_)
  repeat lk
  exact h
theorem kitx_exc (k:ExcKind K C):KitX K (.ref a) (.ref C) (ExcAt a C) where
  ty:=λ _ _ _ x=>x.type
  it:=λ _ _ X _=>by
    obtain ⟨cd,hc⟩:=Option.isSome_iff_exists.mp k.cl;unfold clsIn at hc;split at hc
    · rename_i c' d' cd' sl' ho
      intro A' Q' E' s' kk q;unfold isType loadHead;exact Aa0 (wpAny_loadPart (kk _ _ (X _ _ ho)) (Aa5 q))
    · cases hc
  ne:=λ h tp dd its n sl X htp=>by
    obtain ⟨cd,hc⟩:=Option.isSome_iff_exists.mp k.cl;refine Ae2.mpr λ q=> ?_;have e:C=tp:=Value.ref.inj (beq_iff_eq.mp q);subst e;unfold clsIn at hc;split at hc
    · rename_i c' d' cd' sl' ho
      have z:=(X _ _ ho).symm.trans htp;cases z
    · cases hc
  ca:=λ X x h=>NZ k X x h
end
end HT
namespace L2
open PySem PySem.Spec PyProof.Rows
theorem Pz {X:Cx} {pins:List (Addr × Obj)} {σ:St} {H:Hp} {s:Shared} {A:Around} {E:Value->Shared->Prop} {Q:Value->Shared->Prop} {a C:Addr} {od:Option Addr} {c:Value} {b:Bool} (I:Inv X pins σ H s) (e:H a=some (Ie a C od)) (k:HT.ExcKind X.K C)
    (h:PySem.W.kitOne X.K (.ref C) c=some b) (hq:∀ tk,Q (.bool b) { s with toks:=tk }):wpAny (model X.prog X.w) A (call (.builtin "isinstance") [.ref a,c]) Q E s:=
  PySem.W.kia_one (HT.kitx_exc k) I.kIn (show HT.ExcAt a C s.heap from let ⟨o,h1,h2,_⟩:=(show ObjOk X.prog X.w H s.heap a (Ie a C od) from I.hok a _ e).1;⟨o,h1,h2⟩) h (λ z=>nomatch z) hq
def Ma (K:PySem.W.Frag):List V->Hp->VK->Prop:=λ xs H Q=>∃ (y c:V) (cv t:Value) (b:Bool),xs=[y,c]/\((∃ D,c= .ref D/\cv= .ref D)\/∃ T,c= .ty T/\cv= .type T)/\PySem.W.kitOne K t cv=some b/\
  (TyOf K H y t\/∃ a C od,y= .ref a/\H a=some (Ie a C od)/\t= .ref C/\HT.ExcKind K C)/\Q (.bl b) H
theorem CY {X:Cx} {K:PySem.W.Frag} (hK:X.K=K:=by rfl):Cf X (.builtin "isinstance") (Ma K):=by
  subst hK;intro pins s σ H xs us Q I r h;obtain ⟨y,c,cv,t,b,rfl,hc,e,hy,q⟩:=h;obtain ⟨u,c',rfl,rx,rc⟩:=PZ r;have ec:c'=cv:=by
    rcases hc with ⟨D,rfl,rfl⟩ | ⟨T,rfl,rfl⟩
    · exact rc
    · exact rc
  subst ec;rcases hy with ty | ⟨a,C,od,rfl,ha,rfl,k⟩
  · exact Km I rx ty e λ tk=>⟨.bl b,H,I.tok tk,rfl,q⟩
  · cases rx;exact Pz I ha k e λ tk=>⟨.bl b,H,I.tok tk,rfl,q⟩
theorem CC {K:PySem.W.Frag} {H:Hp} {Q:VK} {a C D:Addr} {od:Option Addr} {b:Bool} (ha:H a=some (Ie a C od)) (k:HT.ExcKind K C) (e:PySem.W.kitOne K (.ref C) (.ref D)=some b) (h:Q (.bl b) H):Ma K [.ref a, .ref D] H Q:=
  ⟨_,_,_,_,b,rfl, .inl ⟨D,rfl,rfl⟩,e, .inr ⟨a,C,od,rfl,ha,rfl,k⟩,h⟩
theorem NU {K:PySem.W.Frag} {H:Hp} {Q:VK} {a C:Addr} {od:Option Addr} {T:String} {b:Bool} (ha:H a=some (Ie a C od)) (k:HT.ExcKind K C) (e:PySem.W.kitOne K (.ref C) (.type T)=some b) (h:Q (.bl b) H):Ma K [.ref a, .ty T] H Q:=
  ⟨_,_,_,_,b,rfl, .inr ⟨T,rfl,rfl⟩,e, .inr ⟨a,C,od,rfl,ha,rfl,k⟩,h⟩
end L2
namespace HT
open PySem PySem.Spec PyProof.Rows PySem.W
theorem own_mk {K:Frag} {base:Heap} {mg:Str->Option Value} {x:Str} {C:Addr} {bmB:List Value} {newId:String} (X:K.In base) (hm:mg x=some (.ref C)) (q:excIn K C bmB newId=true):OwnCls x C bmB newId mg base:=by
  refine ⟨hm,?_⟩;unfold excIn at q;split at q
  · rename_i dd cd sl ho
    split at q
    · rename_i C' bm k0 k1 k2 k3 n k5 hm' hs
      simp only [Ab3,beq_iff_eq,Bool.not_eq_true'] at q;obtain ⟨⟨⟨⟨⟨rfl,rfl⟩,hdel⟩,ht⟩,hok⟩,hni⟩:=q;obtain ⟨nm,bs,mro,ns,qn,hd,sn,sub,ab,col,del⟩:=cd;dsimp only at hm' hdel hok hni;subst hm' hdel;obtain ⟨l⟩:=sl;have hsl:l=[k0,k1,k2,k3,some (.builtin n),k5]:=hs;subst hsl;exact ⟨bm,ns,nm,qn,bs,hd,sn,sub,ab,col,dd,k0,k1,k2,k3,k5,_,X _ _ ho, .of_isNs (isNs_of_in X hok),nsMap_none_of_in X hok hni,tail_of_in X ht⟩
    · cases q
  · cases q
end HT
namespace L2
open PySem PySem.Spec PyProof.Rows
def BF (P:Program) (w:World) (K:PySem.W.Frag) (mg:Str->Option Value) (base:Heap) (x:Str) (k:Nat) (ps:List Str) (sp:Sp):Prop:=
  ∃ f fd,mg x=some (.ref f)/\PySem.W.keepIn K (.ref f)=true/\FnOk P w K mg base (CXE P w) k f fd ps sp/\Binds K fd ps []
def Ga (P:Program) (w:World) (K:PySem.W.Frag) (mg:Str->Option Value) (base:Heap) (x:Str) (C:Addr) (k:Nat) (ps:List Str) (sp:Sp):Prop:=
  ∃ f fd,mg x=some (.ref C)/\Mk K C f/\FnOk P w K mg base (CXE P w) k f fd ps sp/\Binds K fd ps []
theorem DefAt.callE {P:Program} {w:World} {K:PySem.W.Frag} {mg:Str->Option Value} {base:Heap} {x:Str} {st:Stmt} {ps:List Str} {f:Addr} {fd:FuncData} {k:Nat} {sp:Sp} (d:DefAt K mg x st ps f fd)
    (F:FnOk P w K mg base (CXE P w) k f fd ps sp):BF P w K mg base x k ps sp:=⟨f,fd,d.at',d.fn.kp,F,d.bi⟩
section
variable {X:Cx} {x:Str} {C:Addr} {k:Nat} {ps:List Str} {sp:Sp} {E:XK} {e:Expr} {es:List Expr} {t:TA} {p pos:Pos}
theorem Aw (h:BF X.prog X.w X.K X.mg X.base x k ps sp) (hr:Room k X.A) (hx:BP (CXE X.prog X.w) X E) (ha:PA X (e::es) t) (hg:Gl X x:=by rfl) (hdb:(x == ("__debug__":Str))=false:=by decide)
    (he:starEach (e::es) X.env=(false,eval e X.env)::starEach es X.env:=by rfl) (hpl:(backTo pos (starEach es X.env)).any (·.1)=false:=by rfl):
    PE X (.Call (.Name x p) (e::es) [] pos) (Lb sp [] E t):=by
  obtain ⟨f,fd,hm,hk,F,hb⟩:=h;exact Nm F hr hg hm hk hb .nil hx ha hdb he hpl
theorem Eb (h:Ga X.prog X.w X.K X.mg X.base x C k ps sp) (hr:Room (k+1) X.A) (hx:BP (CXE X.prog X.w) X E) (ha:PA X (e::es) t) (hg:Gl X x:=by rfl) (hdb:(x == ("__debug__":Str))=false:=by decide)
    (he:starEach (e::es) X.env=(false,eval e X.env)::starEach es X.env:=by rfl) (hpl:(backTo pos (starEach es X.env)).any (·.1)=false:=by rfl):
    PE X (.Call (.Name x p) (e::es) [] pos) (Ko C sp [] E t):=by
  obtain ⟨f,fd,hm,M,F,hb⟩:=h;exact QM M F hr hg hm hb .nil hx ha hdb he hpl
end
theorem AF {P:Program} {w:World} {K:PySem.W.Frag} {mg:Str->Option Value} {base:Heap} {N:List Str} {qual:Str} {scope:Scope} {f:Addr} {cd:Value} {A:Around} {outer:List Env} {s₀:Shared} {H₀:Hp} {E:XK}:
    BP (CXE P w) (EV (CXE P w) P w K mg base N qual scope f cd A outer s₀ H₀ E) E:=Od λ _ _ _ h=>h
section
variable {P:Program} {w:World} {K:PySem.W.Frag} {mg:Str->Option Value} {base:Heap}
theorem Fun.okE {x qual:Str} {st:Stmt} {f:Addr} {fd:FuncData} {N ps:List Str} {k:Nat} {sp:Sp} (F:Fun K x qual st f fd) (S:FnScope N ps (Ah st)) (len:∀ vs H Q E,sp vs H Q E->vs.length=ps.length)
    (hbody:∀ (cdv:Value) (A:Around) (outer:List Env) (s:Shared) (H:Hp) (vs:List V) (Q:VK) (E:XK),Room k (A.deeper (envOfC qual (Ah st) s.heap.objs.size f cdv))->sp vs H Q E->
      ∃ t,PSs (EV (CXE P w) P w K mg base N qual (Ah st) f cdv A outer s H E) (Ds st) t/\t { nx:=λ _ H'=>Q .non H',rt:=Q } (start N vs) H):FnOk P w K mg base (CXE P w) (k+1) f fd ps sp:=by
  obtain ⟨oc,od,kV,doc,pm,an,cdv,ct,osl,rfl,lk,hcd⟩:=F.ex;refine RI lk hcd S len λ A outer s H vs Q E hr hsp=> ?_;exact hbody cdv A outer s H vs Q E hr hsp
theorem Cp {N:List Str} {qual:Str} {scope:Scope} {f:Addr} {cd:Value} {A:Around} {outer:List Env} {s₀:Shared} {H₀:Hp} {E:XK} {x:Str} {C:Addr} {e₀:Expr} {B9:List Expr} {np cpos pos:Pos} {ta:TA} (hm:mg x=some (.ref C))
    (q:PySem.W.excIn K C [.type "ValueError", .type "Exception", .type "BaseException", .type "object"] "ValueError.__new__"=true) (ha:PA (EV (CXE P w) P w K mg base N qual scope f cd A outer s₀ H₀ E) (e₀::B9) ta)
    (he:starEach (e₀::B9) (envOfC qual scope s₀.heap.objs.size f cd)=(false,eval e₀ (envOfC qual scope s₀.heap.objs.size f cd))::starEach B9 (envOfC qual scope s₀.heap.objs.size f cd):=by rfl)
    (hplain:(backTo cpos (starEach B9 (envOfC qual scope s₀.heap.objs.size f cd))).any (·.1)=false:=by rfl)
    (hg:Gl (EV (CXE P w) P w K mg base N qual scope f cd A outer s₀ H₀ E) x:=by rfl) (hd:(x == ("__debug__":Str))=false:=by decide):
    PS (EV (CXE P w) P w K mg base N qual scope f cd A outer s₀ H₀ E) (.Raise (some (.Call (.Name x np) (e₀::B9) [] cpos)) none pos) (OT E C ta):=λ pins s σ H D I h=>
  P0 (HT.own_mk I.mod.kin hm q) PySem.F.excBase_ValueError ha he hplain hg hd pins s σ H D I h
end
theorem HQ:bootBuiltins "ValueError"=some (.type "ValueError"):=by decide +kernel
theorem IE {X:Cx}:BP (CXE X.prog X.w) X E0:=by
  intro pins σ H s e s' I h;obtain ⟨_,_,_,_,_,_,_,_,_,_,_,_,q⟩:=h;exact False.elim q
theorem TyOf.same {K:PySem.W.Frag} {H H':Hp} {x:V} {t:Value} (h:TyOf K H x t) (s:Same H H'):TyOf K H' x t:=by
  cases h with
  | non=>exact .non
  | bl x=>exact .bl x
  | int i=>exact .int i
  | str x=>exact .str x
  | flt x=>exact .flt x
  | lst e=>exact .lst (s _ _ e)
  | frz e=>exact .frz (s _ _ e)
  | tup e=>exact .tup (s _ _ e)
  | dK e=>exact .dK (s _ _ e)
  | dT e=>exact .dT (s _ _ e)
  | ins e cl ha hn htk hm=>exact .ins (s _ _ e) cl ha hn htk hm
theorem Ty.same {K:PySem.W.Frag} {H H':Hp} {x:V} (h:Ty K H x) (s:Same H H'):Ty K H' x:=let ⟨n,t⟩:=h;⟨n,t.same s⟩
theorem Gz {C:Addr} {sp:Sp} {t:TA} {σ:St} {H:Hp} {Q:VK} {E:XK} (h:t σ H λ vs H1=>∀ x dx,H1 x=none->H1 dx=none->dx≠x->sp (.ref x::vs) (upd (upd H1 dx (.own x)) x (.ins C dx [])) (λ v H2=>v= .non/\Q (.ref x) H2) E):Ko C sp [] E t σ H Q:=by
  unfold Ko;simpa using h
theorem PU {j:Nat} {D:Ends} {σ:St} {H:Hp} (h:D.nx (σ.set j none) H):(S4 j D).nx σ H:=h
theorem OR {K:PySem.W.Frag} {CL:Addr} {len j:Nat} {tb:XK->TS} {ts:TS} {D:Ends} {σ:St} {H:Hp} (h:tb (Pk K CL len j ts D) D σ H):VU K CL len j tb ts D σ H:=h
end L2
namespace HT
open PySem PySem.Spec PyProof.Rows PySem.SeqAt
open PySem.AutoSeq1 (wpAny_loadPart')
open PySem.MeetsSeq PySem.MeetsSeq2 PySem.MeetsSeq3
section
variable {A:Around} {s:Shared}
end
end HT
namespace L2
open PySem PySem.Spec PyProof.Rows
inductive DX where
  | d (d:Dt) | dic | tdic (B9:List Dt)
inductive Rx (H:Hp) (n:Nat):V->DX->Prop
  | d {v:V} {d:Dt} (r:Rp H FT n v d):Rx H n v (.d d)
  | dic {a:Addr} (h:H a=some (.dK [])):Rx H n (.ref a) .dic
  | tdic {t a:Addr} {ws:List V} {ds:List Dt} (ht:H t=some (.tup (.ref a::ws))) (h:H a=some (.dK [])) (l:ws.length=ds.length) (e:∀ (i:Nat) (v:V) (d:Dt),ws[i]?=some v->ds[i]?=some d->Rp H FT n v d):Rx H n (.ref t) (.tdic ds)
section
variable {X:Cx} {pins:List (Addr × Obj)} {σ:St} {H:Hp} {s:Shared}
end
theorem Mh {X:Cx} {K:PySem.W.Frag} (hK:X.K=K:=by rfl):OpR X (binaryOp .Add) (Qa K):=by subst hK;exact Q4
theorem K7 {K:PySem.W.Frag} {H:Hp} {Q:VK} {a b:Addr} {xs ys:List V} (c:SqT K H a xs) (d:SqT K H b ys) (n:xs≠[]) (n2:ys≠[]) (l:xs.length+ys.length<=100000) (h:∀ p,H p=none->Q (.ref p) (upd H p (.tup (xs++ys)))):Qa K (.ref a) (.ref b) H Q:=
  ⟨a,b,xs,ys,rfl,rfl,c,d,n,Ab8 l (by decide),λ e=>absurd e n2,λ _=>h⟩
theorem teJ {t:TE} {σ:St} {H:Hp} {R:VK} (P:V->Hp->Prop) (h1:∀ v H',P v H'->R v H') (h2:∀ R':VK,(∀ v H',P v H'->R' v H')->t σ H R'):t σ H R:=h2 R h1
end L2
namespace L2
open PySem PySem.Spec PyProof.Rows PySem.W
def exO (a:Addr) (o:Obj):HO:= .ext λ h=>h.get? a=some o
section
variable {P:Program} {w:World} {K:PySem.W.Frag} {mg:Str->Option Value} {base:Heap} {N:List Str} {qual:Str} {scope:Scope} {f:Addr} {cd:Value} {cl:List (Str × Addr)} {A:Around} {outer:List Env} {s:Shared} {H:Hp} {E:XK}
structure ClOkL (N:List Str) (scope:Scope) (cl:List (Str × Addr)) (h:Heap) (H:Hp) (vs:List V):Prop where
  len:vs.length=N.length
  inj:∀ x y c,cl.lookup x=some c->cl.lookup y=some c->x=y
  has:∀ x,(scope.names.lookup x=some .cell\/scope.names.lookup x=some .free)->∃ c,cl.lookup x=some c
  val:∀ (i:Nat) (x:Str) (v:V),N[i]?=some x->vs[i]?=some v->∃ c u,scope.names.lookup x=some .free/\cl.lookup x=some c/\RelV v u/\h.IsCell c (some u)
  cell:∀ x c,cl.lookup x=some c->(∃ v,h.IsCell c v)/\H c=none
end
def ZG (qual:Str) (oc:Obj):Prop:=∃ vs t,oc.data= .fields vs/\vs[1]?=some (.str qual t)
structure LamX (X:Cx) (c P:Addr):Prop where
  code:X.env.code= .ref c
  hd:CodeHd X.base c P
  blt:X.base.BuiltinsAt X.mg P
section
variable {X:Cx} {pins:List (Addr × Obj)} {σ:St} {H:Hp} {s:Shared}
end
structure LamOk (params:Arguments) (scope:Scope):Prop where
  kind:scope.kind= .function
  co:scope.isCoroutine=false
  gen:scope.isGenerator=false
  cell:∀ x∈scope.names,x.2≠ .cell
  bind:∀ (qual:Str) (body:Expr) (cl:List (Str × Addr)) (pm cdv ctv:Value),bindArgs (kla_fn "<lambda>" qual params body scope cl pm cdv ctv) ⟨[],[]⟩=pure []
section
variable {P:Program} {w:World} {K:PySem.W.Frag} {mg:Str->Option Value} {base:Heap}
structure ThAt (s:Shared) (H:Hp) (outer:List Env) (f c':Addr) (oc:Obj) (N:List Str) (qual:Str) (scope:Scope) (cl:List (Str × Addr)) (params:Arguments) (body:Expr) (pm ctv:Value) (vs:List V):Prop where
  hf:s.heap.get? f=some (kla_obj "<lambda>" qual params body scope cl pm c' ctv)
  hf0:H f=none
  nf:f∉frs outer
  hc:H c'=some (exO c' oc)
  hoc:ZG qual oc
  C:ClOkL N scope cl s.heap H vs
  nc:∀ x c,cl.lookup x=some c->c∉frs outer
  lo:LamOk params scope
end
theorem ND {K:PySem.W.Frag} {H:Hp} {a:Addr} {xs:List V} {σ0:St} {ps:List (V × V)} (h:SqL K H a xs) (hp:∀ i,i<xs.length->∃ b,xs.getD i .non= .ref b/\H b=some (.tup [(ps.getD i (.non, .non)).1,(ps.getD i (.non, .non)).2])) (h0:σ0[0]?=some none) (h1:σ0[1]?=some none):
    SrcOk (Itl K a) (Jk K 2 (Cc (AO 0) (Cc (AO 1) Jm))) σ0 H xs.length (λ i=>(σ0.set 0 (some (ps.getD i (.non, .non)).1)).set 1 (some (ps.getD i (.non, .non)).2)) where
  go:=λ i H' hi s=>⟨xs,xs[i],s.seq h,by simp [hi]⟩
  stop:=λ H' s=>⟨xs,s.seq h,Aa7 _⟩
  yld:=λ i H' x H'' R hi s y k=>by
    obtain ⟨e,hv⟩:=y;subst e;have e:x=xs.getD i .non:=by
      have:=hv xs (s.seq h);rw [Aa3,this];rfl
    subst e;obtain ⟨b,eb,hb⟩:=hp i hi;rw [eb];exact ⟨b,_,rfl,SqT.of (s _ _ hb),rfl,_,_,rfl,_,_,rfl,rfl,k _ (Same.refl _)⟩
  kp:=λ i hi=>((Kp.refl _).set h0).set h1
def bar (T:Addr) (H:Hp):Hp:=λ b=>if b=T then none else H b
theorem Pe {T:Addr} {H:Hp}:Same (bar T H) H:=λ b o e=>by
  by_cases hb:b=T
  · have e':=(if_pos hb).symm.trans e;cases e'
  · exact (if_neg hb).symm.trans e
end L2
namespace L2
open PySem PySem.Spec PyProof.Rows
section
variable {X:Cx} {K:PySem.W.Frag} {e lo st:Expr} {te tl ts:TE} {pos p2:Pos}
end
section
variable {J:It} {g:TG} {σ0:St} {H:Hp} {n:Nat} {st:Nat->St} {te:TE} {Q:VK} {D:Addr}
end
end L2
namespace L2
open PySem PySem.Spec PyProof.Rows PySem.W
section
variable {prog:Program} {w:World} {A:Around} {E:Value->Shared->Prop} {s:Shared}
theorem Om {a:Addr} {Q:Option Obj->Shared->Prop} {M:Model} (h:Q (s.heap.get? a) s):wpAny M A (loadIfAlive a) Q E s:=λ Γ p hΓ=>by
  unfold loadIfAlive;rw [Sem.wp_loadIfAlive];exact h
def MK (t:Addr) (b:Bool) (TI:Addr) (v:Value):Obj:={ cls:= .type "zip",data:= .fields #[rawInt t, .bool b, .bool false, .ref TI,v] }
structure ZipAg (t1 t2:Bool) (h:Heap) (z TI i1 i2 l1 l2 t:Addr) (k:Nat):Prop where
  hz:∃ b v,h.get? z=some (MK t b TI v)
  ht:∃ o,h.get? t=some o
  hTI:IsPair h TI (.ref i1) (.ref i2)
  h1:BH t1 h i1 l1 k
  h2:BH t2 h i2 l2 k
theorem J5 {z TI t:Addr} {b:Bool} {v:Value} {o:Obj} {Q:Bool->Shared->Prop} (hz:s.heap.get? z=some (MK t b TI v)) (ht:s.heap.get? t=some o)
    (k:∀ h',h'.get? z=some (MK t true TI v)->Heap.SameBut z s.heap h'->Q false { s with heap:=h' }):wpAny (model prog w) A (Builtin.SmallTypes.ownedTupleIsFree (.ref z)) Q E s:=by
  unfold Builtin.SmallTypes.ownedTupleIsFree;refine Aa0 (Ab9 hz rfl (x:=rawInt t) rfl ?_);show wpAny _ _ (loadIfAlive ((t:Int).toNat) >>= _) _ _ _;refine Aa0 (Om ?_);rw [Ae1,ht];show wpAny _ _ (field (.ref z) 1 >>= _) _ _ _;refine Aa0 (Ab9 hz rfl (x:= .bool b) rfl ?_);cases b with
  | true=>exact Aa5 (k s.heap hz (Heap.SameBut.refl _ _))
  | false=>
    show wpAny _ _ (setField (.ref z) 1 (.bool true) >>= _) _ _ _;exact Aa0 (Ac1 hz (by simp) λ a1 za b1=>Aa5 (k a1 za b1))
theorem Nz {t1 t2:Bool} {z TI TO i1 i2 l1 l2 t:Addr} {k:Nat} {xs ys:Array Value} {x y:Value} {Q:Value->Shared->Prop} (D:ZipApart z TI TO i1 i2 l1 l2) (Z:ZipAg t1 t2 s.heap z TI i1 i2 l1 l2 t k) (n1:t≠i1) (n2:t≠i2) (nz:t≠z)
    (q1:A8 t1 s.heap l1 xs) (q2:A8 t2 s.heap l2 ys) (hx:xs[k]?=some x) (hy:ys[k]?=some y)
    (fin:∀ h',ZipAg t1 t2 h' z TI i1 i2 l1 l2 t (k+1)->IsPair h' s.heap.objs.size x y->(∀ c o,c≠z->c≠i1->c≠i2->s.heap.get? c=some o->h'.get? c=some o)->Q (.ref s.heap.objs.size) { s with heap:=h' }):
    wpAny (model prog w) A (Builtin.«zip.__next__» ⟨[.ref z],[]⟩) (λ fin s'=>∃ v,fin= .done (.ret v)/\Q v s') E s:=by
  obtain ⟨⟨b,v,hz⟩,⟨o,ht⟩,hTI,g1,g2⟩:=Z;show wpAny _ _ (field (.ref z) 2 >>= _) _ _ _;refine Aa0 (Ab9 hz rfl (x:= .bool false) rfl ?_);show wpAny _ _ (field (.ref z) 3 >>= _) _ _ _;refine Aa0 (Ab9 hz rfl (x:= .ref TI) rfl (Aa0 (Ad4 hTI rfl ?_)));show wpAny _ _ (Builtin.SmallTypes.ownedTupleIsFree (.ref z) >>= _) _ _ _;refine Aa0 (J5 hz ht λ a1 za b1=> ?_);dsimp only;rw [if_neg Ab0];simp only [List.forIn_toArray,Af4,Ah3];refine Aa0 (Aa0 (Aa0 (Ad9 ?_)));show wpAny _ _ (Builtin.SmallTypes.nextOf (.ref i1) >>= _) _ _ _;refine Aa0 (BB (s:={ s with heap:=a1 }) (Ao g1 λ o e=>b1.extBut _ o D.i1z e) (AZ q1 λ o e=>b1.extBut _ o D.l1z e) hx λ a2 i1a b2=>Aa5 (Aa5 ?_));refine Aa0 (Aa0 (Ad9 ?_));show wpAny _ _ (Builtin.SmallTypes.nextOf (.ref i2) >>= _) _ _ _;have up2:∀ c o,c≠z->c≠i1->s.heap.get? c=some o->a2.get? c=some o:=λ c o n1 n2 e=>b2.extBut _ o n2 (b1.extBut _ o n1 e);refine Aa0 (BB (s:={ s with heap:=a2 }) (Ao g2 λ o e=>up2 _ o D.i2z D.i12.symm e) (AZ q2 λ o e=>up2 _ o D.l2z D.l2i1 e) hy λ a3 i2a b3=>Aa5 (Aa5 (Aa5 ?_)));dsimp only;refine Aa0 (wpAny_newTuple ?_ (by show 2<=sizeLine;decide));have sz:a3.objs.size=s.heap.objs.size:=by rw [b3.1,b2.1,b1.1]
  have up3:∀ c o,c≠z->c≠i1->c≠i2->s.heap.get? c=some o->a3.get? c=some o:=λ c o n1 n2 n3 e=>b3.extBut _ o n3 (up2 c o n1 n2 e);have gt:IsPair (a3.push { cls:= .type "tuple",data:= .seq #[x,y] }) a3.objs.size x y:=Aa8 _ rfl;rw [sz] at gt;refine Aa5 ⟨_,rfl,?_⟩;show Q (.ref a3.objs.size) _;rw [sz];refine fin _ ⟨⟨true,v,Aa1 _ (b3.extBut _ _ D.i2z.symm (b2.extBut _ _ D.i1z.symm za))⟩,⟨o,Aa1 _ (up3 t o nz n1 n2 ht)⟩,Aa1 _ (up3 TI _ D.TIz D.TIi1 D.TIi2 hTI),Ao i1a λ o e=>Aa1 _ (b3.extBut _ o D.i12 e),Ao i2a λ o e=>Aa1 _ e⟩ gt λ c o c1 c2 c3 e=>Aa1 _ (up3 c o c1 c2 c3 e)
theorem PB {t1 t2:Bool} {z TI TO i1 i2 l1 l2 t:Addr} {k:Nat} {xs:Array Value} {Q:Fin->Shared->Prop} (hh:A.handled=none) (D:ZipApart z TI TO i1 i2 l1 l2) (Z:ZipAg t1 t2 s.heap z TI i1 i2 l1 l2 t k)
    (q1:A8 t1 s.heap l1 xs) (hend:xs[k]?=none)
    (fin:∀ h' e,(∀ c o,c≠z->c≠i1->s.heap.get? c=some o->h'.get? c=some o)->(∃ o,h'.get? e=some o/\o.cls= .type "StopIteration")->E (.ref e) { s with heap:=h' }):
    wpAny (model prog w) A (Builtin.«zip.__next__» ⟨[.ref z],[]⟩) Q E s:=by
  obtain ⟨⟨b,v,hz⟩,⟨o,ht⟩,hTI,g1,g2⟩:=Z;show wpAny _ _ (field (.ref z) 2 >>= _) _ _ _;refine Aa0 (Ab9 hz rfl (x:= .bool false) rfl ?_);show wpAny _ _ (field (.ref z) 3 >>= _) _ _ _;refine Aa0 (Ab9 hz rfl (x:= .ref TI) rfl (Aa0 (Ad4 hTI rfl ?_)));show wpAny _ _ (Builtin.SmallTypes.ownedTupleIsFree (.ref z) >>= _) _ _ _;refine Aa0 (J5 hz ht λ a1 za b1=> ?_);dsimp only;rw [if_neg Ab0];simp only [List.forIn_toArray,Af4,Ah3];refine Aa0 (Aa0 (Aa0 (Ad9 ?_)));show wpAny _ _ (Builtin.SmallTypes.nextOf (.ref i1) >>= _) _ _ _;exact Aa0 (C0 (s:={ s with heap:=a1 }) hh (Ao g1 λ o e=>b1.extBut _ o D.i1z e) (AZ q1 λ o e=>b1.extBut _ o D.l1z e) hend λ a2 e b2 he=>fin a2 e (λ c o n1 n2 q=>b2 _ _ n2 (b1.extBut _ _ n1 q)) he)
end
theorem zk_slot:Slot "zip" "__getattribute__" "zip.__getattribute__":= .of (owner:="zip") (n:="__getattribute__") (by rw [typeLookup_type,builtinLookup_eq_fast];kernel_rfl) (by decide +kernel) (by decide +kernel) (by decide +kernel) (by first | exact .inl (by decide +kernel) | exact .inr (by decide +kernel)) (by rw [isSubtype_type];kernel_rfl)
theorem Oz:entryFor table "zip.__getattribute__"=some Builtin.«object.__getattribute__» := entryFor_alias (id':="object.__getattribute__") (by kernel_rfl) (by decide +kernel) (by decide +kernel) (by kernel_rfl)
theorem Ra:typeLookup (.type "zip") "keys"=pure none:=by rw [typeLookup_type,builtinLookup_eq_fast];kernel_rfl
theorem W2:typeLookup (.type "zip") "__getattr__"=pure none:=by rw [typeLookup_type,builtinLookup_eq_fast];kernel_rfl
theorem Qh (a b:Value):argsOk "zip.__getattribute__" ⟨[a,b],[]⟩:=by
  unfold argsOk;rw [signature?_of (id:="zip.__getattribute__") (n:=['_', '_', 'e', 't', 'u', 'b', 'i', 'r', 't', 't', 'a', 't', 'e', 'g', '_', '_']) (o:=['p', 'i', 'z']) (by kernel_rfl) F.owner_zip];kernel_rfl
theorem PY (a:Addr) (fs:Array Value) (u:Tok):Meets (Builtin.«object.__getattribute__» ⟨[.ref a, .str "keys" u],[]⟩) (λ A R s=>s.heap.get? a=some { cls:= .type "zip",data:= .fields fs }/\raisesAttr (.ref a) "keys" A R s):=
  Meets.of_wp λ prog w A R s hs=>by
    obtain ⟨hp,g,d,tk,os⟩:=s;obtain ⟨hx,hs⟩:=hs;have hT:(⟨hp,g,d,tk,os⟩:Shared).TypeIs (.ref a) "zip":=⟨_,hx,rfl⟩;have f9:=Ra;unfold Builtin.«object.__getattribute__»
    repeat (any_goals (first | assumption | wp_step))
    exact wpAny_raiseAttrError hs.1 hs.2 (attrMsg_fits (by decide +kernel) (by size_fits))
theorem Qq {prog:Program} {w:World} {A:Around} {E:Value->Shared->Prop} {s:Shared} {a:Addr} {fs:Array Value} {Q:Option Value->Shared->Prop} (hx:s.heap.get? a=some { cls:= .type "zip",data:= .fields fs }) (hA:A.handled=none)
    (h:∀ h' tk e,Heap.NewExcOf s.heap h' e "AttributeError"->Q none { s with heap:=h',toks:=tk }):wpAny (model prog w) A (getAttr? (.ref a) "keys") Q E s:=by
  obtain ⟨hp,g,d,tk,os⟩:=s;have hT:∀ tk',(⟨hp,g,d,tk',os⟩:Shared).TypeIs (.ref a) "zip":=λ _=>⟨_,hx,rfl⟩;have f1:=sub_AttributeError;have f3:=zk_slot.lookup;have f4:=zk_slot.bind (.ref a);have f5:=W2;unfold getAttr? getAttrBy? getAttrBy
  repeat (any_goals (first | assumption | exact hT _ | ((with_reducible show wpAny _ _ (call (Value.builtin "zip.__getattribute__") _ _) _ _ _);refine call_meets zk_slot (hT _) Oz (Qh _ _) (PY a fs _) ⟨hx,hA,λ h' tk' e hx'=> ?_⟩) | wp_step))
  obtain ⟨t',u',he⟩:=hx'.there;show wpAny _ _ (getattributeRaised _ _ _ _ _ _ _) _ _ _;unfold getattributeRaised
  repeat (any_goals (first | assumption | wp_step))
  exact h _ _ _ hx'.of
section
variable {prog:Program} {w:World} {A:Around} {E:Value->Shared->Prop} {s:Shared}
def Zst (t1 t2:Bool) (h:Heap) (z TI TO i1 i2 l1 l2:Addr) (k:Nat):Prop:=ZipSt t1 t2 h z TI TO i1 i2 l1 l2 k\/∃ t,ZipAg t1 t2 h z TI i1 i2 l1 l2 t k/\t≠i1/\t≠i2/\t≠z
theorem Zst.ty {t1 t2:Bool} {z TI TO i1 i2 l1 l2:Addr} {k:Nat} (Z:Zst t1 t2 s.heap z TI TO i1 i2 l1 l2 k):s.TypeIs (.ref z) "zip":=by
  rcases Z with Z | ⟨t,⟨⟨b,v,hz⟩,_,_,_,_⟩,_⟩
  · exact ⟨_,Z.hz,rfl⟩
  · exact ⟨_,hz,rfl⟩
theorem Zst.at' {t1 t2:Bool} {h h':Heap} {z TI TO i1 i2 l1 l2 D:Addr} {k:Nat} (Z:Zst t1 t2 h z TI TO i1 i2 l1 l2 k) (n:∀ c∈[z,TI,TO,i1,i2],c≠D) (kp:∀ c o,c≠D->h.get? c=some o->h'.get? c=some o) (hD:∃ o,h'.get? D=some o):Zst t1 t2 h' z TI TO i1 i2 l1 l2 k:=by
  have kz:=λ o=>kp z o (n z (by simp));have kTI:=λ o=>kp TI o (n TI (by simp));have kTO:=λ o=>kp TO o (n TO (by simp));have k1:=λ o=>kp i1 o (n i1 (by simp));have k2:=λ o=>kp i2 o (n i2 (by simp));rcases Z with ⟨hz,hTI,⟨c,d,hTO⟩,h1,h2⟩ | ⟨t,⟨⟨b,v,hz⟩,⟨o,ht⟩,hTI,h1,h2⟩,n1⟩
  · exact .inl ⟨kz _ hz,kTI _ hTI,⟨c,d,kTO _ hTO⟩,Ao h1 λ o e=>k1 o e,Ao h2 λ o e=>k2 o e⟩
  · refine .inr ⟨t,⟨⟨b,v,kz _ hz⟩,?_,kTI _ hTI,Ao h1 λ o e=>k1 o e,Ao h2 λ o e=>k2 o e⟩,n1⟩;by_cases e:t=D
    · rw [e];exact hD
    · exact ⟨o,kp t o e ht⟩
theorem Ow {t1 t2:Bool} {z TI TO i1 i2 l1 l2:Addr} {k:Nat} {xs ys:Array Value} {x y:Value} {Q:Option Value->Shared->Prop} (D:ZipApart z TI TO i1 i2 l1 l2) (Z:Zst t1 t2 s.heap z TI TO i1 i2 l1 l2 k)
    (q1:A8 t1 s.heap l1 xs) (q2:A8 t2 s.heap l2 ys) (hx:xs[k]?=some x) (hy:ys[k]?=some y)
    (fin:∀ h',Zst t1 t2 h' z TI TO i1 i2 l1 l2 (k+1)->IsPair h' s.heap.objs.size x y->(∀ c o,c∉[z,TI,TO,i1,i2]->s.heap.get? c=some o->h'.get? c=some o)->Q (some (.ref s.heap.objs.size)) { s with heap:=h' }):
    wpAny (model prog w) A (pyNext (.ref z)) Q E s:=by
  have hT0:=Z.ty;unfold pyNext;rcases Z with Z | ⟨t,Z,n1,n2,nz⟩
  · have l1':i1<s.heap.objs.size:=by obtain ⟨_,e,_⟩:=A5 Z.h1;exact Aa6 e
    have l2':i2<s.heap.objs.size:=by obtain ⟨_,e,_⟩:=A5 Z.h2;exact Aa6 e
    have lz:z<s.heap.objs.size:=Aa6 Z.hz;refine Aa0 (Af3 (Ab7 (name:=Str.ofString "__next__") hT0 F.slot_zip_next (Ad2 F.slot_zip_next hT0 F.entry_zip_next
      (Kr D Z q1 q2 hx hy λ h' hz' hTO' h1' h2' hT hk=>Aa5 ?_) (F.args_zip_next_1 _))))
    refine fin h' (.inr ⟨s.heap.objs.size,⟨⟨false, .ref TO,hz'⟩,⟨_,hT⟩,hk TI _ D.TIz D.TITO D.TIi1 D.TIi2 Z.hTI,h1',h2'⟩,Ag8 l1',Ag8 l2',Ag8 lz⟩) hT λ c o n e=> ?_;exact hk c o (λ q=>n (by simp [q])) (λ q=>n (by simp [q])) (λ q=>n (by simp [q])) (λ q=>n (by simp [q])) e
  · refine Aa0 (Af3 (Ab7 (name:=Str.ofString "__next__") hT0 F.slot_zip_next (Ad2 F.slot_zip_next hT0 F.entry_zip_next
      (Nz D Z n1 n2 nz q1 q2 hx hy λ h' Z' hT hk=>Aa5 ?_) (F.args_zip_next_1 _))))
    exact fin h' (.inr ⟨t,Z',n1,n2,nz⟩) hT λ c o n e=>hk c o (λ q=>n (by simp [q])) (λ q=>n (by simp [q])) (λ q=>n (by simp [q])) e
theorem QN {t1 t2:Bool} {z TI TO i1 i2 l1 l2:Addr} {k:Nat} {xs ys:Array Value} {Q:Option Value->Shared->Prop} (hh:A.handled=none) (D:ZipApart z TI TO i1 i2 l1 l2) (Z:Zst t1 t2 s.heap z TI TO i1 i2 l1 l2 k)
    (q1:A8 t1 s.heap l1 xs) (q2:A8 t2 s.heap l2 ys) (hend:xs[k]?=none)
    (fin:∀ h',(∀ c o,c∉[z,TI,TO,i1,i2]->s.heap.get? c=some o->h'.get? c=some o)->Q none { s with heap:=h' }):
    wpAny (model prog w) A (pyNext (.ref z)) Q E s:=by
  have hT0:=Z.ty;unfold pyNext;rcases Z with Z | ⟨t,Z,n1,n2,nz⟩
  · refine Aa0 (Af3 (Ab7 (name:=Str.ofString "__next__") hT0 F.slot_zip_next (Ad2 F.slot_zip_next hT0 F.entry_zip_next
      (LC hh D Z q1 q2 (.inl hend) λ h' e eb he=> ?_) (F.args_zip_next_1 _))))
    obtain ⟨oe,eo,ce⟩:=he;refine Aa0 (wpAny_isInstance (T:="StopIteration") (b:=true) ⟨oe,eo,ce⟩ isSubtype_stop (Aa5 ?_));exact fin h' λ c o n e=>eb c o (λ q=>n (by simp [q])) (λ q=>n (by simp [q])) (λ q=>n (by simp [q])) (λ q=>n (by simp [q])) e
  · refine Aa0 (Af3 (Ab7 (name:=Str.ofString "__next__") hT0 F.slot_zip_next (Ad2 F.slot_zip_next hT0 F.entry_zip_next
      (PB hh D Z q1 hend λ h' e eb he=> ?_) (F.args_zip_next_1 _))))
    obtain ⟨oe,eo,ce⟩:=he;refine Aa0 (wpAny_isInstance (T:="StopIteration") (b:=true) ⟨oe,eo,ce⟩ isSubtype_stop (Aa5 ?_));exact fin h' λ c o n e=>eb c o (λ q=>n (by simp [q])) (λ q=>n (by simp [q])) e
theorem Lc:entryFor table "dict.update.loop"=some Builtin.«dict.update.loop» := entryFor_of_tree (by kernel_rfl)
theorem Gw:plainId "dict.update.loop"=true:=by decide +kernel
end
section
variable {X:Cx} {pins:List (Addr × Obj)} {σ:St} {H:Hp} {s:Shared} {A:Around} {E:Value->Shared->Prop}
theorem N7 {a:Addr} {kvs:List (Key × V)} {k:Key} {v:V} {u r:Value} {Q:Unit->Shared->Prop} (I:Inv X pins σ H s) (e:H a=some (.dK kvs)) (l:kvs.length<sizeLine) (ry:RelV (kV k) u) (rv:RelV v r)
    (h:∀ h',Inv X pins σ (upd H a (.dK (Ja kvs k v))) { s with heap:=h',toks:=s.toks+1 }->Heap.SameBut a s.heap h'->(∃ q,h'.get? a=some q)->Q () { s with heap:=h',toks:=s.toks+1 }):wpAny (model X.prog X.w) A (dictSet a u r) Q E s:=by
  obtain ⟨z,hd,vs,rel,dd⟩:=Nt I.hok e;have hz:vs.length<=sizeLine:=by rw [<-rel.length];exact z
  have hl:(Ja kvs k v).length<=sizeLine:=by have:=Hg kvs k v;omega
  refine wpAny_dictSet_pairs (hsz:=hz) (Nr ry) dd λ h' dd' hs=> ?_;have he:∃ q,h'.get? a=some q:=let ⟨q,_,_,hq,_⟩:=dd';⟨q,hq⟩;exact h h' (Kv I (by rw [e];exact True.intro) hs he (MH hl hd (rel.put k rv) dd')) hs he
theorem DZ {tp:Bool} {K:PySem.W.Frag} {H H':Hp} {a:Addr} {xs:List V} (h:SqS tp K H a xs) (s:Same H H'):SqS tp K H' a xs:=by
  cases tp with
  | false=>exact s.seq (show SqL K H a xs from h)
  | true=>
    rcases (show SqT K H a xs from h) with (h | ⟨o,h⟩) | h
    · exact (show SqT K H' a xs from .inl (.inl (s _ _ h)))
    · exact (show SqT K H' a xs from .inl (.inr ⟨o,s _ _ h⟩))
    · exact (show SqT K H' a xs from .inr h)
theorem LW (l:List (Key × V)) (p:Key × V):AI [] (l++[p])=Ja (AI [] l) p.1 p.2:=by
  unfold AI;rw [List.foldl_append];rfl
theorem Oi {a b z TI TO i1 i2 D:Addr} {t1 t2:Bool} {H0:Hp} {ks:List Key} {ys:List V} {R:Result->Shared->Prop} (hA:A.in1.handled=none) (DA:ZipApart z TI TO i1 i2 a b) (nD:∀ c∈[z,TI,TO,i1,i2],c≠D) (hl:ks.length=ys.length) (h15:ks.length<=15)
    (hq1:SqS t1 X.K (bar D H0) a (ks.map kV)) (hq2:SqS t2 X.K (bar D H0) b ys):∀ (m i:Nat) (s:Shared) (H:Hp),ks.length - i=m->i<=ks.length->Inv X pins σ H s->(∀ c∈[z,TI,TO,i1,i2],DD X pins H c)->(∀ c∈[z,TI,TO,i1,i2],c<s.heap.objs.size)->
      Zst t1 t2 s.heap z TI TO i1 i2 a b i->Same (bar D H0) H->H D=some (.dK (AI [] ((ks.zip ys).take i)))->(∀ s' H',Inv X pins σ H' s'->Same (bar D H0) H'->H' D=some (.dK (AI [] (ks.zip ys)))->R (.ok (.ret .none)) s')->
      codeAny (model X.prog X.w) A (.builtin "dict.update.loop" ⟨[.ref D, .ref z,rawInt i, .none],[]⟩) R s:=by
  intro m
  induction m with
  | zero=>
    intro i s H hm hi I f lt Z sm hD hR;have e:i=ks.length:=by omega
    subst e;obtain ⟨its,rv,p1⟩:=A3 I (DZ hq1 sm);obtain ⟨its2,rv2,p2⟩:=A3 I (DZ hq2 sm);have hl1:=rv.length;rw [Aa2] at hl1;refine codeAny_builtin Lc ?_;rw [Around.under_plainId Gw _];show wpAny _ A.in1 (pyNext (.ref z) >>= _) _ _ s;refine Aa0 (QN hA DA Z p1 p2 (by simp;omega) λ h' hk=> ?_);have I1:=Inv.turnedL (t':=s.toks) (h':=h') [z,TI,TO,i1,i2] I f λ c o hc q=>hk c o hc q;rw [Af0 (by rw [List.length_zip];omega)] at hD;exact Aa0 (Aa5 (Aa5 (hR _ H I1 sm hD)))
  | succ m ih=>
    intro i s H hm hi I f lt Z sm hD hR;have hlt:i<ks.length:=by omega
    obtain ⟨its,rv,p1⟩:=A3 I (DZ hq1 sm);obtain ⟨its2,rv2,p2⟩:=A3 I (DZ hq2 sm);obtain ⟨u,hu,ru⟩:=rv.get (show (ks.map kV)[i]?=some (kV ks[i]) by simp [hlt]);obtain ⟨u2,hu2,ru2⟩:=rv2.get (show ys[i]?=some (ys[i]'(by omega)) by simp [show i<ys.length by omega]);refine codeAny_builtin Lc ?_;rw [Around.under_plainId Gw _];show wpAny _ A.in1 (pyNext (.ref z) >>= _) _ _ s;refine Aa0 (Ow DA Z p1 p2 (x:=u) (y:=u2) (by simpa using hu) (by simpa using hu2) λ h' Z' hT hk=> ?_);have I0:=I.laid (h':=s.heap.push { cls:= .type "tuple",data:= .seq #[u,u2] }) (a:=s.heap.objs.size) (o:= .tup [kV ks[i],ys[i]'(by omega)]) (t':=s.toks) (λ _ _ q=>Aa1 _ q) (Aa7 _)
      ⟨(by show 2<=sizeLine;decide),[u,u2], .cons ru (.cons ru2 .nil),⟨_,Aa8 _ rfl,rfl,_,rfl⟩⟩
    have f0:∀ c∈[z,TI,TO,i1,i2],DD X pins (upd H s.heap.objs.size (.tup [kV ks[i],ys[i]'(by omega)])) c:=λ c hc=>Fe (f c hc) (Ac2 (lt c hc));have I1:=Inv.turnedL (t':=s.toks) (h':=h') [z,TI,TO,i1,i2] I0 f0 (λ c o hc q=>by
      rcases Af9 (show (s.heap.push { cls:= .type "tuple",data:= .seq #[u,u2] }).get? c=some o from q) with ⟨q1,q2⟩ | q
      · rw [q1,q2];exact hT
      · exact hk c o hc q)
    have fr:H s.heap.objs.size=none:=I.fresh;have nsD:D≠s.heap.objs.size:=λ z=>by rw [z,fr] at hD;cases hD
    have hD1:upd H s.heap.objs.size (.tup [kV ks[i],ys[i]'(by omega)]) D=some (.dK (AI [] ((ks.zip ys).take i))):=by rw [Ak nsD];exact hD
    have lk:(AI [] ((ks.zip ys).take i)).length<sizeLine:=by
      have h1:=BS ((ks.zip ys).take i) [];rw [List.length_nil,Ad1] at h1;rw [sizeLine_eq];omega
    show wpAny _ _ (holding [Value.ref s.heap.objs.size] _ >>= _) _ _ _;refine Aa0 (Ad9 (Aa0 (wpAny_tryCatch ?_)));unfold Builtin.Dict.pairItems;refine Aa0 (wpAny_typeOf (T:="tuple") ⟨_,hT,rfl⟩ ?_);rw [if_pos (by decide)];refine Aa0 (Ad4 hT rfl (Aa5 ?_));show wpAny _ _ (holding [u,u2] (dictSet D u u2)) _ _ _;refine Ad9 (N7 I1 hD1 lk ru ru2 λ h2 I2 sb he=> ?_);refine Aa5 ⟨plainId_quiet Gw _,?_⟩;show codeAny _ A (.builtin "dict.update.loop" ⟨[.ref D, .ref z,rawInt ((i:Int)+1), .none],[]⟩) R _;rw [show ((i:Int)+1)=((i+1:Nat):Int) by omega];have gr:s.heap.objs.size<h'.objs.size:=Aa6 hT;refine ih (i+1) _ _ (by omega) hlt I2 (λ c hc=>Fe (f0 c hc) (nD c hc)) (λ c hc=> ?_) (Z'.at' nD (λ c o n e=>(sb.2 c n).trans e) he) (λ c o e=> ?_) ?_ hR
    · show c<h2.objs.size;rw [show h2.objs.size=h'.objs.size from sb.1];exact Nat.lt_trans (lt c hc) gr
    · have nc:c≠D:=λ y=>by rw [y,show bar D H0 D=none from if_pos rfl] at e;cases e
      have e1:=sm c o e;have nc2:c≠s.heap.objs.size:=λ y=>by rw [y,fr] at e1;cases e1
      rw [Ak nc,Ak nc2];exact e1
    · have e9:(ks.zip ys).take (i+1)=(ks.zip ys).take i++[(ks[i],ys[i]'(by omega))]:=by
        rw [List.take_add_one,Aa4 (by rw [List.length_zip];omega),List.getElem_zip];rfl
      rw [Ae,e9,LW]
theorem OZ {a b z TI TO i1 i2:Addr} {t1 t2:Bool} {ks:List Key} {ys:List V} {Q:Value->Shared->Prop} (hA:A.handled=none) (DA:ZipApart z TI TO i1 i2 a b) (I:Inv X pins σ H s) (f:∀ c∈[z,TI,TO,i1,i2],DD X pins H c) (lt:∀ c∈[z,TI,TO,i1,i2],c<s.heap.objs.size)
    (Z:ZipSt t1 t2 s.heap z TI TO i1 i2 a b 0) (hq1:SqS t1 X.K H a (ks.map kV)) (hq2:SqS t2 X.K H b ys) (hl:ks.length=ys.length) (h15:ks.length<=15)
    (k:∀ s' H' p,Inv X pins σ H' s'->Same H H'->H p=none->H' p=some (.dK (AI [] (ks.zip ys)))->Q (.ref p) s'):wpAny (model X.prog X.w) A (call (.type "dict") [.ref z]) Q E s:=by
  refine callType_codes (Q₁:=λ v s2=>v= .ref s.heap.objs.size/\s2={ s with heap:=s.heap.push { cls:= .type "dict",data:= .dict #[] } }) F.kt_called_dict (F.kt_typeCall_dict_1 _) F.entry_dict_init (kt_code_dict_new _ ⟨rfl,rfl⟩) ?_;rintro _ _ ⟨rfl,rfl⟩;have fr:H s.heap.objs.size=none:=I.fresh;have I1:=I.laid (a:=s.heap.objs.size) (o:= .dK []) (h':=s.heap.push { cls:= .type "dict",data:= .dict #[] }) (t':=s.toks) (λ _ _ q=>Aa1 _ q) (Aa7 _) (IY s.heap I.big);have gd:(s.heap.push { cls:= .type "dict",data:= .dict #[] }).get? s.heap.objs.size=some { cls:= .type "dict",data:= .dict #[] }:=Aa8 _ rfl;have sz:(s.heap.push { cls:= .type "dict",data:= .dict #[] }).objs.size=s.heap.objs.size+1:=Ae4 ..;have nD:∀ c∈[z,TI,TO,i1,i2],c≠s.heap.objs.size:=λ c hc=>Ac2 (lt c hc);have kp1:∀ c o,s.heap.get? c=some o->(s.heap.push { cls:= .type "dict",data:= .dict #[] }).get? c=some o:=λ c o e=>Aa1 _ e;generalize s.heap.push { cls:= .type "dict",data:= .dict #[] }=h1 at I1 gd sz kp1 ⊢;have zg:h1.get? z=some _:=kp1 z _ Z.hz;have tD:({ s with heap:=h1 }:Shared).TypeIs (.ref s.heap.objs.size) "dict":=⟨_,gd,rfl⟩;refine ⟨tD,F.args_dict_init_2 _ _,?_⟩;unfold Builtin.«dict.__init__»;refine Aa0 ?_;unfold Builtin.Dict.selfAndRest;refine Aa0 (wpAny_notOrdered_dict tD ?_);show wpAny _ _ (pure (s.heap.objs.size,[Value.ref z])) _ _ _;refine Aa5 ?_;show wpAny _ _ (Builtin.Dict.updateFrom "dict.__init__" s.heap.objs.size (.ref z) [] .none) _ _ _;unfold Builtin.Dict.updateFrom;refine Aa0 (wpAny_typeOf (T:="zip") ⟨_,zg,rfl⟩ ?_);rw [if_pos (by decide)];refine Aa0 (Qq zg (show A.in1.in1.handled=none from hA) λ h2 tk e hx=> ?_);have kp2:∀ c o,h1.get? c=some o->h2.get? c=some o:=hx.keeps;have I2:=I1.kept (t':=tk) kp2;have sH:Same H (bar s.heap.objs.size (upd H s.heap.objs.size (.dK []))):=λ c o q=>by
    have nc:c≠s.heap.objs.size:=λ y=>by rw [y,fr] at q;cases q
    exact (if_neg nc).trans ((Ak nc).trans q)
  have kp:∀ c o,s.heap.get? c=some o->h2.get? c=some o:=λ c o q=>kp2 c o (kp1 c o q);show wpAny _ _ (rule _ >>= _) _ _ _;refine Aa0 (wpAny_rule (Aa0 (wpAny_pyIter_zip (kp z _ Z.hz) (Aa5 ⟨plainId_quiet Gw _,?_⟩))));obtain ⟨c0,d0,hTO⟩:=Z.hTO;refine Oi (A:=A.in1) (H0:=upd H s.heap.objs.size (.dK [])) (show A.in1.in1.handled=none from hA) DA nD hl h15 (DZ hq1 sH) (DZ hq2 sH) ks.length 0 _ _ rfl (Nat.zero_le _) I2 (λ c hc=>Fe (f c hc) (nD c hc)) (λ c hc=> ?_) (.inl ⟨kp z _ Z.hz,kp TI _ Z.hTI,⟨c0,d0,kp TO _ hTO⟩,Ao Z.h1 λ o q=>kp i1 o q,Ao Z.h2 λ o q=>kp i2 o q⟩) Pe Ae λ s' H' I' sm hD=>⟨rfl,k s' H' _ I' (sH.trans sm) fr hD⟩;exact Nat.lt_trans (lt c hc) (Aa6 (kp2 _ _ gd))
def LL (K:PySem.W.Frag) (ta:TA):TE:=λ σ H Q=>ta σ H λ vs H1=>∃ (t1 t2:Bool) (a b:Addr) (ks:List Key) (ys:List V),vs=[.ref a, .ref b]/\SqS t1 K H1 a (ks.map kV)/\SqS t2 K H1 b ys/\ks.length=ys.length/\ks.length<=15/\
  ∀ H' p,Same H1 H'->H1 p=none->H' p=some (.dK (AI [] (ks.zip ys)))->Q (.ref p) H'
end
section
variable {X:Cx} {K:PySem.W.Frag}
theorem Mq {l m:Expr} {ta:TA} {p pos p2 pos2:Pos} (hg:Gl X "zip") (hm:X.mg "zip"=none) (hg2:Gl X "dict") (hm2:X.mg "dict"=none) (ha:PA X [l,m] ta) (hc:X.calm=true:=by rfl) (hK:X.K=K:=by rfl) (hs:starEach [l,m] X.env=[(false,eval l X.env),(false,eval m X.env)]:=by rfl) (hs2:starEach [m] X.env=[(false,eval m X.env)]:=by rfl)
    (h3:starEach [Expr.Call (.Name "zip" p) [l,m] [] pos] X.env=(false,eval (.Call (.Name "zip" p) [l,m] [] pos) X.env)::starEach [] X.env:=by rfl):
    PE X (.Call (.Name "dict" p2) [.Call (.Name "zip" p) [l,m] [] pos] [] pos2) (LL K ta):=by
  subst hK;intro pins s σ H Q I h;refine Call_ (Ck I hg2 hm2 PyProof.Rows.boot_dict (PyProof.Rows.callWith_type1 ?_ h3 rfl));rw [h3];show wpAny _ _ (spliced ((false,eval (.Call (.Name "zip" p) [l,m] [] pos) X.env)::backTo pos2 (starEach [] X.env))) _ _ s;refine Calls.spliced_cons ?_;refine Call_ (Ck I hg hm Jg (PyProof.Rows.callWith_type1 (thn (ha pos pins s σ H _ I h) λ us s1 ⟨vs,H1,I1,r1,q1⟩=> ?_) (by rw [hs,hs2]) (by rw [hs2];rfl)));obtain ⟨t1,t2,a,b,ks,ys,e,hq,hq2,hl,h15,q⟩:=q1;subst e;cases r1 with
  | cons r rr=>
    cases rr with
    | cons r' rr=>
    cases rr;cases r;cases r';obtain ⟨its,rv,pl⟩:=A3 I1 hq;obtain ⟨its2,rv2,pl2⟩:=A3 I1 hq2;obtain ⟨oa,_,ea,_⟩:=B2 pl;obtain ⟨ob,_,eb,_⟩:=B2 pl2;refine G3 pl pl2 λ h' st hk=> ?_;have I2:=I1.kept (t':=s1.toks) hk;have fp:∀ c∈[s1.heap.objs.size+4,s1.heap.objs.size+2,s1.heap.objs.size+3,s1.heap.objs.size,s1.heap.objs.size+1],s1.heap.objs.size<=c/\c<=s1.heap.objs.size+4:=λ c hc=>by
      simp only [Ab5,Af7,or_false] at hc;rcases hc with q | q | q | q | q <;> subst q <;> exact ⟨by omega,by omega⟩
    refine Calls.spliced_nil ?_;refine OZ (I.ok.hd hc) (PySem.W.ktu_apart s1.heap.objs.size a b (Aa6 ea) (Aa6 eb)) I2 (λ c hc=>I1.fpOk (fp c hc).1 (I1.hok.fresh (fp c hc).1)) (λ c hc=>Nat.lt_of_le_of_lt (fp c hc).2 (Aa6 st.hz)) st hq hq2 hl h15 λ s' H' pp I' sm fr hD=> ?_;exact ⟨.ref pp,H',I',rfl,q H' pp sm fr hD⟩
end
def rUpd:V->List V->Hp->VK->Prop:=λ x xs H Q=>∃ (a b:Addr) (kvs more:List (Key × V)),x= .ref a/\xs=[.ref b]/\a≠b/\H a=some (.dK kvs)/\H b=some (.dK more)/\kvs.length+more.length<=1000/\Q .non (upd H a (.dK (AI kvs more)))
theorem Nx {X:Cx}:MtR X "dict.update" rUpd:=by
  intro pins s σ H x vs v us Q I rx rv h;obtain ⟨a,b,kvs,more,rfl,rfl,hne,ha,hb,hz,q⟩:=h;cases rx;obtain ⟨u,rfl,ru⟩:=rv.one;cases ru;obtain ⟨z1,d1,vs1,r1,dd1⟩:=Nt I.hok ha;obtain ⟨z2,d2,vs2,r2,dd2⟩:=Nt I.hok hb;have hl:(AI kvs more).length<=sizeLine:=by
    have:=BS more kvs;rw [sizeLine_eq];omega
  refine call_meetsIn PySem.F.slot_dict_update dd1.typeIs PySem.F.entry_dict_update (PySem.F.args_dict_update_2 _ _) (meets_dict_update (Bs X.prog X.w) a b hne d2) ⟨vs1,vs2,dd1,dd2,by rw [<-r1.length, <-r2.length,sizeLine_eq];omega,λ h' dd' _ hs=> ?_⟩;have he:∃ q,h'.get? a=some q:=let ⟨q,_,_,hq,_⟩:=dd';⟨q,hq⟩;exact ⟨.non,_,Kv I (by rw [ha];exact True.intro) hs he (MH hl d1 (r2.merge r1) dd'),rfl,q⟩
theorem SQ {H:Hp} {Q:VK} {a b:Addr} {kvs more:List (Key × V)} (hne:a≠b) (ha:H a=some (.dK kvs)) (hb:H b=some (.dK more)) (hz:kvs.length+more.length<=1000) (q:Q .non (upd H a (.dK (AI kvs more)))):rUpd (.ref a) [.ref b] H Q:=⟨a,b,kvs,more,rfl,rfl,hne,ha,hb,hz,q⟩
theorem ME {K:PySem.W.Frag} {ta:TA} {σ:St} {H:Hp} {Q:VK} (h:ta σ H λ vs H1=>∃ (t1 t2:Bool) (a b:Addr) (ks:List Key) (ys:List V),vs=[.ref a, .ref b]/\SqS t1 K H1 a (ks.map kV)/\SqS t2 K H1 b ys/\ks.length=ys.length/\ks.length<=15/\
  ∀ H' p,Same H1 H'->H1 p=none->H' p=some (.dK (AI [] (ks.zip ys)))->Q (.ref p) H'):LL K ta σ H Q:=h
end L2
namespace L2
open PySem PySem.Spec PyProof.Rows
section
variable {X:Cx} {e o:Expr} {es:List Expr} {t:TA} {to:TE} {pos:Pos} {S:Addr->Sp->Prop} {E:XK}
end
section
variable {X:Cx} {K:PySem.W.Frag} {tg l:Expr} {ta:TA} {p pos:Pos}
end
section
variable {K:PySem.W.Frag} {σ0:St} {H:Hp} {a:Addr} {xs:List V}
end
section
variable {X:Cx} {scope:Scope} {cx:Str}
end
structure FnA (K:PySem.W.Frag) (m q:Str) (st:Stmt) (ps:List Str) (f:Addr) (fd:FuncData):Prop where
  fn:Fun K m q st f fd
  bi:Binds K fd ps []
section
variable {K:PySem.W.Frag} {mg:Str->Option Value} {m q x:Str} {st:Stmt} {ps:List Str} {f:Addr} {fd:FuncData}
theorem def_mk (a:mg x=some (.ref f)) (F:Fun K x x st f fd) (b:∀ us:List Value,us.length=ps.length->bindArgs fd ⟨us,[]⟩=pure (ps.zip us)):DefAt K mg x st ps f fd:=⟨F,a, .all b⟩
theorem fnA_mk (F:Fun K m q st f fd) (b:∀ us:List Value,us.length=ps.length->bindArgs fd ⟨us,[]⟩=pure (ps.zip us)):FnA K m q st ps f fd:=⟨F, .all b⟩
theorem exc_mk {C:Addr} (a:PySem.W.isClsIn K C=true) (b:PySem.W.findIn K (.ref C) "__getattribute__"=some (some (.builtin "BaseException.__getattribute__"))) (c:PySem.W.findIn K (.ref C) "__getattr__"=some none) (d:PySem.W.mroIn K C (.type "BaseException")=some true) (e:PySem.W.findIn K (.ref C) "__class__"=some (some (.builtin "object.__class__")))
    (f:PySem.W.specialIn K (.builtin "object.__class__") "__get__"=some (some (.builtin "getset_descriptor.__get__"))) (g:PySem.W.takesIn K (.builtin "object.__class__")=some true) (h:PySem.W.mroIn K C (.type "object")=some true):HT.ExcKind K C:=⟨a,b,c,d,e,f,g,h⟩
theorem ci_mk {n:Int} {t:Tok} (h:mg x=some (.int n t)):∃ t,mg x=some (.int n t):=⟨t,h⟩
theorem cs_mk {z:Str} {t:Tok} (h:mg x=some (.str z t)):∃ t,mg x=some (.str z t):=⟨t,h⟩
theorem own_nil:Own mg []:=λ _ h=>by cases h
theorem own_cons {xs:List Str} (a:mg x=none) (h:Own mg xs):Own mg (x::xs):=λ y hy=>by
  rcases Ab5.mp hy with rfl | hy
  · exact a
  · exact h y hy
end
def A4 (P:Program) (w:World) (K:PySem.W.Frag) (mg:Str->Option Value) (base:Heap) (C:Addr) (m:Str) (k:Nat) (ps:List Str) (sp:Sp):Prop:=
  ∃ f fd,Cls K C/\Meth K C m f/\FnOk P w K mg base (CXE P w) k f fd ps sp/\Binds K fd ps []
section
variable {X:Cx} {x m:Str} {C:Addr} {k:Nat} {ps:List Str} {sp:Sp} {E:XK} {o e:Expr} {es:List Expr} {t:TA} {ta:TE} {p pos apos:Pos}
theorem Ec {pl:Sem Bool} (he:PE X o ta) (h:A4 X.prog X.w X.K X.mg X.base C m k ps sp) (hr:Room k X.A) (hx:BP (CXE X.prog X.w) X E)
    (ht:eval (.Call (.Attribute o m apos) [] [] pos) X.env=(do
      let ov <-eval o X.env
      standAt apos.atName
      let (f,first) <-holding [ov] (getMethod ov m pl)
      callWith pos f first (backTo pos (starEach [] X.env)) (backToKw pos (keywordEach [] X.env))):=by rfl):
    PE X (.Call (.Attribute o m apos) [] [] pos) (FL C m sp [] E ta Pd):=by
  obtain ⟨f,fd,c,hm,F,hb⟩:=h;exact La (pl:=pl) he c hm F hr hb .nil hx ht
theorem AR {σ:St} {H:Hp} {Q:VK} (h:ta σ H λ x H1=>∃ a dx fs,x= .ref a/\H1 a=some (.ins C dx fs)/\fs.lookup m=none/\t σ H1 λ vs H2=>sp (x::vs) H2 Q E):FL C m sp [] E ta t σ H Q:=by
  unfold FL;simpa using h
end
structure FunD (K:PySem.W.Frag) (x qual:Str) (st:Stmt) (f:Addr) (fd:FuncData):Prop where
  ex:∃ (oc:Value) (od:Option Addr) (dV kV doc pm:Value) (an:Option Addr) (cdv ct:Value) (osl:Array (Option Value)),
    fd=PySem.W.fnOf x qual (Fw st) (Ds st) (Ah st) dV kV doc pm an cdv ct/\K.lookup f=some ⟨oc,od, .func fd,osl⟩/\PySem.W.codeIn K cdv qual=true
structure FnAD (K:PySem.W.Frag) (m q:Str) (st:Stmt) (ps:List Str) (f:Addr) (fd:FuncData):Prop where
  fn:FunD K m q st f fd
  bi:Binds K fd ps []
  bn:Binds K fd ps [.none]
def WF (K:PySem.W.Frag):V->Option Int->Option Int->Hp->VK->Prop:=λ x lo hi H Q=>∃ tp a xs,x= .ref a/\SqS tp K H a xs/\∀ H' p,Same H H'->SqS tp K H' p (DR xs lo hi)->Q (.ref p) H'
theorem Kj {X:Cx} {K:PySem.W.Frag} (hK:X.K=K:=by rfl):SlR X (WF K):=by
  subst hK;intro pins s σ H x v vl vu lo hi sl Q I rx hs pl pu h;obtain ⟨tp,a,xs,rfl,hx,q⟩:=h;cases tp with
  | true=>exact OW rfl pins s σ H _ v vl vu lo hi sl Q I rx hs pl pu ⟨a,xs,rfl,hx,λ H' p s' h'=>q H' p s' h'⟩
  | false=>exact M7 pins s σ H _ v vl vu lo hi sl Q I rx hs pl pu ⟨a,xs,rfl,hx,λ p hp=>q _ p (Ai hp) (SqL.of Ae)⟩
theorem GL {K:PySem.W.Frag} {H:Hp} {Q:VK} {tp:Bool} {a:Addr} {xs:List V} {lo hi:Option Int} (c:SqS tp K H a xs) (h:∀ H' p,Same H H'->SqS tp K H' p (DR xs lo hi)->Q (.ref p) H'):WF K (.ref a) lo hi H Q:=⟨tp,a,xs,rfl,c,h⟩
theorem DT {K:PySem.W.Frag} {H:Hp} {Q:VK} {tp:Bool} {a:Addr} {xs:List V} (c:SqS tp K H a xs) (h:∀ q,H q=none->Q (.ref q) (upd H q (.lst xs))):HR K [.ref a] H Q:=by
  cases tp with
  | true=>exact BI c h
  | false=>exact G4 c h
section
variable {prog:Program} {w:World} {A:Around} {E:Value->Shared->Prop} {s:Shared}
theorem Lh {M:Model} {a:Addr} {Q:Option Obj->Shared->Prop} (h:Q (s.heap.get? a) s):wpAny M A (loadIfAlive a) Q E s:=λ Γ p hΓ=>by
  unfold loadIfAlive;rw [Sem.wp_loadIfAlive];simpa using h
abbrev IsZ (h:Heap) (z TI TO:Addr) (f0 f1:Value):Prop:=h.get? z=some { cls:= .type "zip",dict:=none,data:= .fields #[f0,f1, .bool false, .ref TI, .ref TO],slots:= #[] }
structure ZSt (t1 t2:Bool) (h:Heap) (z TI TO i1 i2 l1 l2:Addr) (k:Nat):Prop where
  hz:∃ f0 b,IsZ h z TI TO f0 (.bool b)/\(f0= .none\/∃ a:Nat,f0=rawInt a)
  hTI:IsPair h TI (.ref i1) (.ref i2)
  hTO:∃ c d,IsPair h TO c d
  h1:BH t1 h i1 l1 k
  h2:BH t2 h i2 l2 k
theorem R1 {z TI TO:Addr} {f0:Value} {b:Bool} {Q:Bool->Shared->Prop} (hz:IsZ s.heap z TI TO f0 (.bool b)) (hf:f0= .none\/∃ a:Nat,f0=rawInt a) (hT:Q true s)
    (hF:∀ h',IsZ h' z TI TO f0 (.bool true)->Heap.SameBut z s.heap h'->Q false { s with heap:=h' }):wpAny (model prog w) A (Builtin.SmallTypes.ownedTupleIsFree (.ref z)) Q E s:=by
  unfold Builtin.SmallTypes.ownedTupleIsFree;refine Aa0 (Ab9 hz rfl (x:=f0) rfl ?_);rcases hf with rfl | ⟨a,rfl⟩
  · exact Aa5 hT
  · show wpAny _ _ (loadIfAlive _ >>= _) _ _ _;refine Aa0 (Lh ?_);cases hg:s.heap.get? (Int.toNat (a:Int)) with
    | none=>exact Aa5 hT
    | some o=>
      show wpAny _ _ (field (.ref z) 1 >>= _) _ _ _;refine Aa0 (Ab9 hz rfl (x:= .bool b) rfl ?_);cases b with
      | true=>exact Aa5 (hF s.heap hz ⟨rfl,λ _ _=>rfl⟩)
      | false=>
        show wpAny _ _ (setField (.ref z) 1 (.bool true) >>= _) _ _ _;exact Aa0 (Ac1 hz (by simp) λ h' hz' sb=>Aa5 (hF h' hz' sb))
theorem Qp {t1 t2:Bool} {z TI TO i1 i2 l1 l2:Addr} {k:Nat} {xs ys:Array Value} {x y:Value} {Q:Value->Shared->Prop} (D:ZipApart z TI TO i1 i2 l1 l2) (Z:ZSt t1 t2 s.heap z TI TO i1 i2 l1 l2 k)
    (q1:A8 t1 s.heap l1 xs) (q2:A8 t2 s.heap l2 ys) (hx:xs[k]?=some x) (hy:ys[k]?=some y)
    (fin:∀ h',ZSt t1 t2 h' z TI TO i1 i2 l1 l2 (k+1)->IsPair h' s.heap.objs.size x y->h'.objs.size=s.heap.objs.size+1->
      (∀ c o,c≠z->c≠TO->c≠i1->c≠i2->s.heap.get? c=some o->h'.get? c=some o)->Q (.ref s.heap.objs.size) { s with heap:=h' }):
    wpAny (model prog w) A (Builtin.«zip.__next__» ⟨[.ref z],[]⟩) (λ fin s'=>∃ v,fin= .done (.ret v)/\Q v s') E s:=by
  obtain ⟨⟨f0,b,hz,hf⟩,hTI,⟨c0,d0,hTO⟩,g1,g2⟩:=Z;show wpAny _ _ (field (.ref z) 2 >>= _) _ _ _;refine Aa0 (Ab9 hz rfl (x:= .bool false) rfl ?_);show wpAny _ _ (field (.ref z) 3 >>= _) _ _ _;refine Aa0 (Ab9 hz rfl (x:= .ref TI) rfl (Aa0 (Ad4 hTI rfl ?_)));show wpAny _ _ (Builtin.SmallTypes.ownedTupleIsFree (.ref z) >>= _) _ _ _;refine Aa0 (R1 hz hf ?_ λ a1 za b1=> ?_)
  · simp only [if_true];refine Aa0 (wpAny_rule (Aa0 (Ab9 hz rfl (x:= .ref TO) rfl (Aa0 (Ac1 hz (by simp) λ a1 za b1=> ?_)))));replace za:IsZ a1 z TI TO .ellipsis (.bool b):=za;refine Aa0 ?_;simp only [List.zipIdx_cons,List.zipIdx_nil,Af4,Ah3];refine Aa0 (Aa0 (Ah0 ?_));show wpAny _ _ (Builtin.SmallTypes.nextOf (.ref i1) >>= _) _ _ _;refine Aa0 (BB (s:={ s with heap:=a1 }) (Ao g1 λ o e=>b1.extBut _ o D.i1z e) (AZ q1 λ o e=>b1.extBut _ o D.l1z e) hx λ a2 i1a b2=>Aa5 ?_);have to2:IsPair a2 TO c0 d0:=b2.extBut _ _ D.TOi1 (b1.extBut _ _ D.TOz hTO);refine Aa0 (Ad4 to2 rfl (Aa0 (Ag0 to2 λ a3 to3 b3=> ?_)));replace to3:IsPair a3 TO x d0:=to3;refine Aa0 (wpAny_letGo (Aa5 (Aa0 (Aa0 (Ah0 ?_)))));show wpAny _ _ (Builtin.SmallTypes.nextOf (.ref i2) >>= _) _ _ _;have up3:∀ c o,c≠z->c≠i1->c≠TO->s.heap.get? c=some o->a3.get? c=some o:=λ c o n1 n2 n3 e=>b3.extBut _ o n3 (b2.extBut _ o n2 (b1.extBut _ o n1 e));refine Aa0 (BB (s:={ s with heap:=a3 }) (Ao g2 λ o e=>up3 _ o D.i2z D.i12.symm D.TOi2.symm e) (AZ q2 λ o e=>up3 _ o D.l2z D.l2i1 D.l2TO e) hy λ a4 i2a b4=>Aa5 ?_);have to4:IsPair a4 TO x d0:=b4.extBut _ _ D.TOi2 to3;refine Aa0 (Ad4 to4 rfl (Aa0 (Ag0 to4 λ a5 to5 b5=> ?_)));replace to5:IsPair a5 TO x y:=to5;refine Aa0 (wpAny_letGo (Aa5 (Aa5 (Aa0 (Ad4 to5 rfl (Aa0 (wpAny_newTuple ?_)))))));have sz:a5.objs.size=s.heap.objs.size:=by rw [b5.1,b4.1,b3.1,b2.1,b1.1]
    have z5:IsZ a5 z TI TO .ellipsis (.bool b):=b5.extBut _ _ D.TOz.symm (b4.extBut _ _ D.i2z.symm (b3.extBut _ _ D.TOz.symm (b2.extBut _ _ D.i1z.symm za)));have k5:∀ c o,c≠z->c≠TO->c≠i1->c≠i2->s.heap.get? c=some o->a5.get? c=some o:=λ c o n1 n2 n3 n4 e=>b5.extBut _ _ n2 (b4.extBut _ _ n4 (up3 c o n1 n3 n2 e));have f1:BH t1 a5 i1 l1 (k+1):=Ao i1a λ o e=>b5.extBut _ o D.TOi1.symm (b4.extBut _ o D.i12 (b3.extBut _ o D.TOi1.symm e));have f2:BH t2 a5 i2 l2 (k+1):=Ao i2a λ o e=>b5.extBut _ o D.TOi2.symm e;have zlt:z<a5.objs.size:=Aa6 z5;show wpAny _ _ (Builtin.SmallTypes.ownedTupleHandOut (.ref z) (.ref a5.objs.size) >>= _) _ _ _;refine Aa0 ?_;unfold Builtin.SmallTypes.ownedTupleHandOut;have z6:IsZ (a5.push { cls:= .type "tuple",data:= .seq #[x,y] }) z TI TO .ellipsis (.bool b):=Aa1 _ z5;refine Aa0 (Ac1 z6 (by simp) λ a7 z7 b7=> ?_);replace z7:IsZ a7 z TI TO (rawInt a5.objs.size) (.bool b):=z7;refine Ac1 z7 (by simp) λ a8 z8 b8=> ?_;replace z8:IsZ a8 z TI TO (rawInt a5.objs.size) (.bool false):=z8;have up:∀ c o,c≠z->a5.get? c=some o->a8.get? c=some o:=λ c o n e=>b8.extBut _ _ n (b7.extBut _ _ n (Aa1 _ e));have t8:IsPair a8 a5.objs.size x y:=b8.extBut _ _ (Ag8 zlt) (b7.extBut _ _ (Ag8 zlt) (Aa8 _ rfl));have s8:a8.objs.size=s.heap.objs.size+1:=by rw [b8.1,b7.1,Ae4,sz]
    rw [sz] at t8;refine Aa5 ⟨_,rfl,?_⟩;show Q (.ref a5.objs.size) _;rw [sz];exact fin a8 ⟨⟨_,_,z8, .inr ⟨_,rfl⟩⟩,up _ _ D.TIz (k5 TI _ D.TIz D.TITO D.TIi1 D.TIi2 hTI),⟨_,_,up _ _ D.TOz to5⟩,Ao f1 λ o e=>up _ o D.i1z e,Ao f2 λ o e=>up _ o D.i2z e⟩ t8 s8 λ c o n1 n2 n3 n4 e=>up c o n1 (k5 c o n1 n2 n3 n4 e)
  · simp only [Bool.false_eq_true,if_false];refine Aa0 ?_;simp only [<-Array.forIn_toList,Af4,Ah3];refine Aa0 (Aa0 (Ad9 ?_));show wpAny _ _ (Builtin.SmallTypes.nextOf (.ref i1) >>= _) _ _ _;refine Aa0 (BB (s:={ s with heap:=a1 }) (Ao g1 λ o e=>b1.extBut _ o D.i1z e) (AZ q1 λ o e=>b1.extBut _ o D.l1z e) hx λ a2 i1a b2=>Aa5 (Aa5 ?_));refine Aa0 (Aa0 (Ad9 ?_));show wpAny _ _ (Builtin.SmallTypes.nextOf (.ref i2) >>= _) _ _ _;have up2:∀ c o,c≠z->c≠i1->s.heap.get? c=some o->a2.get? c=some o:=λ c o n1 n2 e=>b2.extBut _ o n2 (b1.extBut _ o n1 e);refine Aa0 (BB (s:={ s with heap:=a2 }) (Ao g2 λ o e=>up2 _ o D.i2z D.i12.symm e) (AZ q2 λ o e=>up2 _ o D.l2z D.l2i1 e) hy λ a4 i2a b4=>Aa5 (Aa5 (Aa5 ?_)));refine Aa0 (wpAny_newTuple ?_ (by show 2<=sizeLine;decide));have sz:a4.objs.size=s.heap.objs.size:=by rw [b4.1,b2.1,b1.1]
    refine Aa5 ⟨_,rfl,?_⟩;show Q (.ref a4.objs.size) _;have k4:∀ c o,c≠z->c≠i1->c≠i2->s.heap.get? c=some o->a4.get? c=some o:=λ c o n1 n2 n3 e=>b4.extBut _ _ n3 (up2 c o n1 n2 e);have pu:∀ c o,a4.get? c=some o->(a4.push { cls:= .type "tuple",data:= .seq #[x,y] }).get? c=some o:=λ c o e=>Aa1 _ e;have t8:IsPair (a4.push { cls:= .type "tuple",data:= .seq #[x,y] }) a4.objs.size x y:=Aa8 _ rfl;have s8:(a4.push { cls:= .type "tuple",data:= .seq #[x,y] }).objs.size=s.heap.objs.size+1:=by rw [Ae4,sz]
    rw [sz] at t8 ⊢;exact fin _ ⟨⟨_,_,pu _ _ (b4.extBut _ _ D.i2z.symm (b2.extBut _ _ D.i1z.symm za)),hf⟩,pu _ _ (k4 _ _ D.TIz D.TIi1 D.TIi2 hTI),⟨_,_,pu _ _ (k4 _ _ D.TOz D.TOi1 D.TOi2 hTO)⟩,Ao (Ao i1a λ o e=>b4.extBut _ o D.i12 e) λ o e=>pu _ o e,Ao i2a λ o e=>pu _ o e⟩ t8 s8 λ c o n1 n2 n3 n4 e=>pu c o (k4 c o n1 n3 n4 e)
theorem Tc {t1 t2:Bool} {z TI TO i1 i2 l1 l2:Addr} {k:Nat} {xs ys:Array Value} {Q:Fin->Shared->Prop} (hh:A.handled=none) (D:ZipApart z TI TO i1 i2 l1 l2) (Z:ZSt t1 t2 s.heap z TI TO i1 i2 l1 l2 k)
    (q1:A8 t1 s.heap l1 xs) (q2:A8 t2 s.heap l2 ys) (hend:xs[k]?=none\/ys[k]?=none)
    (fin:∀ h' e,(∀ c o,c≠z->c≠TO->c≠i1->c≠i2->s.heap.get? c=some o->h'.get? c=some o)->(∃ o,h'.get? e=some o/\o.cls= .type "StopIteration")->E (.ref e) { s with heap:=h' }):
    wpAny (model prog w) A (Builtin.«zip.__next__» ⟨[.ref z],[]⟩) Q E s:=by
  obtain ⟨⟨f0,b,hz,hf⟩,hTI,⟨c0,d0,hTO⟩,g1,g2⟩:=Z;show wpAny _ _ (field (.ref z) 2 >>= _) _ _ _;refine Aa0 (Ab9 hz rfl (x:= .bool false) rfl ?_);show wpAny _ _ (field (.ref z) 3 >>= _) _ _ _;refine Aa0 (Ab9 hz rfl (x:= .ref TI) rfl (Aa0 (Ad4 hTI rfl ?_)));show wpAny _ _ (Builtin.SmallTypes.ownedTupleIsFree (.ref z) >>= _) _ _ _;refine Aa0 (R1 hz hf ?_ λ a1 za b1=> ?_)
  · simp only [if_true];refine Aa0 (wpAny_rule (Aa0 (Ab9 hz rfl (x:= .ref TO) rfl (Aa0 (Ac1 hz (by simp) λ a1 za b1=> ?_)))));replace za:IsZ a1 z TI TO .ellipsis (.bool b):=za;refine Aa0 ?_;simp only [List.zipIdx_cons,List.zipIdx_nil,Af4,Ah3];refine Aa0 (Aa0 (Ah0 ?_));show wpAny _ _ (Builtin.SmallTypes.nextOf (.ref i1) >>= _) _ _ _;have g1':=Ao g1 λ o e=>b1.extBut _ o D.i1z e;have q1':=AZ q1 λ o e=>b1.extBut _ o D.l1z e;cases hx:xs[k]? with
    | none=>
      refine Aa0 (C0 (s:={ s with heap:=a1 }) hh g1' q1' hx λ a2 e b2 he=> ?_);obtain ⟨oe,eo,ce⟩:=he;have z2:IsZ a2 z TI TO .ellipsis (.bool b):=b2 _ _ D.i1z.symm za;have nz:e≠z:=λ q=>by subst q;rw [z2] at eo;cases eo;simp at ce
      exact Ac1 z2 (by simp) λ a3 _ b3=>fin a3 e (λ c o n1 _ n3 _ q=>b3.extBut _ _ n1 (b2 _ _ n3 (b1.extBut _ _ n1 q))) ⟨oe,b3.extBut _ _ nz eo,ce⟩
    | some x=>
      have hy:ys[k]?=none:=by
        rcases hend with q | q
        · rw [hx] at q;cases q
        · exact q
      refine Aa0 (BB (s:={ s with heap:=a1 }) g1' q1' hx λ a2 i1a b2=>Aa5 ?_);have to2:IsPair a2 TO c0 d0:=b2.extBut _ _ D.TOi1 (b1.extBut _ _ D.TOz hTO);refine Aa0 (Ad4 to2 rfl (Aa0 (Ag0 to2 λ a3 to3 b3=> ?_)));refine Aa0 (wpAny_letGo (Aa5 (Aa0 (Aa0 (Ah0 ?_)))));show wpAny _ _ (Builtin.SmallTypes.nextOf (.ref i2) >>= _) _ _ _;have up3:∀ c o,c≠z->c≠i1->c≠TO->s.heap.get? c=some o->a3.get? c=some o:=λ c o n1 n2 n3 e=>b3.extBut _ o n3 (b2.extBut _ o n2 (b1.extBut _ o n1 e));refine Aa0 (C0 (s:={ s with heap:=a3 }) hh (Ao g2 λ o e=>up3 _ o D.i2z D.i12.symm D.TOi2.symm e) (AZ q2 λ o e=>up3 _ o D.l2z D.l2i1 D.l2TO e) hy λ a4 e b4 he=> ?_);obtain ⟨oe,eo,ce⟩:=he;have z4:IsZ a4 z TI TO .ellipsis (.bool b):=b4 _ _ D.i2z.symm (b3.extBut _ _ D.TOz.symm (b2.extBut _ _ D.i1z.symm za));have nz:e≠z:=λ q=>by subst q;rw [z4] at eo;cases eo;simp at ce
      exact Ac1 z4 (by simp) λ a5 _ b5=>fin a5 e (λ c o n1 n2 n3 n4 q=>b5.extBut _ _ n1 (b4 _ _ n4 (up3 c o n1 n3 n2 q))) ⟨oe,b5.extBut _ _ nz eo,ce⟩
  · simp only [Bool.false_eq_true,if_false];refine Aa0 ?_;simp only [<-Array.forIn_toList,Af4,Ah3];refine Aa0 (Aa0 (Ad9 ?_));show wpAny _ _ (Builtin.SmallTypes.nextOf (.ref i1) >>= _) _ _ _;have g1':=Ao g1 λ o e=>b1.extBut _ o D.i1z e;have q1':=AZ q1 λ o e=>b1.extBut _ o D.l1z e;cases hx:xs[k]? with
    | none=>exact Aa0 (C0 (s:={ s with heap:=a1 }) hh g1' q1' hx λ a2 e b2 he=>fin a2 e (λ c o n1 _ n3 _ q=>b2 _ _ n3 (b1.extBut _ _ n1 q)) he)
    | some x=>
      have hy:ys[k]?=none:=by
        rcases hend with q | q
        · rw [hx] at q;cases q
        · exact q
      refine Aa0 (BB (s:={ s with heap:=a1 }) g1' q1' hx λ a2 i1a b2=>Aa5 (Aa5 ?_));refine Aa0 (Aa0 (Ad9 ?_));show wpAny _ _ (Builtin.SmallTypes.nextOf (.ref i2) >>= _) _ _ _;have up2:∀ c o,c≠z->c≠i1->s.heap.get? c=some o->a2.get? c=some o:=λ c o n1 n2 e=>b2.extBut _ o n2 (b1.extBut _ o n1 e);exact Aa0 (C0 (s:={ s with heap:=a2 }) hh (Ao g2 λ o e=>up2 _ o D.i2z D.i12.symm e) (AZ q2 λ o e=>up2 _ o D.l2z D.l2i1 e) hy λ a4 e b4 he=>fin a4 e (λ c o n1 _ n3 n4 q=>b4 _ _ n4 (up2 c o n1 n3 q)) he)
theorem Rj {t1 t2:Bool} {z TI TO i1 i2 l1 l2:Addr} {k:Nat} {xs ys:Array Value} {x y:Value} {Q:Value->Shared->Prop} (D:ZipApart z TI TO i1 i2 l1 l2) (Z:ZSt t1 t2 s.heap z TI TO i1 i2 l1 l2 k)
    (q1:A8 t1 s.heap l1 xs) (q2:A8 t2 s.heap l2 ys) (hx:xs[k]?=some x) (hy:ys[k]?=some y)
    (fin:∀ h',ZSt t1 t2 h' z TI TO i1 i2 l1 l2 (k+1)->IsPair h' s.heap.objs.size x y->h'.objs.size=s.heap.objs.size+1->
      (∀ c o,c≠z->c≠TO->c≠i1->c≠i2->s.heap.get? c=some o->h'.get? c=some o)->Q (.ref s.heap.objs.size) { s with heap:=h' }):
    wpAny (model prog w) A (Builtin.SmallTypes.nextOf (.ref z)) Q E s:=by
  obtain ⟨f0,b,hz,hf⟩:=Z.hz;have hT:s.TypeIs (.ref z) "zip":=⟨_,hz,rfl⟩;unfold Builtin.SmallTypes.nextOf;exact Aa0 (Ab7 (name:=Str.ofString "__next__") hT F.slot_zip_next (Ad2 F.slot_zip_next hT F.entry_zip_next (Qp D Z q1 q2 hx hy λ h' Z' t' s' k'=>Aa5 (fin h' Z' t' s' k')) (F.args_zip_next_1 _)))
theorem ZSt.at {t1 t2:Bool} {h h':Heap} {z TI TO i1 i2 l1 l2:Addr} {k:Nat} (Z:ZSt t1 t2 h z TI TO i1 i2 l1 l2 k) (kp:∀ b∈[z,TI,TO,i1,i2],∀ o,h.get? b=some o->h'.get? b=some o):ZSt t1 t2 h' z TI TO i1 i2 l1 l2 k:=by
  obtain ⟨⟨f0,b,hz,hf⟩,hTI,⟨c0,d0,hTO⟩,g1,g2⟩:=Z;exact ⟨⟨f0,b,kp z (by simp) _ hz,hf⟩,kp TI (by simp) _ hTI,⟨c0,d0,kp TO (by simp) _ hTO⟩,Ao g1 λ o q=>kp i1 (by simp) o q,Ao g2 λ o q=>kp i2 (by simp) o q⟩
theorem ZSt.lt {t1 t2:Bool} {h:Heap} {z TI TO i1 i2 l1 l2:Addr} {k:Nat} (Z:ZSt t1 t2 h z TI TO i1 i2 l1 l2 k):∀ q∈[z,TI,TO,i1,i2],q<h.objs.size:=λ q hq=>by
  obtain ⟨⟨f0,b,hz,hf⟩,hTI,⟨c0,d0,hTO⟩,g1,g2⟩:=Z;obtain ⟨_,e1,_⟩:=A5 g1;obtain ⟨_,e2,_⟩:=A5 g2;simp only [Ab5,Af7,or_false] at hq;rcases hq with q' | q' | q' | q' | q'
  · subst q';exact Aa6 hz
  · subst q';exact Aa6 hTI
  · subst q';exact Aa6 hTO
  · subst q';exact Aa6 e1
  · subst q';exact Aa6 e2
theorem ML {t1 t2:Bool} {e z TI TO i1 i2 l1 l2:Addr} {k:Nat} {xs ys:Array Value} {x y old:Value} {Q:Value->Shared->Prop} (D:ZipApart z TI TO i1 i2 l1 l2) (he:IsEnum s.heap e z ((k+1:Nat):Int) old) (Z:ZSt t1 t2 s.heap z TI TO i1 i2 l1 l2 k) (hne:e∉[z,TI,TO,i1,i2])
    (q1:A8 t1 s.heap l1 xs) (q2:A8 t2 s.heap l2 ys) (hx:xs[k]?=some x) (hy:ys[k]?=some y)
    (hQ:∀ h' tk,IsEnumOut h' e z (((k+1:Nat):Int)+1) (.ref s.heap.objs.size) (s.heap.objs.size+1)->ZSt t1 t2 h' z TI TO i1 i2 l1 l2 (k+1)->IsPair h' s.heap.objs.size x y->
      h'.get? (s.heap.objs.size+1)=some { cls:= .type "tuple",data:= .seq #[.int ((k+1:Nat):Int) tk, .ref s.heap.objs.size] }->
      (∀ c o,c∉[e,z,TI,TO,i1,i2]->s.heap.get? c=some o->h'.get? c=some o)->Q (.ref (s.heap.objs.size+1)) { s with heap:=h',toks:=tk+1 }):
    wpAny (model prog w) A (Builtin.«enumerate.__next__» ⟨[.ref e],[]⟩) (λ fin s'=>∃ v,fin= .done (.ret v)/\Q v s') E s:=by
  obtain ⟨hp,g,d,tk,os⟩:=s;show wpAny _ _ (field (.ref e) 2 >>= _) _ _ _;refine Aa0 (Ab9 he rfl (x:= .ref z) rfl ?_);refine Aa0 (Rj D Z q1 q2 hx hy λ h₁ Z₁ p₁ z₁ k₁=> ?_);have n1:e≠z:=λ q=>hne (by simp [q]);have n2:e≠TI:=λ q=>hne (by simp [q]);have n3:e≠TO:=λ q=>hne (by simp [q]);have n4:e≠i1:=λ q=>hne (by simp [q]);have n5:e≠i2:=λ q=>hne (by simp [q]);have nin:∀ b∈[z,TI,TO,i1,i2],b≠e:=λ b hb q=>hne (q▸hb);have hel:e<hp.objs.size:=Aa6 he;have he₁:IsEnum h₁ e z ((k+1:Nat):Int) old:=k₁ _ _ n1 n3 n4 n5 he;show wpAny _ _ (field (.ref e) 3 >>= _) _ _ ⟨h₁,g,d,tk,os⟩;refine Aa0 (Ab9 he₁ rfl (x:=rawInt ((k+1:Nat):Int)) rfl ?_);show wpAny _ _ (field (.ref e) 4 >>= _) _ _ ⟨h₁,g,d,tk,os⟩;refine Aa0 (Ab9 he₁ rfl (x:= .none) rfl ?_);show wpAny _ _ (mkInt ((k+1:Nat):Int) >>= _) _ _ ⟨h₁,g,d,tk,os⟩;refine Aa0 (wpAny_mkInt ?_);show wpAny _ _ (setField (.ref e) 3 (rawInt (((k+1:Nat):Int)+1)) >>= _) _ _ ⟨h₁,g,d,tk+1,os⟩;refine Aa0 (Ac1 he₁ (by simp) λ h₂ he₂ hs₂=> ?_);replace hs₂:Heap.SameBut e h₁ h₂:=hs₂;replace he₂:IsEnum h₂ e z (((k+1:Nat):Int)+1) old:=he₂;show wpAny _ _ (setField (.ref e) 4 .none >>= _) _ _ ⟨h₂,g,d,tk+1,os⟩;refine Aa0 (Ac1 he₂ (by simp) λ h₃ he₃ hs₃=> ?_);replace hs₃:Heap.SameBut e h₂ h₃:=hs₃;replace he₃:IsEnum h₃ e z (((k+1:Nat):Int)+1) old:=he₃;show wpAny _ _ (newTuple [.int ((k+1:Nat):Int) tk, .ref hp.objs.size] >>= _) _ _ ⟨h₃,g,d,tk+1,os⟩;refine Aa0 (wpAny_newTuple ?_);have he₄:IsEnum (h₃.push { cls:= .type "tuple",data:= .seq #[.int ((k+1:Nat):Int) tk, .ref hp.objs.size] }) e z (((k+1:Nat):Int)+1) old:=Aa1 _ he₃;generalize hh₄:h₃.push { cls:= .type "tuple",data:= .seq #[.int ((k+1:Nat):Int) tk, .ref hp.objs.size] }=h₄ at he₄;have hsz:h₃.objs.size=hp.objs.size+1:=by rw [hs₃.1,hs₂.1];exact z₁
  have ht₄:h₄.get? (hp.objs.size+1)=some { cls:= .type "tuple",data:= .seq #[.int ((k+1:Nat):Int) tk, .ref hp.objs.size] }:=by rw [<-hh₄, <-hsz];exact Aa8 _ rfl
  have up:∀ b o,b≠e->h₁.get? b=some o->h₄.get? b=some o:=λ b o hbe y=>by
    rw [<-hh₄];exact Aa1 _ (hs₃.extBut b o hbe (hs₂.extBut b o hbe y))
  have npe:hp.objs.size≠e:=Ag8 hel;have np1:hp.objs.size+1≠e:=Ag8 (Nat.lt_succ_of_lt hel);show wpAny _ _ (Builtin.SmallTypes.ownedTupleIsFree (.ref e) >>= _) _ _ ⟨h₄,g,d,tk+1,os⟩;rw [hsz];refine Aa0 ?_;unfold Builtin.SmallTypes.ownedTupleIsFree;refine Aa0 (Ab9 he₄ rfl (x:= .none) rfl (Aa5 ?_));simp only [if_true];refine Aa0 (wpAny_rule ?_);refine Aa0 (Ab9 he₄ rfl (x:=old) rfl ?_);refine Aa0 (Ac1 he₄ (by simp) λ h₅ he₅ hs₅=> ?_);replace hs₅:Heap.SameBut e h₄ h₅:=hs₅;replace he₅:IsEnum h₅ e z (((k+1:Nat):Int)+1) (.ref hp.objs.size):=he₅;show wpAny _ _ (Builtin.SmallTypes.ownedTupleHandOut (.ref e) (.ref (hp.objs.size+1)) >>= _) _ _ ⟨h₅,g,d,tk+1,os⟩;refine Aa0 ?_;unfold Builtin.SmallTypes.ownedTupleHandOut;refine Aa0 (Ac1 he₅ (by simp) λ h₆ he₆ hs₆=> ?_);replace hs₆:Heap.SameBut e h₅ h₆:=hs₆;replace he₆:IsEnumOut h₆ e z (((k+1:Nat):Int)+1) (.ref hp.objs.size) (hp.objs.size+1):=he₆;refine Ac1 he₆ (by simp) λ h₇ he₇ hs₇=> ?_;replace hs₇:Heap.SameBut e h₆ h₇:=hs₇;replace he₇:IsEnumOut h₇ e z (((k+1:Nat):Int)+1) (.ref hp.objs.size) (hp.objs.size+1):=he₇;have up7:∀ b o,b≠e->h₄.get? b=some o->h₇.get? b=some o:=λ b o hbe y=>hs₇.extBut b o hbe (hs₆.extBut b o hbe (hs₅.extBut b o hbe y));exact Aa0 (wpAny_letGo (Aa5 ⟨_,rfl,hQ h₇ tk he₇ (Z₁.at λ b hb o y=>up7 b o (nin b hb) (up b o (nin b hb) y)) (up7 _ _ npe (up _ _ npe p₁)) (up7 _ _ np1 ht₄) λ c o hc y=>by
    simp only [Ab5,Af7,or_false,not_or] at hc;exact up7 _ _ hc.1 (up _ _ hc.1 (k₁ c o hc.2.1 hc.2.2.2.1 hc.2.2.2.2.1 hc.2.2.2.2.2 y))⟩))
end
def RA (t1 t2:Bool) (K:PySem.W.Frag) (a b:Addr):It:=
  ⟨λ i H=>∃ xs ys x y,SqS t1 K H a xs/\SqS t2 K H b ys/\xs[i]?=some x/\ys[i]?=some y,
   λ i H v H'=>∃ p q x y,H p=none/\H q=none/\p≠q/\v= .ref q/\H'=upd (upd H p (.tup [x,y])) q (.tup [.int ((i+1:Nat):Int), .ref p])/\(∀ xs,SqS t1 K H a xs->xs[i]?=some x)/\∀ ys,SqS t2 K H b ys->ys[i]?=some y,
   λ i H=>∃ xs ys,SqS t1 K H a xs/\SqS t2 K H b ys/\(xs.length<=i\/ys.length<=i)⟩
theorem MN {P:Program} {w:World} {K:PySem.W.Frag} {elts:List Expr} {k:Nat} {pos:Pos} (t1 t2:Bool) (a b e z TI TO i1 i2:Addr) (D:ZipApart z TI TO i1 i2 a b) (hne:e∉[z,TI,TO,i1,i2]):
    Turn P w K (.Tuple elts k pos) (RA t1 t2 K a b) [e,z,TI,TO,i1,i2] e (λ i h=>(∃ old,IsEnum h e z ((i+1:Nat):Int) old)/\ZSt t1 t2 h z TI TO i1 i2 a b i) where
  mem:=by simp
  obj:=λ i h st c hc=>by
    obtain ⟨⟨old,he⟩,⟨f0,b,hz,hf⟩,hTI,⟨x,y,hTO⟩,h1,h2⟩:=st;obtain ⟨o1,e1,d1⟩:=A5 h1;obtain ⟨o2,e2,d2⟩:=A5 h2;simp only [Ab5,Af7,or_false] at hc;rcases hc with q | q | q | q | q | q
    · subst q;exact ⟨_,he,λ v z=>by cases (show Data.fields _=Data.cell v from z)⟩
    · subst q;exact ⟨_,hz,λ v z=>by cases (show Data.fields _=Data.cell v from z)⟩
    · subst q;exact ⟨_,hTI,λ v z=>by cases (show Data.seq _ _=Data.cell v from z)⟩
    · subst q;exact ⟨_,hTO,λ v z=>by cases (show Data.seq _ _=Data.cell v from z)⟩
    · subst q;exact ⟨o1,e1,λ v z=>by rw [d1] at z;cases z⟩
    · subst q;exact ⟨o2,e2,λ v z=>by rw [d2] at z;cases z⟩
  keep:=λ i h h' st kp=>⟨let ⟨old,he⟩:=st.1;⟨old,kp e (by simp) _ he⟩,st.2.at λ b hb=>kp b (Ad3 _ hb)⟩
  item:=by
    intro X hP hw hK hc i pins s σ H E I hf st hg;subst hP hw hK;obtain ⟨xs,ys,x,y,hq1,hq2,hx,hy⟩:=hg;obtain ⟨its,rv,p1⟩:=A3 I hq1;obtain ⟨its2,rv2,p2⟩:=A3 I hq2;obtain ⟨u,hu,ru⟩:=rv.get hx;obtain ⟨u2,hu2,ru2⟩:=rv2.get hy;obtain ⟨⟨old,he⟩,Z⟩:=st;have lt:∀ q∈[e,z,TI,TO,i1,i2],q<s.heap.objs.size:=λ q hq=>by
      rcases Ab5.mp hq with q' | q'
      · rw [q'];exact Aa6 he
      · exact Z.lt q q'
    have hT:s.TypeIs (.ref e) "enumerate":=⟨_,he,rfl⟩;unfold pyNext;refine Aa0 (Af3 (Ab7 (name:=Str.ofString "__next__") hT F.slot_enumerate_next (Ad2 F.slot_enumerate_next hT F.entry_enumerate_next
      (ML D he Z hne p1 p2 (x:=u) (y:=u2) (by simpa using hu) (by simpa using hu2) λ h' tk ho Z' hp1 hp2 hk=>Aa5 ?_) (F.args_enumerate_next_1 _))))
    have I0:=I.laid (h':=s.heap.push { cls:= .type "tuple",data:= .seq #[u,u2] }) (a:=s.heap.objs.size) (o:= .tup [x,y]) (t':=s.toks) (λ _ _ q=>Aa1 _ q) (Aa7 _)
      ⟨(by show 2<=sizeLine;decide),[u,u2], .cons ru (.cons ru2 .nil),⟨_,Aa8 _ rfl,rfl,_,rfl⟩⟩
    have sz:(s.heap.push { cls:= .type "tuple",data:= .seq #[u,u2] }).objs.size=s.heap.objs.size+1:=Ae4 ..;have g1:((s.heap.push { cls:= .type "tuple",data:= .seq #[u,u2] }).push { cls:= .type "tuple",data:= .seq #[.int ((i+1:Nat):Int) tk, .ref s.heap.objs.size] }).get? (s.heap.objs.size+1)=some { cls:= .type "tuple",data:= .seq #[.int ((i+1:Nat):Int) tk, .ref s.heap.objs.size] }:=by rw [<-sz];exact Aa8 _ rfl
    have I1:=I0.laid (h':=(s.heap.push { cls:= .type "tuple",data:= .seq #[u,u2] }).push { cls:= .type "tuple",data:= .seq #[.int ((i+1:Nat):Int) tk, .ref s.heap.objs.size] }) (a:=s.heap.objs.size+1) (o:= .tup [.int ((i+1:Nat):Int), .ref s.heap.objs.size]) (t':=tk+1) (λ _ _ q=>Aa1 _ q) (Nat.le_of_eq sz)
      ⟨(by show 2<=sizeLine;decide),[.int ((i+1:Nat):Int) tk, .ref s.heap.objs.size], .cons ⟨_,rfl⟩ (.cons rfl .nil),⟨_,g1,rfl,_,rfl⟩⟩
    have f0:∀ b∈[e,z,TI,TO,i1,i2],DD X pins (upd (upd H s.heap.objs.size (.tup [x,y])) (s.heap.objs.size+1) (.tup [.int ((i+1:Nat):Int), .ref s.heap.objs.size])) b:=λ b hb=>Fe (Fe (hf b hb) (Ac2 (lt b hb))) (Ac2 (Nat.lt_succ_of_lt (lt b hb)));have I2:=Inv.turnedL (t':=tk+1) (h':=h') [e,z,TI,TO,i1,i2] I1 f0 (λ b o hb q=>by
      rcases Af9 (show ((s.heap.push { cls:= .type "tuple",data:= .seq #[u,u2] }).push { cls:= .type "tuple",data:= .seq #[.int ((i+1:Nat):Int) tk, .ref s.heap.objs.size] }).get? b=some o from q) with ⟨q1,q2⟩ | q
      · rw [q1,q2,sz];exact hp2
      · rcases Af9 q with ⟨q1,q2⟩ | q
        · rw [q1,q2];exact hp1
        · exact hk b o hb q)
    refine ⟨.ref (s.heap.objs.size+1),rfl,wpAny_letOwnedTupleGo_enum (s:={ s with heap:=h',toks:=tk+1 }) ho λ h3 he3 sb=> ?_⟩;refine ⟨.ref (s.heap.objs.size+1),_,Inv.turnedL (t':=tk+1) (h':=h3) [e,z,TI,TO,i1,i2] I2 f0 (λ b o hb q=>(sb.2 b λ e=>hb (by simp [e])).trans q),rfl,
      ⟨_,_,x,y,I.fresh,I.hok.fresh (Nat.le_succ _),Ac2 (Nat.lt_succ_self _),rfl,rfl,λ l hl=>by rw [Gk I hl hq1];exact hx,λ l hl=>by rw [Gk I hl hq2];exact hy⟩,
      ⟨⟨_,by simpa using he3⟩,Z'.at λ b hb o q=>(sb.2 b λ z=>hne (z▸hb)).trans q⟩,λ b hb=>(f0 b hb).1⟩
  done:=by
    intro X hP hw hK hc i pins s σ H E I hf st hg;subst hP hw hK;obtain ⟨xs,ys,hq1,hq2,hx⟩:=hg;obtain ⟨its,rv,p1⟩:=A3 I hq1;obtain ⟨its2,rv2,p2⟩:=A3 I hq2;have hl:=rv.length;have hl2:=rv2.length;obtain ⟨⟨old,he⟩,Z⟩:=st;have hT:s.TypeIs (.ref e) "enumerate":=⟨_,he,rfl⟩;obtain ⟨f0,b0,hz,_⟩:=Z.hz;have hTz:s.TypeIs (.ref z) "zip":=⟨_,hz,rfl⟩;unfold pyNext;refine Aa0 (Af3 (Ab7 (name:=Str.ofString "__next__") hT F.slot_enumerate_next (Ad2 F.slot_enumerate_next hT F.entry_enumerate_next ?_ (F.args_enumerate_next_1 _))));show wpAny _ _ (field (.ref e) 2 >>= _) _ _ _;refine Aa0 (Ab9 he rfl (x:= .ref z) rfl (Aa0 ?_));unfold Builtin.SmallTypes.nextOf;refine Aa0 (Ab7 (name:=Str.ofString "__next__") hTz F.slot_zip_next (Ad2 F.slot_zip_next hTz F.entry_zip_next
      (Tc (I.ok.hd hc) D Z p1 p2 (hx.elim (λ q=> .inl (by simp;omega)) λ q=> .inr (by simp;omega)) λ h' x eb hx'=> ?_) (F.args_zip_next_1 _)))
    obtain ⟨o,ho,hc2⟩:=hx';exact Aa0 (wpAny_isInstance (T:="StopIteration") (b:=true) ⟨o,ho,hc2⟩ isSubtype_stop (Aa5 ⟨rfl,I.turnedL (t':=s.toks) [e,z,TI,TO,i1,i2] hf λ b o hb q=>eb b o (λ e=>hb (by simp [e])) (λ e=>hb (by simp [e])) (λ e=>hb (by simp [e])) (λ e=>hb (by simp [e])) q⟩))
  self:=λ _ _ _ _ _ st h=>by
    obtain ⟨⟨old,he⟩,_⟩:=st;exact wpAny_pyIter_enum he h
section
variable {X:Cx} {elts:List Expr} {k:Nat} {tpos:Pos} {K:PySem.W.Frag}
def Pb (K:PySem.W.Frag) (ta:TA):TI:=λ σ H R=>ta σ H λ vs H1=>∃ t1 t2 a b,vs=[.ref a, .ref b]/\(∃ xs,SqS t1 K H1 a xs)/\(∃ ys,SqS t2 K H1 b ys)/\R (RA t1 t2 K a b) H1
theorem SN {σ:St} {H:Hp} {R:It->Hp->Prop} {ta:TA} (h:ta σ H λ vs H1=>∃ t1 t2 a b,vs=[.ref a, .ref b]/\(∃ xs,SqS t1 K H1 a xs)/\(∃ ys,SqS t2 K H1 b ys)/\R (RA t1 t2 K a b) H1):Pb K ta σ H R:=h
theorem P6 {l m:Expr} {ta:TA} {p pz posz pos kp cp:Pos} {cj:Nat} (hg:Gl X "enumerate") (hm:X.mg "enumerate"=none) (hg2:Gl X "zip") (hm2:X.mg "zip"=none) (ha:PA X [l,m] ta) (hK:X.K=K:=by rfl)
    (hs:starEach [l,m] X.env=[(false,eval l X.env),(false,eval m X.env)]:=by rfl) (hs2:starEach [m] X.env=[(false,eval m X.env)]:=by rfl):
    PI X (.Tuple elts k tpos) (.Call (.Name "enumerate" p) [.Call (.Name "zip" pz) [l,m] [] posz] [⟨some "start", .Constant (.int 1) cj cp,kp⟩] pos) (Pb K ta):=by
  subst hK;intro pins s σ H R I h;refine Ag9 (Ck I hg hm G8 (Hq rfl rfl (PyProof.Rows.evalArgs_kw2 rfl ?_ rfl)));show wpAny _ _ (spliced ((false,eval (.Call (.Name "zip" pz) [l,m] [] posz) X.env)::backTo pos [])) _ _ s;refine Calls.spliced_cons (Call_ (Ck I hg2 hm2 Jg (PyProof.Rows.callWith_type1 (thn (ha posz pins s σ H _ I h) λ us s1 ⟨vs,H1,I1,r1,q1⟩=> ?_) (by rw [hs,hs2]) (by rw [hs2];rfl))));obtain ⟨t1,t2,a,b,e,⟨xs,hq⟩,⟨ys,hq2⟩,q⟩:=q1;subst e;cases r1 with
  | cons r rr=>
    cases rr with
    | cons r' rr=>
    cases rr;cases r;cases r';obtain ⟨its,rv,pl⟩:=A3 I1 hq;obtain ⟨its2,rv2,pl2⟩:=A3 I1 hq2;obtain ⟨oa,_,ea,_⟩:=B2 pl;obtain ⟨ob,_,eb,_⟩:=B2 pl2;refine G3 pl pl2 λ h' st hk=>Calls.spliced_nil ?_;have I2:=I1.kept (t':=s1.toks) hk;have D:=PySem.W.ktu_apart s1.heap.objs.size a b (Aa6 ea) (Aa6 eb);refine PyProof.Rows.kwAll_cons (wpAny_Constant_int (PyProof.Rows.kwAll_nil ?_));have Z:ZSt t1 t2 h' _ _ _ _ _ a b 0:=⟨⟨_,_,st.hz, .inl rfl⟩,st.hTI,st.hTO,st.h1,st.h2⟩;refine Iv (wpAny_pyIter_zip st.hz ⟨_,rfl,λ h2 he hk2 hsz=> ?_⟩);refine wpAny_pyIter_enum he ?_;have I3:=(I2.tok (s1.toks+1)).kept (t':=s1.toks+1) hk2;have ne:h'.objs.size∉[s1.heap.objs.size+4,s1.heap.objs.size+2,s1.heap.objs.size+3,s1.heap.objs.size,s1.heap.objs.size+1]:=λ z=>Nat.lt_irrefl _ (Z.lt _ z);refine ⟨_,[_,_,_,_,_,_],_,_,H1,rfl,I3,MN t1 t2 a b _ _ _ _ _ _ D ne,⟨⟨_,he⟩,Z.at λ b _ o y=>hk2 b o y⟩,λ c hc=> ?_,q⟩;have hb':s1.heap.objs.size<=c:=by
      simp only [Ab5,Af7,or_false] at hc;have:=Z.lt s1.heap.objs.size (by simp);rcases hc with q | q | q | q | q | q <;> rw [q] <;> first | exact Aa7 _ | exact Nat.le_add_right _ _ | exact Nat.le_of_lt this
    exact I1.fpOk hb' (I1.hok.fresh hb')
theorem Qt {t1 t2:Bool} {a b D:Addr} {σ0:St} {H:Hp} {tc:TT} {te:TE} {Q:VK} {xs zs:List V} (hlen:xs.length=zs.length) (Pv:Nat->List V->Hp->Prop) (h0:Pv 0 [] (upd H D (.lst [])))
    (hl:∀ i ys H,i<=xs.length->Pv i ys H->SqS t1 K H a xs/\SqS t2 K H b zs)
    (hs:∀ i x z ys H p q,xs[i]?=some x->zs[i]?=some z->Pv i ys H->H p=none->H q=none->p≠q->Kp σ0 ((σ0.set 0 (some (.int ((i+1:Nat):Int)))).set 1 (some (.ref p)))/\tc ((σ0.set 0 (some (.int ((i+1:Nat):Int)))).set 1 (some (.ref p))) (upd (upd H p (.tup [x,z])) q (.tup [.int ((i+1:Nat):Int), .ref p])) λ b H3=>
      if b=true then te ((σ0.set 0 (some (.int ((i+1:Nat):Int)))).set 1 (some (.ref p))) H3 λ y H4=>H4 D=some (.lst ys)/\ys.length<sizeLine/\Pv (i+1) (ys++[y]) (upd H4 D (.lst (ys++[y]))) else Pv (i+1) ys H3)
    (hd:∀ ys H,Pv xs.length ys H->Q (.ref D) H):
    FM (RA t1 t2 K a b) σ0 (Jk K 2 (Cc (AO 0) (Cc (AO 1) Jm))) tc te Q H D:=by
  refine ⟨λ i m ys H=>m=xs.length - i/\i<=xs.length/\Pv i ys H,⟨_,rfl,Nat.zero_le _,h0⟩,?_⟩;rintro i m ys H ⟨rfl,hi,p⟩;obtain ⟨q1,q2⟩:=hl i ys H hi p;by_cases hlt:i<xs.length
  · refine .inr ⟨⟨xs,zs,xs[i],zs[i]'(by omega),q1,q2,by simp [hlt],by simp⟩,Pv (i+1),λ ys' H' p'=>⟨xs.length - (i+1),by omega,rfl,hlt,p'⟩,λ x H' y=> ?_⟩;obtain ⟨pp,qq,v,z,hp,hq,ne,rfl,rfl,hv,hz⟩:=y;exact ⟨qq,_,rfl,SqT.of Ae,rfl,_,_,rfl,_,_,rfl,rfl,hs i v z ys H pp qq (hv xs q1) (hz zs q2) p hp hq ne⟩
  · have e:i=xs.length:=by omega
    subst e;exact .inl ⟨⟨xs,zs,q1,q2, .inl (Aa7 _)⟩,hd ys H p⟩
end
section
variable {X:Cx} {m:Str} {C:Addr} {k:Nat} {ps:List Str} {sp:Sp} {E:XK} {o e:Expr} {es:List Expr} {t:TA} {ta:TE} {pos apos:Pos}
theorem AY {pl:Sem Bool} (he:PE X o ta) (h:A4 X.prog X.w X.K X.mg X.base C m k ps sp) (hr:Room k X.A) (hx:BP (CXE X.prog X.w) X E) (ha:PA X (e::es) t)
    (hst:starEach (e::es) X.env=(false,eval e X.env)::starEach es X.env:=by rfl) (hpl:(backTo pos (starEach es X.env)).any (·.1)=false:=by rfl)
    (ht:eval (.Call (.Attribute o m apos) (e::es) [] pos) X.env=(do
      let ov <-eval o X.env
      standAt apos.atName
      let (f,first) <-holding [ov] (getMethod ov m pl)
      callWith pos f first (backTo pos (starEach (e::es) X.env)) (backToKw pos (keywordEach [] X.env))):=by rfl):
    PE X (.Call (.Attribute o m apos) (e::es) [] pos) (FL C m sp [] E ta t):=by
  obtain ⟨f,fd,c,hm,F,hb⟩:=h;exact MT (pl:=pl) he c hm F hr hb .nil hx ha hst hpl ht
end
end L2
open L2
local macro_rules | `(tactic| walk_at "t") => `(tactic| first | (with_reducible first | refine Px ?_ | refine OA ?_ | refine Kt ?_ | refine bw ?_ | refine aV ?_ | refine Ux ?_ | refine Sr ?_ | refine V9 ?_ | refine Sy ?_ | refine Tq ?_ | refine Tr ?_ | refine SA ?_ | refine Sx ?_ | refine SZ ?_ | refine Tv ?_ | refine RD ?_ | refine Wp ?_ | refine Yg ?_ | refine XA ?_ | refine Qs ?_ | refine Tj ?_ | refine Ri ?_ | refine YS ?_ | refine SE ?_ | refine Rh ?_ | refine SK ?_ | refine Qv ?_ | refine Tg ?_ | refine Sw ?_ | refine Z2 ?_ | refine Q0 ?_ | refine ZD ?_ | refine QQ ?_ | refine NY ?_ | refine Tw ?_ | refine CI ?_ | refine Cm ?_ | refine MX ?_ | refine QI ?_ | refine QV ?_ | refine O9 ?_ | refine QH ?_ | refine SC ?_ | refine Zs ?_ | refine Ou ?_ | refine Vh ?_ | refine Qz ?_ | refine Sm ?_ | refine Vi ?_ | refine WQ ?_ | refine YJ ?_ | refine Ys ?_ | refine Vv ?_ | refine W4 ?_ | refine Vr ?_ | refine Wu ?_ | refine Wj ?_ | refine PR ?_ | refine QF ?_ | refine PJ ?_ | refine SM ?_ | refine S3 ?_ | refine Qm ?_ | refine Qi ?_) | ((with_reducible apply SY); exact rfl) | (with_reducible refine SI (by simp only [List.length_cons, List.length_nil]; decide) ?_))
local macro_rules | `(tactic| walk_at "s") => `(tactic| first | walk_at "t" | (with_reducible refine SG ?_))
local macro_rules | `(tactic| walk_at "v") => `(tactic| repeat walk_at "t")
local macro_rules | `(tactic| walk_at "w") => `(tactic| repeat walk_at "s")
local macro_rules | `(tactic| wrow_has $H $n) => do let t := ((n.getId.toString.drop 1).toString); let i := λ (a : String) => Lean.mkIdent (Lean.Name.mkSimple (a ++ t)); `(tactic| (generalize e : upd $H $(i "p") _ = $(i "H"); have $(i "s"):ident : Same $H $(i "H") := (by rw [<-e]; exact Ai $(i "n")); have $(i "g"):ident := (congrFun e $(i "p")).symm.trans Ae; clear e))
local macro_rules | `(tactic| row_lines $H $n) => do let t := ((n.getId.toString.drop 1).toString); let i := λ (a : String) => Lean.mkIdent (Lean.Name.mkSimple (a ++ t)); `(tactic| (intro $(i "p"):ident $(i "n"):ident; wrow_has $H $n))
local macro_rules | `(tactic| walk_at "x") => `(tactic| repeat first | walk_at "s" | (with_reducible refine AD (by decide) ?_))
namespace K33
open PySem L2 PySem.Spec PyProof.Rows
seal L2.PE L2.PT L2.PW L2.PA L2.PS L2.PSs L2.PI L2.PG L2.PTs L2.PGs
section
variable {P:Program} {w:World} {K:PySem.W.Frag} {mg:Str->Option Value} {base:Heap}
structure Cs where
  Draft:Addr
  Cloth:Addr
  Hand:Addr
  LoomError:Addr
  BadRow:Addr
  BadWord:Addr
  TooMany:Addr
  NotPlain:Addr
  NotGrown:Addr
  BadDraft:Addr
  BadCloth:Addr
  OutOfPlace:Addr
  PARTS:Addr
structure Txt (K:PySem.W.Frag) (mg:Str->Option Value) (c:Cs):Prop where
  own:Own mg ["isinstance","int","bool","str","list","tuple","dict","len","all","range","sum","zip","enumerate","ValueError"]
  g_Draft:mg "Draft"=some (.ref c.Draft)
  kd_Draft:Kind K c.Draft
  is_Draft:PySem.W.kitOne K (.ref c.Draft) (.ref c.Draft)=some true
  na_Draft_shafts:NoAttr K c.Draft "shafts"
  na_Draft_treadles:NoAttr K c.Draft "treadles"
  na_Draft_threading:NoAttr K c.Draft "threading"
  na_Draft_ties:NoAttr K c.Draft "ties"
  na_Draft_treading:NoAttr K c.Draft "treading"
  na_Draft_warp:NoAttr K c.Draft "warp"
  na_Draft_weft:NoAttr K c.Draft "weft"
  g_Cloth:mg "Cloth"=some (.ref c.Cloth)
  kd_Cloth:Kind K c.Cloth
  is_Cloth:PySem.W.kitOne K (.ref c.Cloth) (.ref c.Cloth)=some true
  na_Cloth_width:NoAttr K c.Cloth "width"
  na_Cloth_rows:NoAttr K c.Cloth "rows"
  g_Hand:mg "Hand"=some (.ref c.Hand)
  kd_Hand:Kind K c.Hand
  is_Hand:PySem.W.kitOne K (.ref c.Hand) (.ref c.Hand)=some true
  na_Hand_held:NoAttr K c.Hand "held"
  na_Hand_past:NoAttr K c.Hand "past"
  g_LoomError:mg "LoomError"=some (.ref c.LoomError)
  g_BadRow:mg "BadRow"=some (.ref c.BadRow)
  g_BadWord:mg "BadWord"=some (.ref c.BadWord)
  g_TooMany:mg "TooMany"=some (.ref c.TooMany)
  g_NotPlain:mg "NotPlain"=some (.ref c.NotPlain)
  g_NotGrown:mg "NotGrown"=some (.ref c.NotGrown)
  g_BadDraft:mg "BadDraft"=some (.ref c.BadDraft)
  xk_BadDraft:HT.ExcKind K c.BadDraft
  xi_BadDraft:PySem.W.excIn K c.BadDraft [.type "ValueError", .type "Exception", .type "BaseException", .type "object"] "ValueError.__new__"=true
  xm_BadDraft_LoomError:PySem.W.exmOne K (.ref c.BadDraft) (.ref c.LoomError)=some true
  ki_BadDraft_BadRow:PySem.W.kitOne K (.ref c.BadDraft) (.ref c.BadRow)=some false
  ki_BadDraft_BadWord:PySem.W.kitOne K (.ref c.BadDraft) (.ref c.BadWord)=some false
  ki_BadDraft_TooMany:PySem.W.kitOne K (.ref c.BadDraft) (.ref c.TooMany)=some false
  ki_BadDraft_NotPlain:PySem.W.kitOne K (.ref c.BadDraft) (.ref c.NotPlain)=some false
  ki_BadDraft_NotGrown:PySem.W.kitOne K (.ref c.BadDraft) (.ref c.NotGrown)=some false
  ki_BadDraft_BadDraft:PySem.W.kitOne K (.ref c.BadDraft) (.ref c.BadDraft)=some true
  ki_BadDraft_BadCloth:PySem.W.kitOne K (.ref c.BadDraft) (.ref c.BadCloth)=some false
  ki_BadDraft_OutOfPlace:PySem.W.kitOne K (.ref c.BadDraft) (.ref c.OutOfPlace)=some false
  ki_BadDraft_ValueError:PySem.W.kitOne K (.ref c.BadDraft) (.type "ValueError")=some true
  g_BadCloth:mg "BadCloth"=some (.ref c.BadCloth)
  xk_BadCloth:HT.ExcKind K c.BadCloth
  xi_BadCloth:PySem.W.excIn K c.BadCloth [.type "ValueError", .type "Exception", .type "BaseException", .type "object"] "ValueError.__new__"=true
  xm_BadCloth_LoomError:PySem.W.exmOne K (.ref c.BadCloth) (.ref c.LoomError)=some true
  ki_BadCloth_BadRow:PySem.W.kitOne K (.ref c.BadCloth) (.ref c.BadRow)=some false
  ki_BadCloth_BadWord:PySem.W.kitOne K (.ref c.BadCloth) (.ref c.BadWord)=some false
  ki_BadCloth_TooMany:PySem.W.kitOne K (.ref c.BadCloth) (.ref c.TooMany)=some false
  ki_BadCloth_NotPlain:PySem.W.kitOne K (.ref c.BadCloth) (.ref c.NotPlain)=some false
  ki_BadCloth_NotGrown:PySem.W.kitOne K (.ref c.BadCloth) (.ref c.NotGrown)=some false
  ki_BadCloth_BadDraft:PySem.W.kitOne K (.ref c.BadCloth) (.ref c.BadDraft)=some false
  ki_BadCloth_BadCloth:PySem.W.kitOne K (.ref c.BadCloth) (.ref c.BadCloth)=some true
  ki_BadCloth_OutOfPlace:PySem.W.kitOne K (.ref c.BadCloth) (.ref c.OutOfPlace)=some false
  ki_BadCloth_ValueError:PySem.W.kitOne K (.ref c.BadCloth) (.type "ValueError")=some true
  g_OutOfPlace:mg "OutOfPlace"=some (.ref c.OutOfPlace)
  xk_OutOfPlace:HT.ExcKind K c.OutOfPlace
  xi_OutOfPlace:PySem.W.excIn K c.OutOfPlace [.type "ValueError", .type "Exception", .type "BaseException", .type "object"] "ValueError.__new__"=true
  xm_OutOfPlace_LoomError:PySem.W.exmOne K (.ref c.OutOfPlace) (.ref c.LoomError)=some true
  ki_OutOfPlace_BadRow:PySem.W.kitOne K (.ref c.OutOfPlace) (.ref c.BadRow)=some false
  ki_OutOfPlace_BadWord:PySem.W.kitOne K (.ref c.OutOfPlace) (.ref c.BadWord)=some false
  ki_OutOfPlace_TooMany:PySem.W.kitOne K (.ref c.OutOfPlace) (.ref c.TooMany)=some false
  ki_OutOfPlace_NotPlain:PySem.W.kitOne K (.ref c.OutOfPlace) (.ref c.NotPlain)=some false
  ki_OutOfPlace_NotGrown:PySem.W.kitOne K (.ref c.OutOfPlace) (.ref c.NotGrown)=some false
  ki_OutOfPlace_BadDraft:PySem.W.kitOne K (.ref c.OutOfPlace) (.ref c.BadDraft)=some false
  ki_OutOfPlace_BadCloth:PySem.W.kitOne K (.ref c.OutOfPlace) (.ref c.BadCloth)=some false
  ki_OutOfPlace_OutOfPlace:PySem.W.kitOne K (.ref c.OutOfPlace) (.ref c.OutOfPlace)=some true
  ki_OutOfPlace_ValueError:PySem.W.kitOne K (.ref c.OutOfPlace) (.type "ValueError")=some true
  g_PARTS:mg "PARTS"=some (.ref c.PARTS)
  t_PARTS:∀ H:Hp,SqT K H c.PARTS [.str "shafts", .str "treadles", .str "threading", .str "ties", .str "treading", .str "warp", .str "weft"]
  k_MOST_SHAFTS:∃ t,mg "MOST_SHAFTS"=some (.int 16 t)
  k_MOST_TREADLES:∃ t,mg "MOST_TREADLES"=some (.int 16 t)
  k_MOST_ENDS:∃ t,mg "MOST_ENDS"=some (.int 60 t)
  k_MOST_PICKS:∃ t,mg "MOST_PICKS"=some (.int 60 t)
  k_COLOURS:∃ t,mg "COLOURS"=some (.str "abcdefghijklmnopqrstuvwxyz" t)
  k_WARP:∃ t,mg "WARP"=some (.str "warp" t)
  k_WEFT:∃ t,mg "WEFT"=some (.str "weft" t)
def MW (K:PySem.W.Frag):Sp:=λ vs H Q _=>∃ (a:Addr) (ns:List Int),vs=[.ref a]/\SqL K H a (ns.map V.int)/\ns.length<=63/\∀ H',Q (.bl true) H'
end
section
variable {P:Program} {w:World} {K:PySem.W.Frag} {mg:Str->Option Value} {base:Heap} {c:Cs}
def CZ:Nat->Sp
  | 0=>λ _ _ _ _=>False
  | n+1=>λ vs H Q _=>∃ v u d,vs=[v,u]/\Rp H FT n v d/\Rp H FT n u d/\∀ H',Same H H'->Q (.bl true) H'
abbrev Dv:Stmt:=top 60
theorem KY:FnScope ["_law_found","_law_due"] ["_law_found","_law_due"] (Ah Dv):=⟨rfl,rfl,rfl,by decide +kernel,rfl,by decide +kernel,by decide +kernel⟩
theorem JJ {n:Nat} {f:Addr} {fd:FuncData} (F:Fun K "_law_same" "_law_same" Dv f fd) (T:Txt K mg c) (c__law_same:Az P w K mg base "_law_same" (n+1) ["_law_found","_law_due"] (CZ n)):FnOk P w K mg base CX0 (n+2) f fd ["_law_found","_law_due"] (CZ (n+1)):=by
  refine F.ok KY (λ vs H Q E h=> ?_) (λ cdv A outer s H vs Q E hr h=> ?_)
  · obtain ⟨v,u,d,rfl,_⟩:=h;rfl
  · obtain ⟨v,u,d,rfl,rv,ru,k⟩:=h;refine ⟨_,(Ad (Bb (A6 (Am (Q6 (K:=K)) rfl (T.own _ (by decide)) boot_isinstance (Aa (pv 1) (Aa (A2 (Aa (Ce rfl (T.own _ (by decide)) AA) (Aa (Ce rfl (T.own _ (by decide)) AN) Ab))) Ab)))) (Ad (Bb (PW.pt (Lu (AE Lt (Am (BY (K:=K)) rfl (T.own _ (by decide)) boot_isinstance (Aa (pv 0) (Aa (Ce rfl (T.own _ (by decide)) AA) Ab))) (Am (BY (K:=K)) rfl (T.own _ (by decide)) boot_isinstance (Aa (pv 1) (Aa (Ce rfl (T.own _ (by decide)) AA) Ab))) (AB _)) (Je (AE Lt (Am (BY (K:=K)) rfl (T.own _ (by decide)) boot_isinstance (Aa (pv 0) (Aa (Ce rfl (T.own _ (by decide)) AN) Ab))) (Am (BY (K:=K)) rfl (T.own _ (by decide)) boot_isinstance (Aa (pv 1) (Aa (Ce rfl (T.own _ (by decide)) AN) Ab))) (AB _))))) (Af (An EN)) A9)
      (Af (An (Dm (BO Bv (Am (CV (K:=K)) rfl (T.own _ (by decide)) boot_len (Aa (pv 0) Ab)) (Am (CV (K:=K)) rfl (T.own _ (by decide)) boot_len (Aa (pv 1) Ab)) (AB _)) (DI (Am (Ll (K:=K)) rfl (T.own _ (by decide)) DS (Aa (Fn (K:=K) (Vy (K:=K) rfl (T.own _ (by decide)) (Aa (pv 0) (Aa (pv 1) Ab))) (λ _ _ _ _=>AK) (λ _ _ _ _=>(Ag c__law_same hr (Aa (pv 0) (Aa (pv 1) Ab))))) Ab))))))) A9)
      (Af (An (Dm (BO Bv (Am (BY (K:=K)) rfl (T.own _ (by decide)) boot_isinstance (Aa (pv 0) (Aa (Ce rfl (T.own _ (by decide)) boot_bool) Ab))) (Am (BY (K:=K)) rfl (T.own _ (by decide)) boot_isinstance (Aa (pv 1) (Aa (Ce rfl (T.own _ (by decide)) boot_bool) Ab))) (AB _)) (DI (BO Bv (pv 0) (pv 1) (AB _))))))),?_⟩
    walk_at "w";intro p hp;walk_at "w";have sp:=Ai (o:=HO.tup [V.ty "list",V.ty "tuple"]) hp;refine OK (ns:=["list","tuple"]) Ae (ru.same sp).ty (UI d) ?_;have rv:=rv.same sp;have ru:=ru.same sp;generalize upd H p (HO.tup [V.ty "list",V.ty "tuple"])=H1 at rv ru sp ⊢;walk_at "w";refine SV (λ hc=> ?_) (λ hc=> ?_)
    · walk_at "w";refine AS rv.ty (HU d) ?_;walk_at "w";refine AS ru.ty (HU d) ?_;walk_at "w";refine T8 (λ q=>absurd rfl q) (λ _=> ?_);walk_at "w";refine AS rv.ty (Gn d) ?_;walk_at "w";refine AS ru.ty (Gn d) ?_;walk_at "w";refine T8 (λ q=>absurd rfl q) (λ _=> ?_);walk_at "w";obtain ⟨m,a,xs,hm,rfl,sa,la,ba,ea⟩:=rv.seq (K:=K) hc;obtain ⟨m',b,zs,hm',rfl,sb,lb,bb,eb⟩:=ru.seq (K:=K) hc;subst hm;cases hm';refine Nq sa ?_;walk_at "w";refine Nq sb ?_;walk_at "w";refine CJ (λ _=> ?_) (λ q=>absurd (by rw [la,lb]) q);walk_at "w";refine ⟨CW d,CW d,a,b,rfl,⟨_,sa⟩,⟨_,sb⟩,λ D hD=> ?_⟩;refine Re (xs:=xs) (zs:=zs) (by omega) (λ i ys H'=>ys=(Ab1 i true).map V.bl/\Same H1 H'/\H' D=some (.lst ys)) ⟨rfl,Fu (Same.refl _) hD,Ae⟩ (λ i ys H' _ ⟨_,s,_⟩=>⟨sa.same s,sb.same s⟩) ?_ ?_
      · rintro i x z ys H' q hx hz ⟨rfl,s1,hl⟩ hq;refine ⟨((Kp.refl _).set rfl).set rfl,SL ?_⟩;walk_at "w";have hi:i<(Bx d).length:=by
          have:=(Ac3.mp hx).1;omega
        have hd:(Bx d)[i]?=some (Bx d)[i]:=Aa4 hi;have s2:Same H1 (upd H' q (HO.tup [x,z])):=s1.trans (Ai hq);refine ⟨x,z,(Bx d)[i],rfl,(ea i x _ hx hd).same s2,(eb i z _ hz hd).same s2,λ H'' s3=> ?_⟩;have hl':H'' D=some (.lst ((Ab1 i true).map V.bl)):=s3 _ _ (Ai hq _ _ hl);refine ⟨hl',?_,?_,?_,Ae⟩
        · rw [Aa2,Ac9];exact Ab4 hi (Ab8 (by omega) (show 100000<=sizeLine by decide))
        · rw [List.replicate_succ',List.map_append];rfl
        · exact Fu (s2.trans s3) hD
      · rintro ys H' ⟨rfl,s1,hl⟩;walk_at "w";refine Jd (SqL.of hl) ?_;have e:(Ab1 xs.length true).all id=true:=by simp
        rw [e];exact k H' (sp.trans s1)
    · walk_at "w";refine AS rv.ty (Nj d) ?_;walk_at "w";refine AS ru.ty (Nj d) ?_;walk_at "w";refine CJ (λ _=> ?_) (λ q=>absurd rfl q);walk_at "w";have e:=Qy rv ru hc;subst e;refine ⟨NS rv hc,?_⟩;rw [decide_eq_true rfl];exact k H1 sp
theorem Gq {f:Addr} {fd:FuncData} (D:DefAt K mg "_law_same" Dv ["_law_found","_law_due"] f fd) (T:Txt K mg c):∀ n,FnOk P w K mg base CX0 (n+1) f fd ["_law_found","_law_due"] (CZ n)
  | 0=>⟨λ _ _ _ _ h=>h.elim,λ _ _ _ _ _ _ _ _ _ _ _ _ _ h=>h.elim⟩
  | n+1=>JJ D.fn T (D.call (Gq D T n))
def GU:Sp:=λ vs H Q _=>∃ n:Nat,vs=[.int n]/\1<=n/\n<=1000/\Q (.int ((2 ^ (n - 1):Nat):Int)) H
abbrev IM:Stmt:=top 31
theorem Nw:FnScope ["number"] ["number"] (Ah IM):=⟨rfl,rfl,rfl,by decide +kernel,rfl,by decide +kernel,by decide +kernel⟩
theorem Oc {f:Addr} {fd:FuncData} (F:Fun K "bit_of" "bit_of" IM f fd) (T:Txt K mg c):FnOk P w K mg base CX0 1 f fd ["number"] GU:=by
  refine F.ok Nw (λ vs H Q E h=> ?_) (λ cdv A outer s H vs Q E hr h=> ?_)
  · obtain ⟨n,rfl,_⟩:=h;rfl
  · obtain ⟨n,rfl,h1,h2,q⟩:=h;refine ⟨_,(Af (An (Aj KH Ac (Aj E4 (pv 0) Ac)))),?_⟩;walk_at "w";refine AD ⟨by omega,by omega,by decide⟩ ?_;rw [show ((n:Int) - 1).toNat=n - 1 by omega,Gi];exact q
def F5 (K:PySem.W.Frag):Sp:=λ vs H Q _=>∃ tp a,∃ ns:List Nat,vs=[.ref a]/\SqS tp K H a (ns.map nV)/\(∀ n∈ns,1<=n/\n<=1000)/\∀ H',Same H H'->Q (.int ((MM.mOf ns:Nat):Int)) H'
abbrev G5:Stmt:=top 32
theorem sc_mask_of:FnScope ["numbers","mask","number"] ["numbers"] (Ah G5):=⟨rfl,rfl,rfl,by decide +kernel,rfl,by decide +kernel,by decide +kernel⟩
theorem Mv {f:Addr} {fd:FuncData} (F:Fun K "mask_of" "mask_of" G5 f fd) (T:Txt K mg c) (c_bit_of:Az P w K mg base "bit_of" 1 ["number"] GU):FnOk P w K mg base CX0 2 f fd ["numbers"] (F5 K):=by
  refine F.ok sc_mask_of (λ vs H Q E h=> ?_) (λ cdv A outer s H vs Q E hr h=> ?_)
  · obtain ⟨tp,a,ns,rfl,_⟩:=h;rfl
  · obtain ⟨tp,a,ns,rfl,sa,hn,q⟩:=h;refine ⟨_,(Ad (Ap (i:=1) sc_mask_of.nd rfl (Or.inl rfl) Ac)
      (Ad (Hc PassesOwn.never rfl (On (K:=K) (pv 0)) (Bf (i:=2) sc_mask_of.nd rfl (Or.inl rfl)) (Af (Pj (i:=1) sc_mask_of.nd rfl (Or.inl rfl) (Ag c_bit_of hr (Aa (pv 2) Ab)) Pg)))
      (Af (An (pv 1))))),?_⟩
    walk_at "w";refine ⟨tp,a,rfl,⟨_,sa⟩,HV (MU sa) (λ i σ H3=>∃ x,σ=[some (.ref a),some (.int ((MM.mOf (ns.take i):Nat):Int)),x]/\Same H H3) ⟨_,rfl,Same.refl _⟩ (λ i σ H3 ⟨_,_,s⟩=>s) ?_ ?_⟩
    · rintro i σ H' H3 hi ⟨x,rfl,s'⟩ s3;have hi':i<ns.length:=by simpa using hi
      have hm:ns.getD i 0∈ns:=by rw [Aa3,Aa4 hi'];exact List.getElem_mem hi'
      rw [Ed hi];walk_at "w";refine Oe rfl ?_;walk_at "w";refine ⟨_,rfl,(hn _ hm).1,(hn _ hm).2,?_⟩;walk_at "w";rw [bO, <-MM.mOf_snoc, <-Ki hi'];exact ⟨_,rfl,s'.trans s3⟩
    · rintro σ H3 ⟨x,rfl,s3⟩;walk_at "w";rw [Aa2,List.take_length];exact q H3 s3
def Ii:Sp:=λ vs H Q _=>∃ n:Nat,vs=[.int n]/\n<=1000/\Q (.int ((2 ^ n - 1:Nat):Int)) H
abbrev G7:Stmt:=top 33
theorem Mb:FnScope ["most"] ["most"] (Ah G7):=⟨rfl,rfl,rfl,by decide +kernel,rfl,by decide +kernel,by decide +kernel⟩
theorem MJ {f:Addr} {fd:FuncData} (F:Fun K "mask_to" "mask_to" G7 f fd) (T:Txt K mg c):FnOk P w K mg base CX0 1 f fd ["most"] Ii:=by
  refine F.ok Mb (λ vs H Q E h=> ?_) (λ cdv A outer s H vs Q E hr h=> ?_)
  · obtain ⟨n,rfl,_⟩:=h;rfl
  · obtain ⟨n,rfl,h1,q⟩:=h;refine ⟨_,(Af (An (Aj E4 (Aj KH Ac (pv 0)) Ac))),?_⟩;walk_at "w";refine AD ⟨by omega,by omega,by decide⟩ ?_;walk_at "w";have hp:0<2 ^ n:=Nat.two_pow_pos n;rw [show ((n:Int)).toNat=n by omega,Gi,show ((2 ^ n:Nat):Int) - 1=((2 ^ n - 1:Nat):Int) by omega];exact q
def FD:Sp:=λ vs H Q _=>∃ m n:Nat,vs=[.int m, .int n]/\1<=n/\n<=1000/\Q (.bl (m.testBit (n - 1))) H
theorem QU (m i:Nat):(!decide (((m &&& 2 ^ i:Nat):Int)=0))=m.testBit i:=by
  have e:(m &&& 2 ^ i)=(m.testBit i).toNat*2 ^ i:=by
    refine Nat.eq_of_testBit_eq λ j=> ?_;rw [Nat.testBit_and,Nat.testBit_two_pow];by_cases h:i=j
    · subst h;cases hb:m.testBit i <;> simp
    · cases hb:m.testBit i <;> simp [h,Nat.testBit_two_pow]
  rw [e];have hp:0<2 ^ i:=Nat.two_pow_pos i;cases m.testBit i with
  | false=>simp
  | true=>
    rw [decide_eq_false (by rw [Bool.toNat_true];omega)];rfl
abbrev EI:Stmt:=top 34
theorem Jl:FnScope ["mask","number"] ["mask","number"] (Ah EI):=⟨rfl,rfl,rfl,by decide +kernel,rfl,by decide +kernel,by decide +kernel⟩
theorem JE {f:Addr} {fd:FuncData} (F:Fun K "has_number" "has_number" EI f fd) (T:Txt K mg c) (c_bit_of:Az P w K mg base "bit_of" 1 ["number"] GU):FnOk P w K mg base CX0 2 f fd ["mask","number"] FD:=by
  refine F.ok Jl (λ vs H Q E h=> ?_) (λ cdv A outer s H vs Q E hr h=> ?_)
  · obtain ⟨m,n,rfl,_⟩:=h;rfl
  · obtain ⟨m,n,rfl,h1,h2,q⟩:=h;refine ⟨_,(Af (An (BO Lt (Aj O3 (pv 0) (Ag c_bit_of hr (Aa (pv 1) Ab))) Ac (AB _)))),?_⟩;walk_at "w";refine ⟨n,rfl,h1,h2,?_⟩;walk_at "w";rw [bA,QU];exact q
def FH:Sp:=λ vs H Q _=>∃ m:Nat,vs=[.int m]/\m<2 ^ 900/\∀ H' p,Same H H'->H p=none->H' p=some (.lst ((MM.nOf m).map nV))->Q (.ref p) H'
abbrev EA:Stmt:=top 35
theorem Jt:FnScope ["mask"] ["mask"] (Ah EA):=⟨rfl,rfl,rfl,by decide +kernel,rfl,by decide +kernel,by decide +kernel⟩
theorem Jj {f:Addr} {fd:FuncData} (F:Fun K "numbers_of" "numbers_of" EA f fd) (T:Txt K mg c) (c_has_number:Az P w K mg base "has_number" 2 ["mask","number"] FD):FnOk P w K mg base CX0 3 f fd ["mask"] FH:=by
  refine F.ok Jt (λ vs H Q E h=> ?_) (λ cdv A outer s H vs Q E hr h=> ?_)
  · obtain ⟨m,rfl,_⟩:=h;rfl
  · obtain ⟨m,rfl,h1,q⟩:=h;have hb:=MM.bits_le h1;refine ⟨_,(Af (An (AM (J7 rfl (T.own _ (by decide)) (Aa Ac (Aa (Aj AU (PP (K:=K) PySem.F.plainAttrs_int PySem.F.slot_int_bit_length PySem.F.type_int_bit_length JA (pv 0)) Ac) Ab))) (λ _ _ _ _=>(GH (A6 (Ag c_has_number hr (Aa (pv 1) (Aa (pv 0) Ab)))))) (λ _ _ _ _=>(pv 0))))),?_⟩;walk_at "w";refine tyI ?_;refine Q3 ?_;walk_at "w";refine ⟨_,_,rfl,⟨by decide,by decide,by omega,by omega⟩,λ D hD=> ?_⟩;rw [show ((MM.bits m:Nat)+1 - 1:Int).toNat=MM.bits m by omega];refine FV (p:=m.testBit) (G:=λ i=>1+(i:Int)) (GX rfl) hD (by omega) ?_ ?_ ?_
    · intro i H' R hi s k;walk_at "w";refine ⟨m,i+1,by rw [show (1:Int)+(i:Nat)=((i+1:Nat):Int) by omega],by omega,by omega,?_⟩;rw [show i+1 - 1=i by omega];exact ⟨_,rfl,k H' (Same.refl _)⟩
    · intro i H' R hi hp s k;walk_at "w";exact k H' (Same.refl _)
    · intro H' s hl;refine q H' D s hD ?_;rw [hl];unfold MM.nOf;rw [Ae8,Ae8];congr 2;refine List.map_congr_left λ i _=> ?_;show V.int (1+(i:Int))=V.int ((i+1:Nat):Int);congr 1;omega
def Ff (K:PySem.W.Frag):Sp:=λ vs H Q _=>∃ tp a,∃ ns:List Nat,vs=[.ref a]/\SqS tp K H a (ns.map nV)/\∀ H',Same H H'->Q (.int ((MM.uOf ns:Nat):Int)) H'
abbrev FX:Stmt:=top 36
theorem sc_union_of:FnScope ["masks","union","mask"] ["masks"] (Ah FX):=⟨rfl,rfl,rfl,by decide +kernel,rfl,by decide +kernel,by decide +kernel⟩
theorem LP {f:Addr} {fd:FuncData} (F:Fun K "union_of" "union_of" FX f fd) (T:Txt K mg c):FnOk P w K mg base CX0 1 f fd ["masks"] (Ff K):=by
  refine F.ok sc_union_of (λ vs H Q E h=> ?_) (λ cdv A outer s H vs Q E hr h=> ?_)
  · obtain ⟨tp,a,ns,rfl,_⟩:=h;rfl
  · obtain ⟨tp,a,ns,rfl,sa,q⟩:=h;refine ⟨_,(Ad (Ap (i:=1) sc_union_of.nd rfl (Or.inl rfl) Ac)
      (Ad (Hc PassesOwn.never rfl (On (K:=K) (pv 0)) (Bf (i:=2) sc_union_of.nd rfl (Or.inl rfl)) (Af (Pj (i:=1) sc_union_of.nd rfl (Or.inl rfl) (pv 2) Pg)))
      (Af (An (pv 1))))),?_⟩
    walk_at "w";refine ⟨tp,a,rfl,⟨_,sa⟩,HV (MU sa) (λ i σ H3=>∃ x,σ=[some (.ref a),some (.int ((MM.uOf (ns.take i):Nat):Int)),x]/\Same H H3) ⟨_,rfl,Same.refl _⟩ (λ i σ H3 ⟨_,_,s⟩=>s) ?_ ?_⟩
    · rintro i σ H' H3 hi ⟨x,rfl,s'⟩ s3;have hi':i<ns.length:=by simpa using hi
      rw [Ed hi];walk_at "w";refine Oe rfl ?_;walk_at "w";rw [bO, <-MM.uOf_snoc, <-Ki hi'];exact ⟨_,rfl,s'.trans s3⟩
    · rintro σ H3 ⟨x,rfl,s3⟩;walk_at "w";rw [Aa2,List.take_length];exact q H3 s3
def Hi (K:PySem.W.Frag):Sp:=λ vs H Q _=>∃ x,vs=[x]/\Ty K H x/\Q (.bl (Oh x)) H
abbrev F2:Stmt:=top 17
theorem Ld:FnScope ["thing"] ["thing"] (Ah F2):=⟨rfl,rfl,rfl,by decide +kernel,rfl,by decide +kernel,by decide +kernel⟩
theorem LF {f:Addr} {fd:FuncData} (F:Fun K "is_whole" "is_whole" F2 f fd) (T:Txt K mg c):FnOk P w K mg base CX0 1 f fd ["thing"] (Hi K):=by
  refine F.ok Ld (λ vs H Q E h=> ?_) (λ cdv A outer s H vs Q E hr h=> ?_)
  · obtain ⟨x,rfl,_⟩:=h;rfl
  · obtain ⟨x,rfl,⟨n,ty⟩,k⟩:=h;refine ⟨_,(Af (An (Dm (Am (BY (K:=K)) rfl (T.own _ (by decide)) boot_isinstance (Aa (pv 0) (Aa (Ce rfl (T.own _ (by decide)) boot_int) Ab))) (DI (Mf (Am (BY (K:=K)) rfl (T.own _ (by decide)) boot_isinstance (Aa (pv 0) (Aa (Ce rfl (T.own _ (by decide)) boot_bool) Ab)))))))),?_⟩;walk_at "w";refine AS ty (Rz ty) ?_;walk_at "w";refine Rb (λ hc=> ?_) (λ hc=> ?_)
    · walk_at "w";refine AS ty (OP ty) ?_;walk_at "w";exact Dk (by cases x <;> first | rfl | exact absurd hc Ab0) k
    · exact Dk (by cases x <;> first | rfl | exact absurd hc.symm Ab0) k
def B0 (K:PySem.W.Frag):Sp:=λ vs H Q _=>∃ x a b,vs=[x, .int a, .int b]/\Ty K H x/\Q (.bl (As x a b)) H
abbrev FU:Stmt:=top 18
theorem L5:FnScope ["thing","least","most"] ["thing","least","most"] (Ah FU):=⟨rfl,rfl,rfl,by decide +kernel,rfl,by decide +kernel,by decide +kernel⟩
theorem Li {f:Addr} {fd:FuncData} (F:Fun K "is_among" "is_among" FU f fd) (T:Txt K mg c) (c_is_whole:Az P w K mg base "is_whole" 1 ["thing"] (Hi K)):FnOk P w K mg base CX0 2 f fd ["thing","least","most"] (B0 K):=by
  refine F.ok L5 (λ vs H Q E h=> ?_) (λ cdv A outer s H vs Q E hr h=> ?_)
  · obtain ⟨x,a,b,rfl,_⟩:=h;rfl
  · obtain ⟨x,a,b,rfl,ty,k⟩:=h;refine ⟨_,(Af (An (Dm (Ag c_is_whole hr (Aa (pv 0) Ab)) (DI (Po RV RV (pv 1) (pv 0) (pv 2)))))),?_⟩;walk_at "w";refine ⟨x,rfl,ty,?_⟩;walk_at "w";refine Rb (λ hc=> ?_) (λ hc=> ?_)
    · cases x with
      | int i=>
        walk_at "w";refine Rb (λ h1=> ?_) (λ h1=> ?_)
        · walk_at "w";exact Dk (by show _=(decide (a<=i)&&decide (i<=b));rw [h1,Ac8]) k
        · walk_at "w";exact Dk (by show _=(decide (a<=i)&&decide (i<=b));rw [h1,Ac5]) k
      | _=>exact absurd hc Ab0
    · exact Dk (by cases x <;> first | rfl | exact absurd hc.symm Ab0) k
def N1 (C:Addr) (H:Hp) (x:Addr) (n:Nat) (rs:List Nat):Prop:=∃ dx t,H x=some (.ins C dx [("width",nV n),("rows", .ref t)])/\H t=some (.tup (rs.map nV))
structure ClOk (n:Nat) (rs:List Nat):Prop where
  n1:1<=n
  n2:n<=60
  p1:1<=rs.length
  p2:rs.length<=60
  lt:∀ r∈rs,r<2 ^ n
inductive ClFit (K:PySem.W.Frag) (H:Hp):V->V->Bool->Prop
  | ends {e r:V} (ty:Ty K H e) (h:As e 1 60=false):ClFit K H e r false
  | kind {n:Nat} {r:V} {t:Value} (h1:1<=n) (h2:n<=60) (ty:TyOf K H r t) (h:PySem.W.kitOne K t (.type "list")=some false):ClFit K H (.int n) r false
  | many {n:Nat} {a:Addr} {xs:List V} (h1:1<=n) (h2:n<=60) (ha:H a=some (.lst xs)) (h:xs.length=0\/60<xs.length):ClFit K H (.int n) (.ref a) false
  | rows {n:Nat} {a:Addr} {xs:List V} (h1:1<=n) (h2:n<=60) (ha:H a=some (.lst xs)) (l1:1<=xs.length) (l2:xs.length<=60) (ty:∀ x∈xs,Ty K H x):ClFit K H (.int n) (.ref a) (xs.all λ x=>As x 0 ((2 ^ n - 1:Nat):Int))
theorem ClFit.ok {H:Hp} {n:Nat} {a:Addr} {rs:List Nat} (ha:H a=some (.lst (rs.map nV))) (ok:ClOk n rs):ClFit K H (.int n) (.ref a) true:=by
  have e:((rs.map nV).all λ x=>As x 0 ((2 ^ n - 1:Nat):Int))=true:=by
    rw [Ac0];intro x hx;obtain ⟨r,hr,rfl⟩:=Ad0.mp hx;have:=ok.lt _ hr;have hp:0<2 ^ n:=Nat.two_pow_pos n;show (decide ((0:Int)<=(r:Nat))&&decide (((r:Nat):Int)<=((2 ^ n - 1:Nat):Int)))=true;simp only [Ab3,decide_eq_true_eq];omega
  rw [<-e];refine .rows ok.n1 ok.n2 ha (by rw [Aa2];exact ok.p1) (by rw [Aa2];exact ok.p2) λ x hx=> ?_;obtain ⟨r,hr,rfl⟩:=Ad0.mp hx;exact ⟨_, .int _⟩
def FA (K:PySem.W.Frag) (c:Cs):Sp:=λ vs H Q E=>∃ (e r:V) (b:Bool),vs=[e,r]/\ClFit K H e r b/\∀ H',Same H H'->(b=true->Q .non H')/\(b=false->E (.ref c.BadCloth) none H')
theorem Gd {n:Nat} (h1:1<=n) (h2:n<=60):As (.int n) 1 60=true:=by
  show (decide ((1:Int)<=n)&&decide ((n:Int)<=60))=true;simp;omega
abbrev EH:Stmt:=top 38
theorem JT:FnScope ["ends","rows"] ["ends","rows"] (Ah EH):=⟨rfl,rfl,rfl,by decide +kernel,rfl,by decide +kernel,by decide +kernel⟩
theorem JP {f:Addr} {fd:FuncData} (F:Fun K "need_cloth" "need_cloth" EH f fd) (T:Txt K mg c) (c_is_among:Az P w K mg base "is_among" 2 ["thing","least","most"] (B0 K)) (c_mask_to:Az P w K mg base "mask_to" 1 ["most"] Ii):FnOk P w K mg base (CXE P w) 3 f fd ["ends","rows"] (FA K c):=by
  refine Fun.okE F JT (λ vs H Q E h=> ?_) (λ cdv A outer s H vs Q E hr h=> ?_)
  · obtain ⟨e,r,b,rfl,_⟩:=h;rfl
  · obtain ⟨e,r,b,rfl,hf,k⟩:=h;have tye:Ty K H e:=by cases hf <;> first | assumption | exact ⟨_, .int _⟩
    refine ⟨_,(Ad (Bb (DJ (A6 (Ag c_is_among hr (Aa (pv 0) (Aa Ac (Aa (Ka T.k_MOST_ENDS) Ab)))))) (Af (Cp T.g_BadCloth T.xi_BadCloth (Aa Al Ab))) A9)
      (Ad (Bb (PW.pt (Lu (DJ (A6 (Am (BY (K:=K)) rfl (T.own _ (by decide)) boot_isinstance (Aa (pv 1) (Aa (Ce rfl (T.own _ (by decide)) AA) Ab))))) (Je (DJ (A6 (Ag c_is_among hr (Aa (Am (CV (K:=K)) rfl (T.own _ (by decide)) boot_len (Aa (pv 1) Ab)) (Aa Ac (Aa (Ka T.k_MOST_PICKS) Ab))))))))) (Af (Cp T.g_BadCloth T.xi_BadCloth (Aa Al Ab))) A9)
      (Af (Bb (DJ (A6 (Am (Ll (K:=K)) rfl (T.own _ (by decide)) DS (Aa (AM (CG (K:=K) (pv 1)) (λ _ _ _ _=>AK) (λ _ _ _ _=>(Ag c_is_among hr (Aa (pv 0) (Aa Ac (Aa (Ag c_mask_to (hr.mono (by decide)) (Aa (pv 1) Ab)) Ab)))))) Ab)))) (Af (Cp T.g_BadCloth T.xi_BadCloth (Aa Al Ab))) A9)))),?_⟩
    walk_at "w";refine ⟨_,_,_,rfl,tye,?_⟩;walk_at "w";cases hf with
    | ends ty h=>
      rw [h];refine CI ?_;exact ⟨by decide,(k H (Same.refl _)).2 rfl⟩
    | kind h1 h2 ty h=>
      rw [Gd h1 h2];refine Cm ?_;walk_at "w";refine AS ty h ?_;walk_at "w";exact ⟨by decide,(k H (Same.refl _)).2 rfl⟩
    | @many n a xs h1 h2 ha h=>
      rw [Gd h1 h2];refine Cm ?_;walk_at "w";refine AS (.lst ha) (kb (b:=true) (by decide +kernel)) ?_;walk_at "w";refine BU (SqL.of ha) ?_;walk_at "w";refine ⟨_,_,_,rfl,⟨_, .int _⟩,?_⟩;walk_at "w";have d2:As (.int (xs.length:Nat)) 1 60=false:=by
        show (decide ((1:Int)<=(xs.length:Nat))&&decide (((xs.length:Nat):Int)<=60))=false;rw [Bool.and_eq_false_iff,decide_eq_false_iff_not,decide_eq_false_iff_not];omega
      rw [d2];refine CI ?_;exact ⟨by decide,(k H (Same.refl _)).2 rfl⟩
    | @rows n a xs h1 h2 ha l1 l2 ty=>
      rw [Gd h1 h2];refine Cm ?_;walk_at "w";refine AS (.lst ha) (kb (b:=true) (by decide +kernel)) ?_;walk_at "w";refine BU (SqL.of ha) ?_;walk_at "w";refine ⟨_,_,_,rfl,⟨_, .int _⟩,?_⟩;walk_at "w";rw [Gd l1 l2];refine Cm ?_;walk_at "w";refine ⟨a,rfl,⟨_,SqL.of ha⟩,λ D hD=> ?_⟩;refine F8 (G:=λ i=>As (xs.getD i .non) 0 ((2 ^ n - 1:Nat):Int)) (Bl (SqL.of ha) rfl) hD (by omega) ?_ ?_
      · intro i H' R hi s kk;walk_at "w";refine ⟨n,rfl,by omega,?_⟩;walk_at "w";refine ⟨_,_,_,rfl,(ty _ ?_).same s,?_⟩
        · rw [Aa3,Aa4 hi];exact List.getElem_mem hi
        exact kk H' (Same.refl _)
      · intro H' s hl;walk_at "w";refine Jd (SqL.of hl) ?_;walk_at "w";have d4:((Aa9 xs.length).map λ i=>As (xs.getD i .non) 0 ((2 ^ n - 1:Nat):Int)).all id=xs.all λ x=>As x 0 ((2 ^ n - 1:Nat):Int):=by
          rw [AV (λ x:V=>As x 0 ((2 ^ n - 1:Nat):Int)) xs .non,List.all_map];rfl
        rw [d4];refine Rb (λ hb=> ?_) (λ hb=> ?_)
        · have hb:(xs.all λ x=>As x 0 ((2 ^ n - 1:Nat):Int))=false:=by simpa using hb
          exact ⟨by decide,(k H' s).2 hb⟩
        · have hb:(xs.all λ x=>As x 0 ((2 ^ n - 1:Nat):Int))=true:=by simpa using hb
          walk_at "w";exact (k H' s).1 hb
def B7 (K:PySem.W.Frag) (c:Cs):Sp:=λ vs H Q E=>∃ (x dx:Addr) (e r:V),vs=[.ref x,e,r]/\H x=some (.ins c.Cloth dx [])/\
  ((ClFit K H e r false/\∀ H',Same H H'->E (.ref c.BadCloth) none H')\/
  (∃ (n:Nat) (a:Addr) (rs:List Nat),e= .int n/\r= .ref a/\H a=some (.lst (rs.map nV))/\ClOk n rs/\∀ H',(∀ b o,H b=some o->b≠x->H' b=some o)->N1 c.Cloth H' x n rs->Q .non H'))
abbrev Cu:Stmt:=Aq (top 39) 0
theorem Gm:FnScope ["self","ends","rows"] ["self","ends","rows"] (Ah Cu):=⟨rfl,rfl,rfl,by decide +kernel,rfl,by decide +kernel,by decide +kernel⟩
theorem Gs {f:Addr} {fd:FuncData} (F:Fun K "__init__" "Cloth.__init__" Cu f fd) (T:Txt K mg c) (c_need_cloth:BF P w K mg base "need_cloth" 3 ["ends","rows"] (FA K c)):FnOk P w K mg base (CXE P w) 4 f fd ["self","ends","rows"] (B7 K c):=by
  refine Fun.okE F Gm (λ vs H Q E h=> ?_) (λ cdv A outer s H vs Q E hr h=> ?_)
  · obtain ⟨x,dx,e,r,rfl,_⟩:=h;rfl
  · obtain ⟨x,dx,e,r,rfl,hx,h⟩:=h;refine ⟨_,(Ad (Av (Aw c_need_cloth hr AF (Aa (pv 1) (Aa (pv 2) Ab))))
      (Ad (CO (pv 0) (pv 1) rfl)
      (Af (CO (pv 0) (AC (C2 (K:=K)) rfl (T.own _ (by decide)) AN (Aa (pv 2) Ab)) rfl)))),?_⟩
    walk_at "w";rcases h with ⟨hf,k⟩ | ⟨n,a,rs,rfl,rfl,ha,ok,k⟩
    · exact ⟨_,_,false,rfl,hf,λ H1 s1=>⟨λ z=>absurd z (by decide),λ _=>k H1 s1⟩⟩
    refine ⟨_,_,true,rfl, .ok ha ok,λ H1 s1=>⟨λ _=> ?_,λ z=>absurd z (by decide)⟩⟩;walk_at "w";refine CN (s1 _ _ hx) T.kd_Cloth.cl T.na_Cloth_width (by decide) ?_;walk_at "w";have nax:a≠x:=Cg ha hx (by intro z;cases z);refine B8 (SqL.of (by rw [Ak nax];exact s1 _ _ ha)) λ t ht=> ?_;walk_at "w";have nxt:x≠t:=Ay Ae ht;refine CN (by rw [Ak nxt];exact Ae) T.kd_Cloth.cl T.na_Cloth_rows (by show 1<1000;decide) ?_;walk_at "w";refine k _ (λ b o e hb=> ?_) ⟨dx,t,Ae,by rw [Ak (Ne.symm nxt),Ae]⟩;have hbt:b≠t:=λ z=>by
      subst z;rw [Ak hb,s1 _ _ e] at ht;cases ht
    rw [Ak hb,Ak hbt,Ak hb];exact s1 _ _ e
theorem QJ {c:Cs} {H:Hp} {Q:VK} {E:XK} {n:Nat} {a:Addr} {rs:List Nat} (ha:H a=some (.lst (rs.map nV))) (ok:ClOk n rs) (h:∀ H' x,Same H H'->H x=none->N1 c.Cloth H' x n rs->Q (.ref x) H'):
    ∀ x dx,H x=none->H dx=none->dx≠x->B7 K c [.ref x, .int n, .ref a] (upd (upd H dx (.own x)) x (.ins c.Cloth dx [])) (λ v H2=>v= .non/\Q (.ref x) H2) E:=by
  intro x dx hx hdx ne;have s0:=Gg (o:=HO.ins c.Cloth dx []) (u:= .own x) hx hdx;exact ⟨x,dx,_,_,rfl,Ae, .inr ⟨n,a,rs,rfl,rfl,s0 _ _ ha,ok,λ H' kp at'=>⟨rfl,h H' x (λ b o e=>kp b o (s0 b o e) (Ay e hx)) hx at'⟩⟩⟩
def FK (c:Cs):Sp:=λ vs H Q _=>∃ x n rs,vs=[.ref x]/\N1 c.Cloth H x n rs/\∀ H' p l,Same H H'->H p=none->H l=none->H' p=some (.tup [nV n, .ref l])->H' l=some (.lst (rs.map nV))->Q (.ref p) H'
abbrev Eg:Stmt:=Aq (top 39) 1
theorem JB:FnScope ["self"] ["self"] (Ah Eg):=⟨rfl,rfl,rfl,by decide +kernel,rfl,by decide +kernel,by decide +kernel⟩
theorem JQ {f:Addr} {fd:FuncData} (F:Fun K "told" "Cloth.told" Eg f fd) (T:Txt K mg c):FnOk P w K mg base CX0 1 f fd ["self"] (FK c):=by
  refine F.ok JB (λ vs H Q E h=> ?_) (λ cdv A outer s H vs Q E hr h=> ?_)
  · obtain ⟨x,n,rs,rfl,_⟩:=h;rfl
  · obtain ⟨x,n,rs,rfl,⟨dx,t,h1,h2⟩,k⟩:=h;refine ⟨_,(Af (An (A2 (Aa (Au (K:=K) (pv 0) rfl) (Aa (AC (BZ (K:=K)) rfl (T.own _ (by decide)) AA (Aa (Au (K:=K) (pv 0) rfl) Ab)) Ab))))),?_⟩;walk_at "w";refine ⟨_,_,_,_,_,rfl,h1,T.kd_Cloth.cl,T.na_Cloth_width,rfl,?_⟩;walk_at "w";refine ⟨_,_,_,_,_,rfl,h1,T.kd_Cloth.cl,T.na_Cloth_rows,rfl,?_⟩;walk_at "w";refine BI (SqT.of h2) λ l hl=> ?_;walk_at "w";intro p hp;refine k _ p l ((Ai hl).trans (Ai hp)) ((Ai hl).free hp) hl Ae ?_;rw [Ak (Ay Ae hp),Ae]
def FF (c:Cs):Sp:=λ vs H Q _=>∃ x n rs,vs=[.ref x]/\N1 c.Cloth H x n rs/\Q (nV n) H
abbrev Eo:Stmt:=Aq (top 39) 2
theorem JD:FnScope ["self"] ["self"] (Ah Eo):=⟨rfl,rfl,rfl,by decide +kernel,rfl,by decide +kernel,by decide +kernel⟩
theorem JM {f:Addr} {fd:FuncData} (F:Fun K "ends" "Cloth.ends" Eo f fd) (T:Txt K mg c):FnOk P w K mg base CX0 1 f fd ["self"] (FF c):=by
  refine F.ok JD (λ vs H Q E h=> ?_) (λ cdv A outer s H vs Q E hr h=> ?_)
  · obtain ⟨x,n,rs,rfl,_⟩:=h;rfl
  · obtain ⟨x,n,rs,rfl,⟨dx,t,h1,h2⟩,k⟩:=h;refine ⟨_,(Af (An (Au (K:=K) (pv 0) rfl))),?_⟩;walk_at "w";exact ⟨_,_,_,_,_,rfl,h1,T.kd_Cloth.cl,T.na_Cloth_width,rfl,k⟩
abbrev colS:Str:="abcdefghijklmnopqrstuvwxyz"
def Fa (z:Str):Prop:=z.length=1/\(!(Builtin.Str.occurrences colS z 0 colS.length 1).isEmpty)=true
def Rise (m:Nat) (ns:List Nat):Prop:=∀ i,i<ns.length->(0::ns).getD i 0+1<=ns.getD i 0/\ns.getD i 0<=m
structure Dr where
  sh:Nat
  tr:Nat
  th:List Nat
  ti:List (List Nat)
  td:List (List Nat)
  wa:List Str
  we:List Str
structure DrOk (d:Dr):Prop where
  s1:1<=d.sh
  s2:d.sh<=16
  t1:1<=d.tr
  t2:d.tr<=16
  h1:1<=d.th.length
  h2:d.th.length<=60
  hs:∀ n∈d.th,n<=d.sh
  il:d.ti.length=d.tr
  ir:∀ l∈d.ti,Rise d.sh l
  p1:1<=d.td.length
  p2:d.td.length<=60
  pr:∀ l∈d.td,Rise d.tr l
  wl:d.wa.length=d.th.length
  wc:∀ z∈d.wa,Fa z
  fl:d.we.length=d.td.length
  fc:∀ z∈d.we,Fa z
structure Parts (H:Hp) (d:Dr) (vs:List V):Prop where
  ex:∃ a1 v2 v3 a4 a5,vs=[nV d.sh,nV d.tr, .ref a1,v2,v3, .ref a4, .ref a5]/\H a1=some (.lst (d.th.map nV))/\Rp H FT 2 v2 (dLL d.ti)/\Rp H FT 2 v3 (dLL d.td)/\H a4=some (.lst (d.wa.map V.str))/\H a5=some (.lst (d.we.map V.str))
theorem Parts.same {H H':Hp} {d:Dr} {vs:List V} (p:Parts H d vs) (s:Same H H'):Parts H' d vs:=by
  obtain ⟨a1,v2,v3,a4,a5,e,h1,h2,h3,h4,h5⟩:=p.ex;exact ⟨a1,v2,v3,a4,a5,e,s _ _ h1,h2.same s,h3.same s,s _ _ h4,s _ _ h5⟩
theorem am {n:Nat} {lo hi:Int} (h1:lo<=n) (h2:(n:Int)<=hi):As (nV n) lo hi=true:=by
  show (decide (lo<=(n:Nat))&&decide (((n:Nat):Int)<=hi))=true;simp [h1,h2]
def DrAt (C:Addr) (H:Hp) (x:Addr) (d:Dr):Prop:=∃ dx v1 v2 v3 v4 v5,H x=some (.ins C dx [("shafts",nV d.sh),("treadles",nV d.tr),("threading",v1),("ties",v2),("treading",v3),("warp",v4),("weft",v5)])/\
  Rp H FT 1 v1 (dT d.th)/\Rp H FT 2 v2 (dTT d.ti)/\Rp H FT 2 v3 (dTT d.td)/\Rp H FT 1 v4 (dST d.wa)/\Rp H FT 1 v5 (dST d.we)
theorem DrAt.same {C:Addr} {H H':Hp} {x:Addr} {d:Dr} (h:DrAt C H x d) (s:Same H H'):DrAt C H' x d:=by
  obtain ⟨dx,v1,v2,v3,v4,v5,h0,h1,h2,h3,h4,h5⟩:=h;exact ⟨dx,v1,v2,v3,v4,v5,s _ _ h0,h1.same s,h2.same s,h3.same s,h4.same s,h5.same s⟩
def dDr (d:Dr):Dt:= .tup [dN d.sh,dN d.tr,dL d.th,dLL d.ti,dLL d.td,dS d.wa,dS d.we]
def Cy (c:Cs):Sp:=λ vs H Q _=>∃ x d,vs=[.ref x]/\DrAt c.Draft H x d/\∀ H' p,Same H H'->H p=none->Rp H' (FN H) 3 (.ref p) (dDr d)->Q (.ref p) H'
abbrev Ex:Stmt:=Aq (top 28) 1
theorem Jn:FnScope ["self"] ["self"] (Ah Ex):=⟨rfl,rfl,rfl,by decide +kernel,rfl,by decide +kernel,by decide +kernel⟩
theorem Js {f:Addr} {fd:FuncData} (F:Fun K "told" "Draft.told" Ex f fd) (T:Txt K mg c):FnOk P w K mg base CX0 1 f fd ["self"] (Cy c):=by
  refine F.ok Jn (λ vs H Q E h=> ?_) (λ cdv A outer s H vs Q E hr h=> ?_)
  · obtain ⟨x,d,rfl,_⟩:=h;rfl
  · obtain ⟨x,d,rfl,⟨dx,v1,v2,v3,v4,v5,h0,h1,h2,h3,h4,h5⟩,k⟩:=h;obtain ⟨a1,rfl,e1,b1⟩:=Dq h1;obtain ⟨m2,a2,vs2,em2,rfl,e2,l2,b2,el2⟩:=GJ h2;cases em2;obtain ⟨m3,a3,vs3,em3,rfl,e3,l3,b3,el3⟩:=GJ h3;cases em3;obtain ⟨a4,rfl,e4,b4⟩:=EC h4;obtain ⟨a5,rfl,e5,b5⟩:=EC h5;rw [Aa2] at l2 l3;refine ⟨_,(Af (An (A2 (Aa (Au (K:=K) (pv 0) rfl) (Aa (Au (K:=K) (pv 0) rfl) (Aa (AC (BZ (K:=K)) rfl (T.own _ (by decide)) AA (Aa (Au (K:=K) (pv 0) rfl) Ab)) (Aa (AM (J4 (K:=K) (Au (K:=K) (pv 0) rfl)) (λ _ _ _ _=>AK) (λ _ _ _ _=>(AC (BZ (K:=K)) rfl (T.own _ (by decide)) AA (Aa (pv 0) Ab)))) (Aa (AM (J4 (K:=K) (Au (K:=K) (pv 0) rfl)) (λ _ _ _ _=>AK) (λ _ _ _ _=>(AC (BZ (K:=K)) rfl (T.own _ (by decide)) AA (Aa (pv 0) Ab)))) (Aa (AC (BZ (K:=K)) rfl (T.own _ (by decide)) AA (Aa (Au (K:=K) (pv 0) rfl) Ab)) (Aa (AC (BZ (K:=K)) rfl (T.own _ (by decide)) AA (Aa (Au (K:=K) (pv 0) rfl) Ab)) Ab)))))))))),?_⟩;walk_at "w";refine ⟨_,_,_,_,_,rfl,h0,T.kd_Draft.cl,T.na_Draft_shafts,rfl,?_⟩;walk_at "w";refine ⟨_,_,_,_,_,rfl,h0,T.kd_Draft.cl,T.na_Draft_treadles,rfl,?_⟩;walk_at "w";refine ⟨_,_,_,_,_,rfl,h0,T.kd_Draft.cl,T.na_Draft_threading,rfl,?_⟩;walk_at "w";refine BI (SqT.of e1) λ p1 hp1=> ?_;walk_at "w";have s1:=Ai (o:=HO.lst (d.th.map nV)) hp1;have r1:Rp (upd H p1 (HO.lst (d.th.map nV))) (FN H) 2 (.ref p1) (dL d.th):=Gu Ae hp1 b1;generalize upd H p1 (HO.lst (d.th.map nV))=H1 at s1 r1 ⊢;refine ⟨_,_,_,_,_,rfl,s1 _ _ h0,T.kd_Draft.cl,T.na_Draft_ties,rfl,?_⟩;walk_at "w";refine ⟨a2,rfl,⟨_,SqT.of (s1 _ _ e2)⟩,λ D2 hD2=> ?_⟩;refine Bc (m:=1) (G:=λ i=>dL (d.ti.getD i [])) (Fp (SqT.of (s1 _ _ e2)) rfl) hD2 b2 ?_ ?_
    · intro i H' R hi s kk;have hi':i<d.ti.length:=by omega
      have r:=el2 i (by simpa using hi');rw [AX dT d.ti i .non [] hi'] at r;obtain ⟨b,eb,hb3,hb4⟩:=Dq r;rw [eb];walk_at "w";exact BI (SqT.of (s _ _ (s1 _ _ hb3))) λ q hq=>kk _ _ (Ai hq) (Gu Ae hq hb4)
    intro H2 ys2 s2 hl2 r2;rw [l2,Pp] at r2;replace r2:Rp H2 (FN H) 2 (.ref D2) (dLL d.ti):=r2.imp λ a ha=>s1.free ha;have s02:=s1.trans s2;walk_at "w";refine ⟨_,_,_,_,_,rfl,s02 _ _ h0,T.kd_Draft.cl,T.na_Draft_treading,rfl,?_⟩;walk_at "w";refine ⟨a3,rfl,⟨_,SqT.of (s02 _ _ e3)⟩,λ D3 hD3=> ?_⟩;refine Bc (m:=1) (G:=λ i=>dL (d.td.getD i [])) (Fp (SqT.of (s02 _ _ e3)) rfl) hD3 b3 ?_ ?_
    · intro i H' R hi s kk;have hi':i<d.td.length:=by omega
      have r:=el3 i (by simpa using hi');rw [AX dT d.td i .non [] hi'] at r;obtain ⟨b,eb,hb3,hb4⟩:=Dq r;rw [eb];walk_at "w";exact BI (SqT.of (s _ _ (s02 _ _ hb3))) λ q hq=>kk _ _ (Ai hq) (Gu Ae hq hb4)
    intro H3 ys3 s3 hl3 r3;rw [l3,Pp] at r3;replace r3:Rp H3 (FN H) 2 (.ref D3) (dLL d.td):=r3.imp λ a ha=>s02.free ha;have s03:=s02.trans s3;walk_at "w";refine ⟨_,_,_,_,_,rfl,s03 _ _ h0,T.kd_Draft.cl,T.na_Draft_warp,rfl,?_⟩;walk_at "w";refine BI (SqT.of (s03 _ _ e4)) λ p4 hp4=> ?_;walk_at "w";have s4:=Ai (o:=HO.lst (d.wa.map V.str)) hp4;have r4:Rp (upd H3 p4 (HO.lst (d.wa.map V.str))) (FN H) 2 (.ref p4) (dS d.wa):=OG Ae (s03.free hp4) b4;generalize upd H3 p4 (HO.lst (d.wa.map V.str))=H4 at s4 r4 ⊢;have s04:=s03.trans s4;refine ⟨_,_,_,_,_,rfl,s04 _ _ h0,T.kd_Draft.cl,T.na_Draft_weft,rfl,?_⟩;walk_at "w";refine BI (SqT.of (s04 _ _ e5)) λ p5 hp5=> ?_;walk_at "w";have s5:=Ai (o:=HO.lst (d.we.map V.str)) hp5;have r5:Rp (upd H4 p5 (HO.lst (d.we.map V.str))) (FN H) 2 (.ref p5) (dS d.we):=OG Ae (s04.free hp5) b5;generalize upd H4 p5 (HO.lst (d.we.map V.str))=H5 at s5 r5 ⊢;have s05:=s04.trans s5;intro p hp;have s6:=Ai (o:=HO.tup [nV d.sh,nV d.tr, .ref p1, .ref D2, .ref D3, .ref p4, .ref p5]) hp;refine k _ p (s05.trans s6) (s05.free hp) (KB Ae (.int _) (.int _) ?_ ?_ ?_ ?_ ?_)
    · exact (r1.same (s2.trans (s3.trans (s4.trans s5)))).same s6
    · exact (r2.same (s3.trans (s4.trans s5))).same s6
    · exact (r3.same (s4.trans s5)).same s6
    · exact (r4.same s5).same s6
    · exact r5.same s6
def BR (c:Cs):Sp:=λ vs H Q _=>∃ x d,vs=[.ref x]/\DrAt c.Draft H x d/\Q (nV d.th.length) H
abbrev EB:Stmt:=Aq (top 28) 2
theorem JI:FnScope ["self"] ["self"] (Ah EB):=⟨rfl,rfl,rfl,by decide +kernel,rfl,by decide +kernel,by decide +kernel⟩
theorem JV {f:Addr} {fd:FuncData} (F:Fun K "ends" "Draft.ends" EB f fd) (T:Txt K mg c):FnOk P w K mg base CX0 1 f fd ["self"] (BR c):=by
  refine F.ok JI (λ vs H Q E h=> ?_) (λ cdv A outer s H vs Q E hr h=> ?_)
  · obtain ⟨x,d,rfl,_⟩:=h;rfl
  · obtain ⟨x,d,rfl,⟨dx,v1,v2,v3,v4,v5,h0,h1,h2,h3,h4,h5⟩,k⟩:=h;obtain ⟨a1,rfl,e1,b1⟩:=Dq h1;refine ⟨_,(Af (An (Am (CV (K:=K)) rfl (T.own _ (by decide)) boot_len (Aa (Au (K:=K) (pv 0) rfl) Ab)))),?_⟩;walk_at "w";refine ⟨_,_,_,_,_,rfl,h0,T.kd_Draft.cl,T.na_Draft_threading,rfl,?_⟩;walk_at "w";refine HS (SqT.of e1) ?_;rw [Aa2];exact k
inductive Th (H:Hp):V->Prop where
  | non:Th H .non
  | bl (b:Bool):Th H (.bl b)
  | int (i:Int):Th H (.int i)
  | str (z:Str) (l:z.length<=100):Th H (.str z)
  | lst {a:Addr} {xs:List V} (e:H a=some (.lst xs)):Th H (.ref a)
  | tup {a:Addr} {xs:List V} (e:H a=some (.tup xs)):Th H (.ref a)
  | dK {a:Addr} {xs:List (Key × V)} (e:H a=some (.dK xs)):Th H (.ref a)
theorem Th.same {H H':Hp} {v:V} (h:Th H v) (s:Same H H'):Th H' v:=by
  cases h with
  | non=>exact .non
  | bl b=>exact .bl b
  | int i=>exact .int i
  | str z l=>exact .str z l
  | lst e=>exact .lst (s _ _ e)
  | tup e=>exact .tup (s _ _ e)
  | dK e=>exact .dK (s _ _ e)
def BV (H:Hp) (v:V):Option (List V):=match v with
  | .ref a=>(match H a with
    | some (.lst xs)=>some xs
    | _=>none)
  | _=>none
theorem AG {H:Hp} {a:Addr} {xs:List V} (e:H a=some (.lst xs)):BV H (.ref a)=some xs:=by
  unfold BV;simp only [e]
theorem Fq {H:Hp} {v:V} {xs:List V} (e:BV H v=some xs):∃ a,v= .ref a/\H a=some (.lst xs):=by
  unfold BV at e;split at e
  · rename_i a
    split at e
    · rename_i q
      cases e;exact ⟨a,rfl,q⟩
    · cases e
  · cases e
theorem Cv {H H':Hp} {v:V} (h:Th H v) (s:Same H H'):BV H' v=BV H v:=by
  cases h with
  | non=>rfl
  | bl b=>rfl
  | int i=>rfl
  | str z l=>rfl
  | lst e=>rw [AG e,AG (s _ _ e)]
  | tup e=>unfold BV;simp only [e,s _ _ e]
  | dK e=>unfold BV;simp only [e,s _ _ e]
theorem Th.ty {K:PySem.W.Frag} {H:Hp} {v:V} (h:Th H v):Ty K H v:=by
  cases h with
  | non=>exact ⟨_, .non⟩
  | bl b=>exact ⟨_, .bl b⟩
  | int i=>exact ⟨_, .int i⟩
  | str z l=>exact ⟨_, .str z⟩
  | lst e=>exact ⟨_, .lst e⟩
  | tup e=>exact ⟨_, .tup e⟩
  | dK e=>exact ⟨_, .dK e⟩
theorem Th.list {K:PySem.W.Frag} {H:Hp} {v:V} (h:Th H v):∃ n,TyOf K H v (.type n)/\PySem.W.kitOne K (.type n) (.type "list")=some (BV H v).isSome:=by
  cases h with
  | non=>exact ⟨_, .non,kb (b:=false) (by decide +kernel)⟩
  | bl b=>exact ⟨_, .bl b,kb (b:=false) (by decide +kernel)⟩
  | int i=>exact ⟨_, .int i,kb (b:=false) (by decide +kernel)⟩
  | str z l=>exact ⟨_, .str z,kb (b:=false) (by decide +kernel)⟩
  | lst e=>exact ⟨_, .lst e,by rw [AG e];exact kb (b:=true) (by decide +kernel)⟩
  | tup e=>exact ⟨_, .tup e,by unfold BV;simp only [e];exact kb (b:=false) (by decide +kernel)⟩
  | dK e=>exact ⟨_, .dK e,by unfold BV;simp only [e];exact kb (b:=false) (by decide +kernel)⟩
def ThL (H:Hp):Nat->V->Prop
  | 0,v=>Th H v
  | n+1,v=>Th H v/\∀ xs,BV H v=some xs->xs.length<=100000/\∀ x∈xs,ThL H n x
theorem ThL.th {H:Hp}:∀ {n:Nat} {v:V},ThL H n v->Th H v
  | 0,_,h=>h
  | _+1,_,h=>h.1
theorem ThL.same {H H':Hp} (s:Same H H'):∀ {n:Nat} {v:V},ThL H n v->ThL H' n v
  | 0,_,h=>Th.same h s
  | _+1,_,h=>⟨h.1.same s,λ xs e=>by
    rw [Cv h.1 s] at e;exact ⟨(h.2 xs e).1,λ x hx=>ThL.same s ((h.2 xs e).2 x hx)⟩⟩
def EU (v:V):Bool:=match v with
  | .str z=>decide (z.length=1)&& !(Builtin.Str.occurrences colS z 0 colS.length 1).isEmpty
  | _=>false
def FS:Sp:=λ vs H Q _=>∃ v,vs=[v]/\Th H v/\Q (.bl (EU v)) H
abbrev Fo:Stmt:=top 19
theorem K6:FnScope ["thing"] ["thing"] (Ah Fo):=⟨rfl,rfl,rfl,by decide +kernel,rfl,by decide +kernel,by decide +kernel⟩
theorem KL {f:Addr} {fd:FuncData} (F:Fun K "is_colour" "is_colour" Fo f fd) (T:Txt K mg c):FnOk P w K mg base CX0 1 f fd ["thing"] FS:=by
  refine F.ok K6 (λ vs H Q E h=> ?_) (λ cdv A outer s H vs Q E hr h=> ?_)
  · obtain ⟨z,rfl,_⟩:=h;rfl
  · obtain ⟨v,rfl,hv,k⟩:=h;obtain ⟨n,ty⟩:=hv.ty (K:=K);refine ⟨_,(Af (An (Dm (Am (BY (K:=K)) rfl (T.own _ (by decide)) boot_isinstance (Aa (pv 0) (Aa (Ce rfl (T.own _ (by decide)) boot_str) Ab))) (Dm (BO Bv (Am (CV (K:=K)) rfl (T.own _ (by decide)) boot_len (Aa (pv 0) Ab)) Ac (AB _)) (DI (BO NP (pv 0) (Np T.k_COLOURS) (by with_unfolding_all rfl))))))),?_⟩;walk_at "w";refine AS ty (Rc ty) ?_;walk_at "w";cases hv with
    | str z l=>
      refine CI ?_;walk_at "w";refine Q1 (Ab8 l (by decide)) ?_;walk_at "w";refine CJ (λ q=> ?_) (λ q=> ?_)
      · walk_at "w";refine ⟨_,_,rfl,rfl,?_⟩;refine Dk ?_ k;show _=(decide (z.length=1)&&_);rw [decide_eq_true (by omega),Ac8]
      · refine Dk ?_ k;show _=(decide (z.length=1)&&_);rw [decide_eq_false (by omega),Ac5]
    | _=>exact Cm k
def Lr (c:Cs):Sp:=λ vs H Q E=>∃ b z,vs=[.bl b, .str z]/\(b=true->Q .non H)/\(b=false->E (.ref c.BadDraft) none H)
abbrev MC:Stmt:=top 22
theorem QB:FnScope ["holds","words"] ["holds","words"] (Ah MC):=⟨rfl,rfl,rfl,by decide +kernel,rfl,by decide +kernel,by decide +kernel⟩
theorem QR {f:Addr} {fd:FuncData} (F:Fun K "need" "need" MC f fd) (T:Txt K mg c):FnOk P w K mg base (CXE P w) 1 f fd ["holds","words"] (Lr c):=by
  refine Fun.okE F QB (λ vs H Q E h=> ?_) (λ cdv A outer s H vs Q E hr h=> ?_)
  · obtain ⟨b,z,rfl,_⟩:=h;rfl
  · obtain ⟨b,z,rfl,k1,k2⟩:=h;refine ⟨_,(Af (Bb (DJ (A6 (pv 0))) (Af (Cp T.g_BadDraft T.xi_BadDraft (Aa (pv 1) Ab))) A9)),?_⟩;walk_at "w";cases b with
    | true=>
      refine Cm ?_;walk_at "w";exact k1 rfl
    | false=>
      refine CI ?_;exact ⟨_,rfl,(by decide:1<=1000),k2 rfl⟩
def Co (H:Hp) (v:V) (lo hi:Int):Bool:=match BV H v with
  | some xs=>decide (lo<=xs.length)&&decide ((xs.length:Int)<=hi)
  | none=>false
def EZ:Sp:=λ vs H Q _=>∃ v,∃ lo hi:Int,vs=[v, .int lo, .int hi]/\Th H v/\Q (.bl (Co H v lo hi)) H
abbrev GW:Stmt:=top 23
theorem Mt:FnScope ["thing","least","most"] ["thing","least","most"] (Ah GW):=⟨rfl,rfl,rfl,by decide +kernel,rfl,by decide +kernel,by decide +kernel⟩
theorem Mm {f:Addr} {fd:FuncData} (F:Fun K "is_list" "is_list" GW f fd) (T:Txt K mg c) (c_is_among:Az P w K mg base "is_among" 2 ["thing","least","most"] (B0 K)):FnOk P w K mg base CX0 3 f fd ["thing","least","most"] EZ:=by
  refine F.ok Mt (λ vs H Q E h=> ?_) (λ cdv A outer s H vs Q E hr h=> ?_)
  · obtain ⟨v,lo,hi,rfl,_⟩:=h;rfl
  · obtain ⟨v,lo,hi,rfl,hv,k⟩:=h;obtain ⟨n,ty,ki⟩:=hv.list (K:=K);refine ⟨_,(Af (An (Dm (Am (BY (K:=K)) rfl (T.own _ (by decide)) boot_isinstance (Aa (pv 0) (Aa (Ce rfl (T.own _ (by decide)) AA) Ab))) (DI (Ag c_is_among hr (Aa (Am (CV (K:=K)) rfl (T.own _ (by decide)) boot_len (Aa (pv 0) Ab)) (Aa (pv 1) (Aa (pv 2) Ab)))))))),?_⟩;walk_at "w";refine AS ty ki ?_;walk_at "w";cases e:BV H v with
    | none=>
      refine Cm ?_;exact Dk (by unfold Co;rw [e]) k
    | some xs=>
      obtain ⟨a,rfl,ha⟩:=Fq e;refine CI ?_;walk_at "w";refine BU (SqL.of ha) ?_;walk_at "w";refine ⟨_,_,_,rfl,⟨_, .int _⟩,?_⟩;exact Dk (by unfold Co;rw [e];rfl) k
def inV:V->Int
  | .int i=>i
  | _=>0
def N8 (xs:List V) (m:Int):Bool:=(Aa9 xs.length).all λ j=>As (xs.getD j .non) (inV ((.int 0::xs).getD j .non)+1) m
def Bi (H:Hp) (v:V) (m:Int):Bool:=match BV H v with
  | some xs=>N8 xs m
  | none=>false
theorem BD {H H':Hp} {v:V} {m:Int} (h:Th H v) (s:Same H H'):Bi H' v m=Bi H v m:=by
  unfold Bi;rw [Cv h s]
def FQ:Sp:=λ vs H Q _=>∃ v,∃ m:Int,vs=[v, .int m]/\ThL H 1 v/\∀ H',Same H H'->Q (.bl (Bi H v m)) H'
abbrev EY:Stmt:=top 24
theorem sc_is_rising:FnScope ["thing","most","last","number"] ["thing","most"] (Ah EY):=⟨rfl,rfl,rfl,by decide +kernel,rfl,by decide +kernel,by decide +kernel⟩
theorem KM {f:Addr} {fd:FuncData} (F:Fun K "is_rising" "is_rising" EY f fd) (T:Txt K mg c) (c_is_among:Az P w K mg base "is_among" 2 ["thing","least","most"] (B0 K)):FnOk P w K mg base CX0 3 f fd ["thing","most"] FQ:=by
  refine F.ok sc_is_rising (λ vs H Q E h=> ?_) (λ cdv A outer s H vs Q E hr h=> ?_)
  · obtain ⟨v,m,rfl,_⟩:=h;rfl
  · obtain ⟨v,m,rfl,hv,k⟩:=h;obtain ⟨n,ty,ki⟩:=hv.th.list (K:=K);refine ⟨_,(Ad (Bb (DJ (A6 (Am (BY (K:=K)) rfl (T.own _ (by decide)) boot_isinstance (Aa (pv 0) (Aa (Ce rfl (T.own _ (by decide)) AA) Ab))))) (Af (An EN)) A9)
      (Ad (Ap (i:=2) sc_is_rising.nd rfl (Or.inl rfl) Ac)
      (Ad (Hc PassesOwn.never rfl (CG (K:=K) (pv 0)) (Bf (i:=3) sc_is_rising.nd rfl (Or.inl rfl)) (Ad (Bb (DJ (A6 (Ag c_is_among hr (Aa (pv 3) (Aa (Aj AU (pv 2) Ac) (Aa (pv 1) Ab)))))) (Af (An EN)) A9)
      (Af (Ap (i:=2) sc_is_rising.nd rfl (Or.inl rfl) (pv 3)))))
      (Af (An EN))))),?_⟩
    walk_at "w";refine AS ty ki ?_;walk_at "w";cases e:BV H v with
    | none=>
      refine CI ?_;walk_at "w";exact Dk (by unfold Bi;rw [e]) (k H (Same.refl _))
    | some xs=>
      obtain ⟨a,rfl,ha⟩:=Fq e;obtain ⟨lx,tx⟩:=hv.2 xs e;have e0:Bi H (.ref a) m=N8 xs m:=by unfold Bi;rw [e]
      rw [e0] at k;refine Cm ?_;walk_at "w";refine ⟨a,rfl,⟨_,SqL.of ha⟩,HV (M3 (SqL.of ha)) (λ i σ H3=>∃ x,σ=[some (.ref a),some (.int m),some (.int (inV ((V.int 0::xs).getD i .non))),x]/\Same H H3/\∀ j,j<i->As (xs.getD j .non) (inV ((V.int 0::xs).getD j .non)+1) m=true) ⟨_,rfl,Same.refl _,λ j hj=>absurd hj (Nat.not_lt_zero _)⟩ (λ i σ H3 ⟨_,_,s,_⟩=>s) ?_ ?_⟩
      · rintro i σ H' H3 hi ⟨x,rfl,s',q⟩ s3;have hm:xs.getD i .non∈xs:=L2.getD_mem hi;walk_at "w";refine ⟨_,_,_,rfl,((tx _ hm).same (s'.trans s3)).ty,?_⟩;walk_at "w";cases ea:As (xs.getD i .non) (inV ((V.int 0::xs).getD i .non)+1) m with
        | false=>
          refine CI ?_;walk_at "w";refine Dk ?_ (k H3 (s'.trans s3));unfold N8;exact (List.all_eq_false.mpr ⟨i,Af1.mpr hi,by rw [ea];decide⟩).symm
        | true=>
          refine Cm ?_;walk_at "w";refine ⟨some (xs.getD i .non),?_,s'.trans s3,λ j hj=> ?_⟩
          · have ei:∃ z,xs.getD i .non= .int z:=by
              generalize xs.getD i .non=y at ea;cases y with
              | int z=>exact ⟨z,rfl⟩
              | _=>cases ea
            obtain ⟨z,ez⟩:=ei;have e2:(V.int 0::xs).getD (i+1) .non= .int z:=ez;rw [e2,ez];rfl
          · rcases Nat.lt_or_ge j i with z | z
            · exact q j z
            · rw [show j=i by omega];exact ea
      · rintro σ H3 ⟨x,rfl,s3,q⟩;walk_at "w";refine Dk ?_ (k H3 s3);unfold N8;exact (Ac0.mpr λ j hj=>q j (Af1.mp hj)).symm
def Fb:Sp:=λ vs H Q _=>∃ a xs,∃ m:Int,vs=[.ref a, .int m]/\H a=some (.lst xs)/\xs.length<=100000/\(∀ x∈xs,ThL H 1 x)/\∀ H',Same H H'->Q (.bl (xs.all λ x=>Bi H x m)) H'
abbrev Er:Stmt:=top 25
theorem JH:FnScope ["thing","most"] ["thing","most"] (Ah Er):=⟨rfl,rfl,rfl,by decide +kernel,rfl,by decide +kernel,by decide +kernel⟩
theorem Jr {f:Addr} {fd:FuncData} (F:Fun K "are_rising" "are_rising" Er f fd) (T:Txt K mg c) (c_is_rising:Az P w K mg base "is_rising" 3 ["thing","most"] FQ):FnOk P w K mg base CX0 4 f fd ["thing","most"] Fb:=by
  refine F.ok JH (λ vs H Q E h=> ?_) (λ cdv A outer s H vs Q E hr h=> ?_)
  · obtain ⟨a,xs,m,rfl,_⟩:=h;rfl
  · obtain ⟨a,xs,m,rfl,ha,lx,tx,k⟩:=h;refine ⟨_,(Af (An (Am (Ll (K:=K)) rfl (T.own _ (by decide)) DS (Aa (AM (CG (K:=K) (pv 0)) (λ _ _ _ _=>AK) (λ _ _ _ _=>(Ag c_is_rising hr (Aa (pv 0) (Aa (pv 1) Ab))))) Ab)))),?_⟩;walk_at "w";refine ⟨a,rfl,⟨_,SqL.of ha⟩,λ D hD=> ?_⟩;refine F8 (G:=λ i=>Bi H (xs.getD i .non) m) (Bl (SqL.of ha) rfl) hD (by omega) ?_ ?_
    · intro i H' R hi s kk;have hm:xs.getD i .non∈xs:=L2.getD_mem hi;walk_at "w";exact ⟨_,m,rfl,(tx _ hm).same s,λ H2 s2=>by rw [BD (tx _ hm).th s];exact kk H2 s2⟩
    · intro H' s hl2;walk_at "w";refine Jd (SqL.of hl2) ?_;refine Dk ?_ (k H' s);rw [AV (λ x:V=>Bi H x m) xs .non,List.all_map];rfl
def BE (H:Hp) (v:V) (n:Int):Bool:=Co H v n n&&((BV H v).getD []).all EU
def EO:Sp:=λ vs H Q _=>∃ v,∃ n:Int,vs=[v, .int n]/\ThL H 1 v/\∀ H',Same H H'->Q (.bl (BE H v n)) H'
abbrev Dz:Stmt:=top 26
theorem IP:FnScope ["thing","many"] ["thing","many"] (Ah Dz):=⟨rfl,rfl,rfl,by decide +kernel,rfl,by decide +kernel,by decide +kernel⟩
theorem ID {f:Addr} {fd:FuncData} (F:Fun K "are_colours" "are_colours" Dz f fd) (T:Txt K mg c) (c_is_list:Az P w K mg base "is_list" 3 ["thing","least","most"] EZ) (c_is_colour:Az P w K mg base "is_colour" 1 ["thing"] FS):FnOk P w K mg base CX0 4 f fd ["thing","many"] EO:=by
  refine F.ok IP (λ vs H Q E h=> ?_) (λ cdv A outer s H vs Q E hr h=> ?_)
  · obtain ⟨v,n,rfl,_⟩:=h;rfl
  · obtain ⟨v,n,rfl,hv,k⟩:=h;refine ⟨_,(Af (An (Dm (Ag c_is_list hr (Aa (pv 0) (Aa (pv 1) (Aa (pv 1) Ab)))) (DI (Am (Ll (K:=K)) rfl (T.own _ (by decide)) DS (Aa (AM (CG (K:=K) (pv 0)) (λ _ _ _ _=>AK) (λ _ _ _ _=>(Ag c_is_colour (hr.mono (by decide)) (Aa (pv 0) Ab)))) Ab)))))),?_⟩;walk_at "w";refine ⟨v,n,n,rfl,hv.th,?_⟩;walk_at "w";cases e:Co H v n n with
    | false=>
      refine Cm ?_;exact Dk (by unfold BE;rw [e,Ac5]) (k H (Same.refl _))
    | true=>
      refine CI ?_;have e1:∃ xs,BV H v=some xs:=by
        unfold Co at e;cases q:BV H v with
        | none=>rw [q] at e;cases e
        | some xs=>exact ⟨xs,rfl⟩
      obtain ⟨xs,e1⟩:=e1;obtain ⟨a,rfl,ha⟩:=Fq e1;obtain ⟨lx,tx⟩:=hv.2 xs e1;walk_at "w";refine ⟨a,rfl,⟨_,SqL.of ha⟩,λ D hD=> ?_⟩;refine F8 (G:=λ i=>EU (xs.getD i .non)) (Bl (SqL.of ha) rfl) hD (by omega) ?_ ?_
      · intro i H' R hi s kk;have hm:xs.getD i .non∈xs:=L2.getD_mem hi;walk_at "w";exact ⟨_,rfl,(tx _ hm).th.same s,kk H' (Same.refl _)⟩
      · intro H' s hl2;walk_at "w";refine Jd (SqL.of hl2) ?_;refine Dk ?_ (k H' s);rw [AV EU xs .non,List.all_map];unfold BE;rw [e,e1,Ac8];rfl
theorem C5 {H H':Hp} {v:V} {lo hi:Int} (h:Th H v) (s:Same H H'):Co H' v lo hi=Co H v lo hi:=by
  unfold Co;rw [Cv h s]
theorem BK {H H':Hp} {v:V} {n:Int} (h:Th H v) (s:Same H H'):BE H' v n=BE H v n:=by
  unfold BE;rw [C5 h s,Cv h s]
def lsD (H:Hp) (v:V):List V:=(BV H v).getD []
def drB (H:Hp) (v0 v1 v2 v3 v4 v5 v6:V):Bool:=As v0 1 16&&(As v1 1 16&&(Co H v2 1 60&&((lsD H v2).all (λ x=>As x 0 (inV v0))&&(Co H v3 (inV v1) (inV v1)&&((lsD H v3).all (λ x=>Bi H x (inV v0))&&(Co H v4 1 60&&((lsD H v4).all (λ x=>Bi H x (inV v1))&&(BE H v5 ((lsD H v2).length:Nat)&&BE H v6 ((lsD H v4).length:Nat)))))))))
structure PTh (H:Hp) (v0 v1 v2 v3 v4 v5 v6:V):Prop where
  t0:Th H v0
  t1:Th H v1
  t2:ThL H 1 v2
  t3:ThL H 2 v3
  t4:ThL H 2 v4
  t5:ThL H 1 v5
  t6:ThL H 1 v6
theorem PTh.same {H H':Hp} {v0 v1 v2 v3 v4 v5 v6:V} (h:PTh H v0 v1 v2 v3 v4 v5 v6) (s:Same H H'):PTh H' v0 v1 v2 v3 v4 v5 v6:=⟨h.t0.same s,h.t1.same s,h.t2.same s,h.t3.same s,h.t4.same s,h.t5.same s,h.t6.same s⟩
theorem G2 {v:V} {a b:Int} (h:As v a b=true):∃ i,v= .int i:=by
  cases v with
  | int i=>exact ⟨i,rfl⟩
  | _=>cases h
theorem IK {H:Hp} {v:V} {lo hi:Int} (h:Co H v lo hi=true):∃ a xs,v= .ref a/\H a=some (.lst xs)/\BV H v=some xs:=by
  unfold Co at h;cases q:BV H v with
  | none=>rw [q] at h;cases h
  | some xs=>
    obtain ⟨a,rfl,ha⟩:=Fq q;exact ⟨a,xs,rfl,ha,rfl⟩
def Fl (c:Cs):Sp:=λ vs H Q E=>∃ v0 v1 v2 v3 v4 v5 v6,vs=[v0,v1,v2,v3,v4,v5,v6]/\PTh H v0 v1 v2 v3 v4 v5 v6/\∀ H',Same H H'->(drB H v0 v1 v2 v3 v4 v5 v6=true->Q .non H')/\(drB H v0 v1 v2 v3 v4 v5 v6=false->E (.ref c.BadDraft) none H')
abbrev EG:Stmt:=top 27
theorem JF:FnScope ["shafts","treadles","threading","ties","treading","warp","weft"] ["shafts","treadles","threading","ties","treading","warp","weft"] (Ah EG):=⟨rfl,rfl,rfl,by decide +kernel,rfl,by decide +kernel,by decide +kernel⟩
theorem Jp {f:Addr} {fd:FuncData} (F:Fun K "need_draft" "need_draft" EG f fd) (T:Txt K mg c) (c_need:BF P w K mg base "need" 1 ["holds","words"] (Lr c)) (c_is_among:Az P w K mg base "is_among" 2 ["thing","least","most"] (B0 K)) (c_is_list:Az P w K mg base "is_list" 3 ["thing","least","most"] EZ) (c_are_rising:Az P w K mg base "are_rising" 4 ["thing","most"] Fb) (c_are_colours:Az P w K mg base "are_colours" 4 ["thing","many"] EO):FnOk P w K mg base (CXE P w) 5 f fd ["shafts","treadles","threading","ties","treading","warp","weft"] (Fl c):=by
  refine Fun.okE F JF (λ vs H Q E h=> ?_) (λ cdv A outer s H vs Q E hr h=> ?_)
  · obtain ⟨v0,v1,v2,v3,v4,v5,v6,rfl,_⟩:=h;rfl
  · obtain ⟨v0,v1,v2,v3,v4,v5,v6,rfl,⟨t0,t1,t2,t3,t4,t5,t6⟩,k⟩:=h;refine ⟨_,(Ad (Av (Aw c_need (hr.mono (by decide)) AF (Aa (Ag c_is_among (hr.mono (by decide)) (Aa (pv 0) (Aa Ac (Aa (Ka T.k_MOST_SHAFTS) Ab)))) (Aa Al Ab))))
      (Ad (Av (Aw c_need (hr.mono (by decide)) AF (Aa (Ag c_is_among (hr.mono (by decide)) (Aa (pv 1) (Aa Ac (Aa (Ka T.k_MOST_TREADLES) Ab)))) (Aa Al Ab))))
      (Ad (Av (Aw c_need (hr.mono (by decide)) AF (Aa (Ag c_is_list (hr.mono (by decide)) (Aa (pv 2) (Aa Ac (Aa (Ka T.k_MOST_ENDS) Ab)))) (Aa Al Ab))))
      (Ad (Av (Aw c_need (hr.mono (by decide)) AF (Aa (Am (Ll (K:=K)) rfl (T.own _ (by decide)) DS (Aa (AM (CG (K:=K) (pv 2)) (λ _ _ _ _=>AK) (λ _ _ _ _=>(Ag c_is_among (hr.mono (by decide)) (Aa (pv 0) (Aa Ac (Aa (pv 1) Ab)))))) Ab)) (Aa Al Ab))))
      (Ad (Av (Aw c_need (hr.mono (by decide)) AF (Aa (Ag c_is_list (hr.mono (by decide)) (Aa (pv 3) (Aa (pv 1) (Aa (pv 1) Ab)))) (Aa Al Ab))))
      (Ad (Av (Aw c_need (hr.mono (by decide)) AF (Aa (Ag c_are_rising hr (Aa (pv 3) (Aa (pv 0) Ab))) (Aa Al Ab))))
      (Ad (Av (Aw c_need (hr.mono (by decide)) AF (Aa (Ag c_is_list (hr.mono (by decide)) (Aa (pv 4) (Aa Ac (Aa (Ka T.k_MOST_PICKS) Ab)))) (Aa Al Ab))))
      (Ad (Av (Aw c_need (hr.mono (by decide)) AF (Aa (Ag c_are_rising hr (Aa (pv 4) (Aa (pv 1) Ab))) (Aa Al Ab))))
      (Ad (Av (Aw c_need (hr.mono (by decide)) AF (Aa (Ag c_are_colours hr (Aa (pv 5) (Aa (Am (CV (K:=K)) rfl (T.own _ (by decide)) boot_len (Aa (pv 2) Ab)) Ab))) (Aa Al Ab))))
      (Af (Av (Aw c_need (hr.mono (by decide)) AF (Aa (Ag c_are_colours hr (Aa (pv 6) (Aa (Am (CV (K:=K)) rfl (T.own _ (by decide)) boot_len (Aa (pv 4) Ab)) Ab))) (Aa Al Ab)))))))))))))),?_⟩
    walk_at "w";refine ⟨_,_,_,rfl,t0.ty,?_⟩;walk_at "w";refine ⟨_,_,rfl,λ b0=> ?_,λ b0=>(k H (Same.refl _)).2 (by unfold drB;rw [b0,Ac5])⟩;obtain ⟨sh,rfl⟩:=G2 b0;walk_at "w";refine ⟨_,_,_,rfl,t1.ty,?_⟩;walk_at "w";refine ⟨_,_,rfl,λ b1=> ?_,λ b1=>(k H (Same.refl _)).2 (by unfold drB;rw [b0,b1,Ac8,Ac5])⟩;obtain ⟨tr,rfl⟩:=G2 b1;walk_at "w";refine ⟨_,_,_,rfl,t2.th,?_⟩;walk_at "w";refine ⟨_,_,rfl,λ b2=> ?_,λ b2=>(k H (Same.refl _)).2 (by unfold drB;rw [b0,b1,b2,Ac8,Ac8,Ac5])⟩;obtain ⟨a2,x2,rfl,h2,e2⟩:=IK b2;obtain ⟨l2,i2⟩:=t2.2 x2 e2;have d2:lsD H (.ref a2)=x2:=by unfold lsD;rw [e2];rfl
    have z3:drB H (.int sh) (.int tr) (.ref a2) v3 v4 v5 v6=(x2.all (λ x=>As x 0 sh)&&(Co H v3 tr tr&&((lsD H v3).all (λ x=>Bi H x sh)&&(Co H v4 1 60&&((lsD H v4).all (λ x=>Bi H x tr)&&(BE H v5 (x2.length:Nat)&&BE H v6 ((lsD H v4).length:Nat))))))):=by
      unfold drB;rw [b0,b1,b2,d2,Ac8,Ac8,Ac8];rfl
    rw [z3] at k;walk_at "w";refine ⟨a2,rfl,⟨_,SqL.of h2⟩,λ D hD=> ?_⟩;refine F8 (G:=λ i=>As (x2.getD i .non) 0 sh) (Bl (SqL.of h2) rfl) hD (by omega) ?_ ?_
    · intro i H' R hi s kk;have hm:x2.getD i .non∈x2:=L2.getD_mem hi;walk_at "w";exact ⟨_,_,_,rfl,((i2 _ hm).same s).ty,kk H' (Same.refl _)⟩
    intro H1 s1 hl1;walk_at "w";refine Jd (SqL.of hl1) ?_;rw [AV (λ x:V=>As x 0 sh) x2 .non,List.all_map];walk_at "w";refine ⟨_,_,rfl,λ b3=> ?_,λ b3=>(k H1 s1).2 (by rw [show (x2.all λ x=>As x 0 sh)=false from b3,Ac5])⟩;rw [show (x2.all λ x=>As x 0 sh)=true from b3,Ac8] at k;walk_at "w";refine ⟨_,_,_,rfl,t3.th.same s1,?_⟩;rw [C5 t3.th s1];walk_at "w";refine ⟨_,_,rfl,λ b4=> ?_,λ b4=>(k H1 s1).2 (by rw [b4,Ac5])⟩;obtain ⟨a3,x3,rfl,h3,e3⟩:=IK b4;obtain ⟨l3,i3⟩:=t3.2 x3 e3;have d3:lsD H (.ref a3)=x3:=by unfold lsD;rw [e3];rfl
    rw [b4,Ac8,d3] at k;walk_at "w";refine ⟨a3,x3,sh,rfl,s1 _ _ h3,l3,λ x hx=>(i3 x hx).same s1,λ H2 s2=> ?_⟩;have s02:=s1.trans s2;have e5:(x3.all λ x=>Bi H1 x sh)=x3.all λ x=>Bi H x sh:=by
      rw [Ac6,Ac0,Ac0];exact forall_congr' λ x=>forall_congr' λ hx=>by rw [BD (i3 x hx).th s1]
    rw [e5];walk_at "w";refine ⟨_,_,rfl,λ b5=> ?_,λ b5=>(k H2 s02).2 (by rw [b5,Ac5])⟩;rw [b5,Ac8] at k;walk_at "w";refine ⟨_,_,_,rfl,t4.th.same s02,?_⟩;rw [C5 t4.th s02];walk_at "w";refine ⟨_,_,rfl,λ b6=> ?_,λ b6=>(k H2 s02).2 (by rw [b6,Ac5])⟩;obtain ⟨a4,x4,rfl,h4,e4⟩:=IK b6;obtain ⟨l4,i4⟩:=t4.2 x4 e4;have d4:lsD H (.ref a4)=x4:=by unfold lsD;rw [e4];rfl
    rw [b6,Ac8,d4] at k;walk_at "w";refine ⟨a4,x4,tr,rfl,s02 _ _ h4,l4,λ x hx=>(i4 x hx).same s02,λ H3 s3=> ?_⟩;have s03:=s02.trans s3;have e7:(x4.all λ x=>Bi H2 x tr)=x4.all λ x=>Bi H x tr:=by
      rw [Ac6,Ac0,Ac0];exact forall_congr' λ x=>forall_congr' λ hx=>by rw [BD (i4 x hx).th s02]
    rw [e7];walk_at "w";refine ⟨_,_,rfl,λ b7=> ?_,λ b7=>(k H3 s03).2 (by rw [b7,Ac5])⟩;rw [b7,Ac8] at k;walk_at "w";refine BU (SqL.of (s03 _ _ h2)) ?_;walk_at "w";refine ⟨_,_,rfl,t5.same s03,λ H4 s4=> ?_⟩;have s04:=s03.trans s4;rw [BK t5.th s03];walk_at "w";refine ⟨_,_,rfl,λ b8=> ?_,λ b8=>(k H4 s04).2 (by rw [b8,Ac5])⟩;rw [b8,Ac8] at k;walk_at "w";refine BU (SqL.of (s04 _ _ h4)) ?_;walk_at "w";refine ⟨_,_,rfl,t6.same s04,λ H5 s5=> ?_⟩;have s05:=s04.trans s5;rw [BK t6.th s04];walk_at "w";refine ⟨_,_,rfl,λ b9=> ?_,λ b9=>(k H5 s05).2 b9⟩;walk_at "w";exact (k H5 s05).1 b9
def Ba (c:Cs):Sp:=λ vs H Q E=>∃ (x dx:Addr) (v0 v1 v2 v3 v4 v5 v6:V),vs=[.ref x,v0,v1,v2,v3,v4,v5,v6]/\H x=some (.ins c.Draft dx [])/\
  ((PTh H v0 v1 v2 v3 v4 v5 v6/\drB H v0 v1 v2 v3 v4 v5 v6=false/\∀ H',Same H H'->E (.ref c.BadDraft) none H')\/
  (∃ d,Parts H d [v0,v1,v2,v3,v4,v5,v6]/\DrOk d/\∀ H',But x H H'->DrAt c.Draft H' x d->Q .non H'))
theorem Qx {m:Nat} {ns:List Nat} (h:Rise m ns):N8 (ns.map nV) m=true:=by
  unfold N8;rw [Ac0];intro j hj;have hj:j<ns.length:=by simpa using hj
  have hh:=h j hj;have e1:(ns.map nV).getD j .non=nV (ns.getD j 0):=AX nV ns j .non 0 hj;have e2:inV ((V.int 0::ns.map nV).getD j .non)=((0::ns).getD j 0:Nat):=by
    cases j with
    | zero=>rfl
    | succ j=>
      show inV ((ns.map nV).getD j .non)=_;rw [AX nV ns j .non 0 (by omega)];rfl
  rw [e1,e2];exact am (by omega) (by omega)
theorem Q5 {H:Hp} {F:Addr->Prop} {n m:Nat} {v:V} {ns:List Nat} (r:Rp H F n v (dL ns)) (h:Rise m ns):Bi H v m=true/\ThL H 1 v:=by
  obtain ⟨b,rfl,hb,_,l⟩:=IC r;refine ⟨?_, .lst hb,λ xs e=> ?_⟩
  · unfold Bi;rw [AG hb];exact Qx h
  · rw [AG hb] at e;cases e;refine ⟨?_,λ x hx=> ?_⟩
    · rw [Aa2];exact l
    · obtain ⟨i,_,rfl⟩:=Ad0.mp hx;exact .int _
theorem K9 {H:Hp} {a:Addr} {ns:List Nat} (h:H a=some (.lst (ns.map nV))) (l:ns.length<=100000):ThL H 1 (.ref a):=by
  refine ⟨.lst h,λ xs e=> ?_⟩;rw [AG h] at e;cases e;refine ⟨by rw [Aa2];exact l,λ x hx=> ?_⟩;obtain ⟨i,_,rfl⟩:=Ad0.mp hx;exact .int _
theorem Q8 {z:Str} (h:Fa z):EU (.str z)=true:=by
  show (decide (z.length=1)&&_)=true;rw [decide_eq_true h.1,h.2];rfl
theorem Ng {H:Hp} {a:Addr} {zs:List Str} (h:H a=some (.lst (zs.map V.str))) (l:zs.length<=100000) (ok:∀ z∈zs,Fa z):ThL H 1 (.ref a)/\BE H (.ref a) (zs.length:Nat)=true:=by
  refine ⟨⟨.lst h,λ xs e=> ?_⟩,?_⟩
  · rw [AG h] at e;cases e;refine ⟨by rw [Aa2];exact l,λ x hx=> ?_⟩;obtain ⟨z,hz,rfl⟩:=Ad0.mp hx;exact .str z (by rw [(ok z hz).1];decide)
  · unfold BE Co;rw [AG h];simp only [Option.getD_some,Aa2,Ab3,decide_eq_true_eq,Ac0];refine ⟨⟨Int.le_refl _,Int.le_refl _⟩,λ x hx=> ?_⟩;obtain ⟨z,hz,rfl⟩:=Ad0.mp hx;exact Q8 (ok z hz)
theorem RJ {H:Hp} {F:Addr->Prop} {n m:Nat} {v:V} {ls:List (List Nat)} (r:Rp H F n v (dLL ls)) (h:∀ l∈ls,Rise m l):ThL H 2 v/\∃ xs,BV H v=some xs/\xs.length=ls.length/\xs.all (λ x=>Bi H x m)=true:=by
  obtain ⟨m',a,vs,em,rfl,ha,_,hl,hb,el⟩:=GO r;rw [Aa2] at hl el;have it:∀ i,i<ls.length->Bi H (vs.getD i .non) m=true/\ThL H 1 (vs.getD i .non):=λ i hi=>by
    have r:=el i hi;rw [AX dL ls i .non [] hi] at r;exact Q5 r (h _ (L2.getD_mem hi))
  have mem:∀ x∈vs,∃ i,i<ls.length/\vs.getD i .non=x:=λ x hx=>by
    obtain ⟨i,hi,rfl⟩:=List.mem_iff_getElem.mp hx;exact ⟨i,by omega,by rw [Aa3,Aa4 hi];rfl⟩
  refine ⟨⟨.lst ha,λ xs e=> ?_⟩,vs,AG ha,hl,?_⟩
  · rw [AG ha] at e;cases e;refine ⟨hb,λ x hx=> ?_⟩;obtain ⟨i,hi,rfl⟩:=mem x hx;exact (it i hi).2
  · rw [Ac0];intro x hx;obtain ⟨i,hi,rfl⟩:=mem x hx;exact (it i hi).1
theorem LM {H:Hp} {d:Dr} {v0 v1 v2 v3 v4 v5 v6:V} (p:Parts H d [v0,v1,v2,v3,v4,v5,v6]) (ok:DrOk d):PTh H v0 v1 v2 v3 v4 v5 v6/\drB H v0 v1 v2 v3 v4 v5 v6=true:=by
  obtain ⟨a1,w2,w3,a4,a5,e,h1,h2,h3,h4,h5⟩:=p.ex;cases e;obtain ⟨c2,x2,e2,l2,q2⟩:=RJ h2 ok.ir;obtain ⟨c3,x3,e3,l3,q3⟩:=RJ h3 ok.pr;have b2:=ok.h2;have bl:=ok.p2;obtain ⟨c5,q5⟩:=Ng h4 (by rw [ok.wl];omega) ok.wc;obtain ⟨c6,q6⟩:=Ng h5 (by rw [ok.fl];omega) ok.fc;refine ⟨⟨.int _, .int _,K9 h1 (by omega),c2,c3,c5,c6⟩,?_⟩;have i2:Co H v3 (d.tr:Nat) (d.tr:Nat)=true:=by
    unfold Co;rw [e2];simp [l2,ok.il]
  have i3:Co H v4 1 60=true:=by
    unfold Co;rw [e3];simp only [l3,Ab3,decide_eq_true_eq];have:=ok.p1;omega
  have i1:Co H (.ref a1) 1 60=true:=by
    unfold Co;rw [AG h1];simp only [Aa2,Ab3,decide_eq_true_eq];have:=ok.h1;omega
  have al:(d.th.map nV).all (λ x=>As x 0 (d.sh:Nat))=true:=by
    rw [Ac0];intro x hx;obtain ⟨i,hi,rfl⟩:=Ad0.mp hx;have:=ok.hs i hi;exact am (by omega) (by omega)
  unfold drB lsD;rw [AG h1,e2,e3,am (by have:=ok.s1;omega) (by have:=ok.s2;omega),am (by have:=ok.t1;omega) (by have:=ok.t2;omega),i1];show (true&&(true&&(true&&((d.th.map nV).all (λ x=>As x 0 (d.sh:Nat))&&(Co H v3 (d.tr:Nat) (d.tr:Nat)&&(x2.all (λ x=>Bi H x (d.sh:Nat))&&(Co H v4 1 60&&(x3.all (λ x=>Bi H x (d.tr:Nat))&&(BE H (.ref a4) ((d.th.map nV).length:Nat)&&BE H (.ref a5) (x3.length:Nat))))))))))=true;rw [al,i2,q2,i3,q3,Aa2, <-ok.wl,q5,l3, <-ok.fl,q6];rfl
abbrev Ci:Stmt:=Aq (top 28) 0
theorem Gb:FnScope ["self","shafts","treadles","threading","ties","treading","warp","weft"] ["self","shafts","treadles","threading","ties","treading","warp","weft"] (Ah Ci):=⟨rfl,rfl,rfl,by decide +kernel,rfl,by decide +kernel,by decide +kernel⟩
theorem GG {f:Addr} {fd:FuncData} (F:Fun K "__init__" "Draft.__init__" Ci f fd) (T:Txt K mg c) (c_need_draft:BF P w K mg base "need_draft" 5 ["shafts","treadles","threading","ties","treading","warp","weft"] (Fl c)):FnOk P w K mg base (CXE P w) 6 f fd ["self","shafts","treadles","threading","ties","treading","warp","weft"] (Ba c):=by
  refine Fun.okE F Gb (λ vs H Q E h=> ?_) (λ cdv A outer s H vs Q E hr h=> ?_)
  · obtain ⟨x,dx,v0,v1,v2,v3,v4,v5,v6,rfl,_⟩:=h;rfl
  · obtain ⟨x,dx,v0,v1,v2,v3,v4,v5,v6,rfl,hx,h⟩:=h;refine ⟨_,(Ad (Av (Aw c_need_draft hr AF (Aa (pv 1) (Aa (pv 2) (Aa (pv 3) (Aa (pv 4) (Aa (pv 5) (Aa (pv 6) (Aa (pv 7) Ab)))))))))
      (Ad (CO (pv 0) (pv 1) rfl)
      (Ad (CO (pv 0) (pv 2) rfl)
      (Ad (CO (pv 0) (AC (C2 (K:=K)) rfl (T.own _ (by decide)) AN (Aa (pv 3) Ab)) rfl)
      (Ad (CO (pv 0) (AC (C2 (K:=K)) rfl (T.own _ (by decide)) AN (Aa (AM (CG (K:=K) (pv 4)) (λ _ _ _ _=>AK) (λ _ _ _ _=>(AC (C2 (K:=K)) rfl (T.own _ (by decide)) AN (Aa (pv 0) Ab)))) Ab)) rfl)
      (Ad (CO (pv 0) (AC (C2 (K:=K)) rfl (T.own _ (by decide)) AN (Aa (AM (CG (K:=K) (pv 5)) (λ _ _ _ _=>AK) (λ _ _ _ _=>(AC (C2 (K:=K)) rfl (T.own _ (by decide)) AN (Aa (pv 0) Ab)))) Ab)) rfl)
      (Ad (CO (pv 0) (AC (C2 (K:=K)) rfl (T.own _ (by decide)) AN (Aa (pv 6) Ab)) rfl)
      (Af (CO (pv 0) (AC (C2 (K:=K)) rfl (T.own _ (by decide)) AN (Aa (pv 7) Ab)) rfl))))))))),?_⟩
    walk_at "w";rcases h with ⟨pt,db,k⟩ | ⟨d,ps,ok,k⟩
    · exact ⟨_,_,_,_,_,_,_,rfl,pt,λ H1 s1=>⟨λ z=>absurd z (by rw [db];decide),λ _=>k H1 s1⟩⟩
    obtain ⟨pt,db⟩:=LM ps ok;refine ⟨_,_,_,_,_,_,_,rfl,pt,λ H1 s1=>⟨λ _=> ?_,λ z=>absurd z (by rw [db];decide)⟩⟩;obtain ⟨a1,v2,v3,a4,a5,e,h1,h2,h3,h4,h5⟩:=ps.ex;cases e;walk_at "w";have B:But x H H1:=But.of s1;have hx1:=s1 _ _ hx;refine CN hx1 T.kd_Draft.cl T.na_Draft_shafts (by decide) ?_;replace B:=B.put (o:=HO.ins c.Draft dx (Bd "shafts" (nV d.sh) []));have hx2:upd H1 x (HO.ins c.Draft dx (Bd "shafts" (nV d.sh) [])) x=_:=Ae;generalize upd H1 x (HO.ins c.Draft dx (Bd "shafts" (nV d.sh) []))=H2 at B hx2 ⊢;walk_at "w";refine CN hx2 T.kd_Draft.cl T.na_Draft_treadles (by show 1<1000;decide) ?_;replace B:=B.put (o:=HO.ins c.Draft dx (Bd "treadles" (nV d.tr) (Bd "shafts" (nV d.sh) [])));have hx3:upd H2 x (HO.ins c.Draft dx (Bd "treadles" (nV d.tr) (Bd "shafts" (nV d.sh) []))) x=_:=Ae;generalize upd H2 x (HO.ins c.Draft dx (Bd "treadles" (nV d.tr) (Bd "shafts" (nV d.sh) [])))=H3 at B hx3 ⊢;walk_at "w";refine B8 (SqL.of (B _ _ h1 (Cg h1 hx (by intro z;cases z)))) λ t1 ht1=> ?_;walk_at "w";have hx3':=Ai (o:=HO.tup (d.th.map nV)) ht1 _ _ hx3;have r1:Rp (upd H3 t1 (HO.tup (d.th.map nV))) FT 1 (.ref t1) (dT d.th):=Rw Ae (by have:=ok.h2;omega);replace B:=B.same (Ai (o:=HO.tup (d.th.map nV)) ht1);generalize upd H3 t1 (HO.tup (d.th.map nV))=H4 at B hx3' r1 ⊢;refine CN hx3' T.kd_Draft.cl T.na_Draft_threading (by show 2<1000;decide) ?_;replace r1:=r1.ins (o:=HO.ins c.Draft dx (Bd "threading" (.ref t1) (Bd "treadles" (nV d.tr) (Bd "shafts" (nV d.sh) [])))) hx3';replace B:=B.put (o:=HO.ins c.Draft dx (Bd "threading" (.ref t1) (Bd "treadles" (nV d.tr) (Bd "shafts" (nV d.sh) []))));have hx5:upd H4 x (HO.ins c.Draft dx (Bd "threading" (.ref t1) (Bd "treadles" (nV d.tr) (Bd "shafts" (nV d.sh) [])))) x=_:=Ae;generalize upd H4 x (HO.ins c.Draft dx (Bd "threading" (.ref t1) (Bd "treadles" (nV d.tr) (Bd "shafts" (nV d.sh) []))))=H5 at B hx5 r1 ⊢;walk_at "w";obtain ⟨m2,a2,vs2,em2,rfl,ha2,_,hl2,hb2,el2⟩:=GO (B.rp hx h2);cases em2;rw [Aa2] at hl2;refine ⟨a2,rfl,⟨_,SqL.of ha2⟩,λ D hD=> ?_⟩;refine Bc (m:=1) (G:=λ i=>dT (d.ti.getD i [])) (Bl (SqL.of ha2) rfl) hD hb2 ?_ ?_
    · intro i H' R hi s kk;have hi':i<d.ti.length:=by omega
      have r:=el2 i (by simpa using hi');rw [AX dL d.ti i .non [] hi'] at r;obtain ⟨b,eb,hb3,_,hb4⟩:=IC r;rw [eb];walk_at "w";exact B8 (SqL.of (s _ _ hb3)) λ q hq=>kk _ _ (Ai hq) (Rw Ae hb4)
    intro H6 ys s6 hl6 r2;rw [hl2,RQ] at r2;walk_at "w";refine B8 (SqL.of hl6) λ t2 ht2=> ?_;walk_at "w";replace r2:Rp (upd H6 t2 (HO.tup ys)) FT 2 (.ref t2) (dTT d.ti):=(r2.tupd hl6 ht2).any;have s62:=s6.trans (Ai (o:=HO.tup ys) ht2);replace B:=B.same s62;replace r1:=r1.same s62;have hx6:=s62 _ _ hx5;generalize upd H6 t2 (HO.tup ys)=H7 at B hx6 r1 r2 ⊢;refine CN hx6 T.kd_Draft.cl T.na_Draft_ties (by show 3<1000;decide) ?_;generalize ef:Bd "ties" (V.ref t2) _=f7;replace r1:=r1.ins (o:=HO.ins c.Draft dx f7) hx6;replace r2:=r2.ins (o:=HO.ins c.Draft dx f7) hx6;replace B:=B.put (o:=HO.ins c.Draft dx f7);have hx8:upd H7 x (HO.ins c.Draft dx f7) x=_:=Ae;generalize upd H7 x (HO.ins c.Draft dx f7)=H8 at B hx8 r1 r2 ⊢;subst ef;walk_at "w";obtain ⟨m3,a3,vs3,em3,rfl,ha3,_,hl3,hb3,el3⟩:=GO (B.rp hx h3);cases em3;rw [Aa2] at hl3;refine ⟨a3,rfl,⟨_,SqL.of ha3⟩,λ D hD=> ?_⟩;refine Bc (m:=1) (G:=λ i=>dT (d.td.getD i [])) (Bl (SqL.of ha3) rfl) hD hb3 ?_ ?_
    · intro i H' R hi s kk;have hi':i<d.td.length:=by omega
      have r:=el3 i (by simpa using hi');rw [AX dL d.td i .non [] hi'] at r;obtain ⟨b,eb,hb3,_,hb4⟩:=IC r;rw [eb];walk_at "w";exact B8 (SqL.of (s _ _ hb3)) λ q hq=>kk _ _ (Ai hq) (Rw Ae hb4)
    intro H9 ys9 s9 hl9 r3;rw [hl3,RQ] at r3;walk_at "w";refine B8 (SqL.of hl9) λ t3 ht3=> ?_;walk_at "w";replace r3:Rp (upd H9 t3 (HO.tup ys9)) FT 2 (.ref t3) (dTT d.td):=(r3.tupd hl9 ht3).any;have s93:=s9.trans (Ai (o:=HO.tup ys9) ht3);replace B:=B.same s93;replace r1:=r1.same s93;replace r2:=r2.same s93;have hx9:=s93 _ _ hx8;generalize upd H9 t3 (HO.tup ys9)=HA at B hx9 r1 r2 r3 ⊢;refine CN hx9 T.kd_Draft.cl T.na_Draft_treading (by show 4<1000;decide) ?_;generalize ef:Bd "treading" (V.ref t3) _=f9;replace r1:=r1.ins (o:=HO.ins c.Draft dx f9) hx9;replace r2:=r2.ins (o:=HO.ins c.Draft dx f9) hx9;replace r3:=r3.ins (o:=HO.ins c.Draft dx f9) hx9;replace B:=B.put (o:=HO.ins c.Draft dx f9);have hxB:upd HA x (HO.ins c.Draft dx f9) x=_:=Ae;generalize upd HA x (HO.ins c.Draft dx f9)=HB at B hxB r1 r2 r3 ⊢;subst ef;walk_at "w";refine B8 (SqL.of (B _ _ h4 (Cg h4 hx (by intro z;cases z)))) λ t4 ht4=> ?_;walk_at "w";have r4:Rp (upd HB t4 (HO.tup (d.wa.map V.str))) FT 1 (.ref t4) (dST d.wa):=PN Ae (by have:=ok.h2;have:=ok.wl;omega);have sB:=Ai (o:=HO.tup (d.wa.map V.str)) ht4;replace B:=B.same sB;replace r1:=r1.same sB;replace r2:=r2.same sB;replace r3:=r3.same sB;replace hxB:=sB _ _ hxB;generalize upd HB t4 (HO.tup (d.wa.map V.str))=HC at B hxB r1 r2 r3 r4 ⊢;refine CN hxB T.kd_Draft.cl T.na_Draft_warp (by show 5<1000;decide) ?_;generalize ef:Bd "warp" (V.ref t4) _=fC;replace r1:=r1.ins (o:=HO.ins c.Draft dx fC) hxB;replace r2:=r2.ins (o:=HO.ins c.Draft dx fC) hxB;replace r3:=r3.ins (o:=HO.ins c.Draft dx fC) hxB;replace r4:=r4.ins (o:=HO.ins c.Draft dx fC) hxB;replace B:=B.put (o:=HO.ins c.Draft dx fC);have hxD:upd HC x (HO.ins c.Draft dx fC) x=_:=Ae;generalize upd HC x (HO.ins c.Draft dx fC)=HD at B hxD r1 r2 r3 r4 ⊢;subst ef;walk_at "w";refine B8 (SqL.of (B _ _ h5 (Cg h5 hx (by intro z;cases z)))) λ t5 ht5=> ?_;walk_at "w";have r5:Rp (upd HD t5 (HO.tup (d.we.map V.str))) FT 1 (.ref t5) (dST d.we):=PN Ae (by have:=ok.p2;have:=ok.fl;omega);have sD:=Ai (o:=HO.tup (d.we.map V.str)) ht5;replace B:=B.same sD;replace r1:=r1.same sD;replace r2:=r2.same sD;replace r3:=r3.same sD;replace r4:=r4.same sD;replace hxD:=sD _ _ hxD;generalize upd HD t5 (HO.tup (d.we.map V.str))=HE at B hxD r1 r2 r3 r4 r5 ⊢;refine CN hxD T.kd_Draft.cl T.na_Draft_weft (by show 6<1000;decide) ?_;generalize ef:Bd "weft" (V.ref t5) _=fE;replace r1:=r1.ins (o:=HO.ins c.Draft dx fE) hxD;replace r2:=r2.ins (o:=HO.ins c.Draft dx fE) hxD;replace r3:=r3.ins (o:=HO.ins c.Draft dx fE) hxD;replace r4:=r4.ins (o:=HO.ins c.Draft dx fE) hxD;replace r5:=r5.ins (o:=HO.ins c.Draft dx fE) hxD;replace B:=B.put (o:=HO.ins c.Draft dx fE);have hxF:upd HD x (HO.ins c.Draft dx fE) x=_:=Ae;walk_at "w";subst ef;exact k _ B ⟨dx,_,_,_,_,_,Ae,r1,r2,r3,r4,r5⟩
theorem Lq {c:Cs} {H:Hp} {Q:VK} {E:XK} {d:Dr} {v0 v1 v2 v3 v4 v5 v6:V} (ps:Parts H d [v0,v1,v2,v3,v4,v5,v6]) (ok:DrOk d) (h:∀ H' x,Same H H'->H x=none->DrAt c.Draft H' x d->Q (.ref x) H'):
    ∀ x dx,H x=none->H dx=none->dx≠x->Ba c [.ref x,v0,v1,v2,v3,v4,v5,v6] (upd (upd H dx (.own x)) x (.ins c.Draft dx [])) (λ v H2=>v= .non/\Q (.ref x) H2) E:=by
  intro x dx hx hdx ne;have s0:=Gg (o:=HO.ins c.Draft dx []) (u:= .own x) hx hdx;exact ⟨x,dx,_,_,_,_,_,_,_,rfl,Ae, .inr ⟨d,ps.same s0,ok,λ H' B at'=>⟨rfl,h H' x (λ b o e=>B b o (s0 b o e) (Ay e hx)) hx at'⟩⟩⟩
theorem L4 {H H':Hp} {v0 v1 v2 v3 v4 v5 v6:V} (h:PTh H v0 v1 v2 v3 v4 v5 v6) (s:Same H H'):drB H' v0 v1 v2 v3 v4 v5 v6=drB H v0 v1 v2 v3 v4 v5 v6:=by
  have al:∀ {v:V} {m:Int},ThL H 2 v->(lsD H' v).all (λ x=>Bi H' x m)=(lsD H v).all (λ x=>Bi H x m):=λ {v m} t=>by
    unfold lsD;rw [Cv t.1 s];cases e:BV H v with
    | none=>rfl
    | some xs=>
      rw [Ac6,Ac0,Ac0];exact forall_congr' λ x=>forall_congr' λ hx=>by rw [BD ((t.2 xs e).2 x hx).th s]
  unfold drB;rw [C5 h.t2.th s,C5 h.t3.th s,C5 h.t4.th s,al h.t3,al h.t4,BK h.t5.th s,BK h.t6.th s];unfold lsD;rw [Cv h.t2.th s,Cv h.t4.th s]
theorem Q2 {c:Cs} {H:Hp} {Q:VK} {E:XK} {v0 v1 v2 v3 v4 v5 v6:V} (pt:PTh H v0 v1 v2 v3 v4 v5 v6) (db:drB H v0 v1 v2 v3 v4 v5 v6=false) (h:∀ H',Same H H'->E (.ref c.BadDraft) none H'):
    ∀ x dx,H x=none->H dx=none->dx≠x->Ba c [.ref x,v0,v1,v2,v3,v4,v5,v6] (upd (upd H dx (.own x)) x (.ins c.Draft dx [])) (λ v H2=>v= .non/\Q (.ref x) H2) E:=by
  intro x dx hx hdx ne;have s0:=Gg (o:=HO.ins c.Draft dx []) (u:= .own x) hx hdx;exact ⟨x,dx,_,_,_,_,_,_,_,rfl,Ae, .inl ⟨pt.same s0,by rw [L4 pt s0];exact db,λ H' s=>h H' (s0.trans s)⟩⟩
def Ik (K:PySem.W.Frag):Sp:=λ vs H Q _=>∃ (a b:Addr) (tp:Bool) (ts ks:List Nat),vs=[.ref a, .ref b]/\SqL K H a (ts.map nV)/\SqS tp K H b (ks.map nV)/\ks.length<=1000/\(∀ k∈ks,1<=k/\k<=ts.length)/\∀ H',Same H H'->Q (nV (MM.uOf (ks.map λ k=>ts.getD (k - 1) 0))) H'
theorem GI {n:Nat} (G:Nat->Nat):((Aa9 n).map λ i=>((G i:Nat):Int)).map V.int=((Aa9 n).map G).map nV:=by rw [Ae8,Ae8];rfl
abbrev GT:Stmt:=top 41
theorem MB:FnScope ["ties","treadles"] ["ties","treadles"] (Ah GT):=⟨rfl,rfl,rfl,by decide +kernel,rfl,by decide +kernel,by decide +kernel⟩
theorem Mx {f:Addr} {fd:FuncData} (F:Fun K "lift_by" "lift_by" GT f fd) (T:Txt K mg c) (c_union_of:Az P w K mg base "union_of" 1 ["masks"] (Ff K)):FnOk P w K mg base CX0 2 f fd ["ties","treadles"] (Ik K):=by
  refine F.ok MB (λ vs H Q E h=> ?_) (λ cdv A outer s H vs Q E hr h=> ?_)
  · obtain ⟨a,b,tp,ts,ks,rfl,_⟩:=h;rfl
  · obtain ⟨a,b,tp,ts,ks,rfl,sa,sb,hl,hk,k⟩:=h;refine ⟨_,(Af (An (Ag c_union_of hr (Aa (AM (On (K:=K) (pv 1)) (λ _ _ _ _=>AK) (λ _ _ _ _=>(A7 (Fg (K:=K)) (pv 1) (Aj E4 (pv 0) Ac) (λ _ _=>rfl)))) Ab)))),?_⟩;walk_at "w";refine ⟨tp,b,rfl,⟨_,sb⟩,λ D hD=> ?_⟩;refine B4 (G:=λ i=>((ts.getD (ks.getD i 0 - 1) 0:Nat):Int)) (Ss sb rfl) hD (by rw [Aa2];omega) ?_ ?_
    · intro i H' R hi s kk;have hi':i<ks.length:=by simpa using hi
      have hm:=hk _ (getD_mem (y:=0) hi');rw [Ed hi];walk_at "w";refine Ax (SqS.same (tp:=false) sa s) (LX (by omega) (by omega)) ?_;rw [show (((ks.getD i 0:Nat):Int) - 1).toNat=ks.getD i 0 - 1 by omega];exact kk H' (Same.refl _)
    · intro H' s hl2;rw [GI,Aa2] at hl2;walk_at "w";refine ⟨false,D,_,rfl,SqL.of hl2,λ H2 s2=> ?_⟩;rw [Ef (λ k=>ts.getD (k - 1) 0) ks 0];exact k H2 (s.trans s2)
def EW (ti:List (List Nat)) (ks:List Nat):Nat:=MM.uOf (ks.map λ k=>(ti.map MM.mOf).getD (k - 1) 0)
theorem Rise.le {m:Nat} {ns:List Nat} (h:Rise m ns):∀ n∈ns,1<=n/\n<=m:=λ n hn=>by
  obtain ⟨i,hi,rfl⟩:=List.getElem_of_mem hn;have:=h i hi;rw [show ns.getD i 0=ns[i] by simp [Aa3,hi]] at this;omega
theorem Rise.len {m:Nat}:∀ {ns:List Nat},Rise m ns->ns.length<=m:=by
  intro ns h;have:∀ i,i<ns.length->i+1<=ns.getD i 0:=by
    intro i
    induction i with
    | zero=>intro hi;have:=h 0 hi;omega
    | succ i ih=>
      intro hi;have h1:=ih (by omega);have h2:=h (i+1) hi;have e:(0::ns).getD (i+1) 0=ns.getD i 0:=rfl;omega
  rcases Nat.eq_zero_or_pos ns.length with z | z
  · omega
  · have h1:=this (ns.length - 1) (by omega);have h2:=h (ns.length - 1) (by omega);omega
def E6 (c:Cs):Sp:=λ vs H Q _=>∃ x d,vs=[.ref x]/\DrAt c.Draft H x d/\DrOk d/\∀ H' p,Same H H'->H p=none->H' p=some (.lst ((d.td.map (EW d.ti)).map nV))->Q (.ref p) H'
abbrev F6:Stmt:=top 42
theorem sc_lifts_of:FnScope ["draft","ties"] ["draft"] (Ah F6):=⟨rfl,rfl,rfl,by decide +kernel,rfl,by decide +kernel,by decide +kernel⟩
theorem LS {f:Addr} {fd:FuncData} (F:Fun K "lifts_of" "lifts_of" F6 f fd) (T:Txt K mg c) (c_mask_of:Az P w K mg base "mask_of" 2 ["numbers"] (F5 K)) (c_lift_by:Az P w K mg base "lift_by" 2 ["ties","treadles"] (Ik K)):FnOk P w K mg base CX0 3 f fd ["draft"] (E6 c):=by
  refine F.ok sc_lifts_of (λ vs H Q E h=> ?_) (λ cdv A outer s H vs Q E hr h=> ?_)
  · obtain ⟨x,d,rfl,_⟩:=h;rfl
  · obtain ⟨x,d,rfl,⟨dx,v1,v2,v3,v4,v5,h0,h1,h2,h3,h4,h5⟩,ok,k⟩:=h;obtain ⟨m2,a2,vs2,em2,rfl,e2,l2,b2,el2⟩:=GJ h2;cases em2;obtain ⟨m3,a3,vs3,em3,rfl,e3,l3,b3,el3⟩:=GJ h3;cases em3;rw [Aa2] at l2 l3;refine ⟨_,(Ad (Ap (i:=1) sc_lifts_of.nd rfl (Or.inr rfl) (AM (J4 (K:=K) (Au (K:=K) (pv 0) rfl)) (λ _ _ _ _=>AK) (λ _ _ _ _=>(Ag c_mask_of hr (Aa (pv 0) Ab)))))
      (Af (An (AM (J4 (K:=K) (Au (K:=K) (pv 0) rfl)) (λ _ _ _ _=>AK) (λ _ _ _ _=>(Ag c_lift_by hr (Aa (pv 1) (Aa (pv 0) Ab)))))))),?_⟩
    walk_at "w";refine ⟨_,_,_,_,_,rfl,h0,T.kd_Draft.cl,T.na_Draft_ties,rfl,?_⟩;walk_at "w";refine ⟨a2,rfl,⟨_,SqT.of e2⟩,λ D2 hD2=> ?_⟩;refine B4 (G:=λ i=>((MM.mOf (d.ti.getD i []):Nat):Int)) (Fp (SqT.of e2) rfl) hD2 b2 ?_ ?_
    · intro i H' R hi s kk;have hi':i<d.ti.length:=by omega
      have r:=el2 i (by simpa using hi');rw [AX dT d.ti i .non [] hi'] at r;obtain ⟨b,eb,hb3,hb4⟩:=Dq r;rw [eb];walk_at "w";have hm:=(ok.ir _ (getD_mem (y:=[]) hi')).le;exact ⟨true,b,_,rfl,SqT.of (s _ _ hb3),λ n hn=>⟨(hm n hn).1,by have:=hm n hn;have:=ok.s2;omega⟩,λ H3 s3=>kk H3 s3⟩
    intro H1 s1 hl1;rw [GI,l2,Ef MM.mOf d.ti []] at hl1;walk_at "w";refine ⟨_,_,_,_,_,rfl,s1 _ _ h0,T.kd_Draft.cl,T.na_Draft_treading,rfl,?_⟩;walk_at "w";refine ⟨a3,rfl,⟨_,SqT.of (s1 _ _ e3)⟩,λ D3 hD3=> ?_⟩;refine B4 (G:=λ i=>((EW d.ti (d.td.getD i []):Nat):Int)) (Fp (SqT.of (s1 _ _ e3)) rfl) hD3 b3 ?_ ?_
    · intro i H' R hi s kk;have hi':i<d.td.length:=by omega
      have r:=el3 i (by simpa using hi');rw [AX dT d.td i .non [] hi'] at r;obtain ⟨b,eb,hb3,hb4⟩:=Dq r;rw [eb];walk_at "w";have hR:=ok.pr _ (getD_mem (y:=[]) hi');have hm:=hR.le;have hln:=hR.len;exact ⟨D2,b,true,_,_,rfl,SqL.of (s _ _ hl1),SqT.of (s _ _ (s1 _ _ hb3)),by have:=ok.t2;omega,λ n hn=>⟨(hm n hn).1,by have:=hm n hn;have:=ok.il;rw [Aa2];omega⟩,λ H3 s3=>kk H3 s3⟩
    intro H2 s2 hl2;rw [GI,l3,Ef (EW d.ti) d.td []] at hl2;walk_at "w";exact k H2 D3 (s1.trans s2) (s1.free hD3) hl2
def KA (th:List Nat) (s:Nat):Nat:=MM.ofB (λ e=>decide (th.getD e 0=s)) th.length
theorem So (f:Nat->Bool) (w:Nat):MM.mOf (((Aa9 w).filter f).map (· + 1))=MM.ofB f w:=by
  refine Nat.eq_of_testBit_eq λ i=> ?_;rw [MM.mOf_bit,MM.ofB_bit,Ac6,List.any_eq_true];constructor
  · rintro ⟨n,hn,e⟩;obtain ⟨k,hk,rfl⟩:=Ad0.mp hn;obtain ⟨h1,h2⟩:=Ah4.mp hk;have e:k+1 - 1=i:=of_decide_eq_true e;have e:k=i:=by omega
    subst e;simp [Af1.mp h1,h2]
  · intro h;simp only [Ab3,decide_eq_true_eq] at h;exact ⟨i+1,Ad0.mpr ⟨i,Ah4.mpr ⟨Af1.mpr h.1,h.2⟩,rfl⟩,by simp⟩
def ER (K:PySem.W.Frag):Sp:=λ vs H Q _=>∃ (a:Addr) (tp:Bool) (th:List Nat) (s:Nat),vs=[.ref a,nV s]/\SqS tp K H a (th.map nV)/\th.length<=900/\∀ H',Same H H'->Q (nV (KA th s)) H'
abbrev De:Stmt:=top 43
theorem HP:FnScope ["threading","shaft"] ["threading","shaft"] (Ah De):=⟨rfl,rfl,rfl,by decide +kernel,rfl,by decide +kernel,by decide +kernel⟩
theorem HN {f:Addr} {fd:FuncData} (F:Fun K "ends_through" "ends_through" De f fd) (T:Txt K mg c) (c_mask_of:Az P w K mg base "mask_of" 2 ["numbers"] (F5 K)):FnOk P w K mg base CX0 3 f fd ["threading","shaft"] (ER K):=by
  refine F.ok HP (λ vs H Q E h=> ?_) (λ cdv A outer s H vs Q E hr h=> ?_)
  · obtain ⟨a,tp,th,s,rfl,_⟩:=h;rfl
  · obtain ⟨a,tp,th,s,rfl,sa,hl,k⟩:=h;refine ⟨_,(Af (An (Ag c_mask_of hr (Aa (Fn (K:=K) (PF (K:=K) rfl (T.own _ (by decide)) (Aa (pv 0) Ab)) (λ _ _ _ _=>(GH (AE Bv (pv 1) (pv 2) (AB _)))) (λ _ _ _ _=>(pv 0))) Ab)))),?_⟩;walk_at "w";refine ⟨tp,a,rfl,⟨_,sa⟩,λ D hD=> ?_⟩;refine FV (p:=λ i=>decide (th.getD i 0=s)) (G:=λ i=>((i+1:Nat):Int)) (N9 sa rfl rfl) hD (by rw [Aa2];omega) ?_ ?_ ?_
    · intro i H' R hi s2 kk;rw [Ed hi];walk_at "w";rw [show decide (((th.getD i 0:Nat):Int)=(s:Nat))=decide (th.getD i 0=s) by rw [Ac6];simp only [decide_eq_true_eq];omega];exact kk H' (Same.refl _)
    · intro i H' R hi hp s2 kk;walk_at "w";exact kk H' (Same.refl _)
    · intro H' s2 hl2;walk_at "w";have e:(((Aa9 (th.map nV).length).filter λ i=>decide (th.getD i 0=s)).map λ i=>((i+1:Nat):Int)).map V.int=(((Aa9 th.length).filter λ i=>decide (th.getD i 0=s)).map (· + 1)).map nV:=by
        rw [Aa2,Ae8,Ae8];rfl
      rw [e] at hl2;refine ⟨false,D,_,rfl,SqL.of hl2,λ n hn=> ?_,λ H3 s3=> ?_⟩
      · obtain ⟨j,hj,rfl⟩:=Ad0.mp hn;have:=Af1.mp (Ah4.mp hj).1;omega
      · rw [So];exact k H3 (s2.trans s3)
def FC (K:PySem.W.Frag):Sp:=λ vs H Q _=>∃ (a:Addr) (tp:Bool) (th:List Nat) (s:Nat),vs=[.ref a,nV s]/\SqS tp K H a (th.map nV)/\th.length<=900/\s<=900/\∀ H' p,Same H H'->H p=none->H' p=some (.lst (((Aa9 s).map λ i=>KA th (i+1)).map nV))->Q (.ref p) H'
abbrev El:Stmt:=top 44
theorem JG:FnScope ["threading","shafts"] ["threading","shafts"] (Ah El):=⟨rfl,rfl,rfl,by decide +kernel,rfl,by decide +kernel,by decide +kernel⟩
theorem JO {f:Addr} {fd:FuncData} (F:Fun K "shaft_ends" "shaft_ends" El f fd) (T:Txt K mg c) (c_ends_through:Az P w K mg base "ends_through" 3 ["threading","shaft"] (ER K)):FnOk P w K mg base CX0 4 f fd ["threading","shafts"] (FC K):=by
  refine F.ok JG (λ vs H Q E h=> ?_) (λ cdv A outer s H vs Q E hr h=> ?_)
  · obtain ⟨a,tp,th,s,rfl,_⟩:=h;rfl
  · obtain ⟨a,tp,th,s,rfl,sa,hl,hs,k⟩:=h;refine ⟨_,(Af (An (AM (J7 rfl (T.own _ (by decide)) (Aa Ac (Aa (Aj AU (pv 1) Ac) Ab))) (λ _ _ _ _=>AK) (λ _ _ _ _=>(Ag c_ends_through hr (Aa (pv 1) (Aa (pv 0) Ab))))))),?_⟩;walk_at "w";refine ⟨_,_,rfl,⟨by decide,by decide,by omega,by omega⟩,λ D hD=> ?_⟩;rw [show ((s:Int)+1 - 1).toNat=s by omega];refine B4 (G:=λ i=>((KA th (i+1):Nat):Int)) (GX rfl) hD (by omega) ?_ ?_
    · intro i H' R hi s2 kk;walk_at "w";refine ⟨a,tp,th,i+1,by rw [show (1:Int)+(i:Nat)=((i+1:Nat):Int) by omega],sa.same s2,hl,kk⟩
    · intro H' s2 hl2;rw [GI] at hl2;exact k H' D s2 hD hl2
def NK (cs:List Nat) (l:Nat):Nat:=MM.uOf ((MM.nOf l).map λ s=>cs.getD (s - 1) 0)
def Kh (K:PySem.W.Frag):Sp:=λ vs H Q _=>∃ (a:Addr) (cs:List Nat) (l:Nat),vs=[.ref a,nV l]/\SqL K H a (cs.map nV)/\l<2 ^ cs.length/\cs.length<=900/\∀ H',Same H H'->Q (nV (NK cs l)) H'
abbrev Iw:Stmt:=top 45
theorem NQ:FnScope ["carried","lift"] ["carried","lift"] (Ah Iw):=⟨rfl,rfl,rfl,by decide +kernel,rfl,by decide +kernel,by decide +kernel⟩
theorem NG {f:Addr} {fd:FuncData} (F:Fun K "row_by" "row_by" Iw f fd) (T:Txt K mg c) (c_numbers_of:Az P w K mg base "numbers_of" 3 ["mask"] FH) (c_union_of:Az P w K mg base "union_of" 1 ["masks"] (Ff K)):FnOk P w K mg base CX0 4 f fd ["carried","lift"] (Kh K):=by
  refine F.ok NQ (λ vs H Q E h=> ?_) (λ cdv A outer s H vs Q E hr h=> ?_)
  · obtain ⟨a,cs,l,rfl,_⟩:=h;rfl
  · obtain ⟨a,cs,l,rfl,sa,hl,hc,k⟩:=h;refine ⟨_,(Af (An (Ag c_union_of (hr.mono (by decide)) (Aa (AM (CG (K:=K) (Ag c_numbers_of hr (Aa (pv 1) Ab))) (λ _ _ _ _=>AK) (λ _ _ _ _=>(A7 (Fg (K:=K)) (pv 1) (Aj E4 (pv 0) Ac) (λ _ _=>rfl)))) Ab)))),?_⟩;walk_at "w";refine ⟨l,rfl,Ab4 hl (Ag1 (Nat.zero_lt_two) hc),λ H1 p s1 hp h1=> ?_⟩;walk_at "w";refine ⟨p,rfl,⟨_,SqL.of h1⟩,λ D hD=> ?_⟩;have hn:=MM.nOf_len hl;refine B4 (G:=λ i=>((cs.getD ((MM.nOf l).getD i 0 - 1) 0:Nat):Int)) (Bl (SqL.of h1) rfl) hD (by rw [Aa2];omega) ?_ ?_
    · intro i H' R hi s kk;have hi':i<(MM.nOf l).length:=by simpa using hi
      obtain ⟨m1,m2⟩:=(MM.nOf_mem l _).mp (getD_mem (y:=0) hi');have m3:(MM.nOf l).getD i 0 - 1<cs.length:=by
        rcases Nat.lt_or_ge ((MM.nOf l).getD i 0 - 1) cs.length with z | z
        · exact z
        · rw [Ag6 (Ab4 hl (Ag1 (by decide) z))] at m2;cases m2
      rw [Ed hi];walk_at "w";refine Ax (SqS.same (tp:=false) (SqS.same (tp:=false) sa s1) s) (LX (by omega) (by omega)) ?_;rw [show ((((MM.nOf l).getD i 0:Nat):Int) - 1).toNat=(MM.nOf l).getD i 0 - 1 by omega];exact kk H' (Same.refl _)
    · intro H' s hl2;rw [GI,Aa2] at hl2;walk_at "w";refine ⟨false,D,_,rfl,SqL.of hl2,λ H2 s2=> ?_⟩;rw [Ef (λ s=>cs.getD (s - 1) 0) (MM.nOf l) 0];exact k H2 (s1.trans (s.trans s2))
def Hs (d:Dr):List Nat:=d.td.map λ ks=>NK ((Aa9 d.sh).map λ i=>KA d.th (i+1)) (EW d.ti ks)
theorem NC (ti:List (List Nat)) (ks:List Nat) (i:Nat):(EW ti ks).testBit i=ks.any λ k=>((ti.map MM.mOf).getD (k - 1) 0).testBit i:=by
  unfold EW;rw [MM.uOf_bit,List.any_map];rfl
theorem LG {d:Dr} (ok:DrOk d) (ks:List Nat):EW d.ti ks<2 ^ d.sh:=by
  refine Nat.lt_pow_two_of_testBit _ λ i hi=> ?_;rw [NC,List.any_eq_false];intro k _;by_cases h:k - 1<d.ti.length
  · rw [AX MM.mOf d.ti (k - 1) 0 [] h];have hr:=(ok.ir _ (getD_mem (y:=[]) h)).le;rw [Ag6 (Ab4 (MM.mOf_lt (w:=d.sh) λ n hn=>by have:=hr n hn;omega) (Ag1 (by decide) hi))];simp
  · rw [Aa3,List.getElem?_eq_none (by simp;omega)];simp
theorem RG {th:List Nat} {s l:Nat} (hl:l<2 ^ s):NK ((Aa9 s).map λ i=>KA th (i+1)) l<2 ^ th.length:=by
  refine Nat.lt_pow_two_of_testBit _ λ i hi=> ?_;unfold NK;rw [MM.uOf_bit,List.any_eq_false];intro n hn;obtain ⟨k,hk,rfl⟩:=Ad0.mp hn;by_cases h:k - 1<s
  · rw [AX (λ i=>KA th (i+1)) (Aa9 s) (k - 1) 0 0 (by simpa using h)];unfold KA;rw [Ag6 (Ab4 (MM.ofB_lt _ _) (Ag1 (by decide) hi))];simp
  · rw [Aa3,List.getElem?_eq_none (by simp;omega)];simp
theorem Tz {d:Dr} (ok:DrOk d):ClOk d.th.length (Hs d) where
  n1:=ok.h1
  n2:=ok.h2
  p1:=by unfold Hs;rw [Aa2];exact ok.p1
  p2:=by unfold Hs;rw [Aa2];exact ok.p2
  lt:=λ r hr=>by
    unfold Hs at hr;obtain ⟨ks,hk,rfl⟩:=Ad0.mp hr;exact RG (LG ok ks)
def Lv (c:Cs):Sp:=λ vs H Q _=>∃ x d,vs=[.ref x]/\DrAt c.Draft H x d/\DrOk d/\∀ H' y,Same H H'->H y=none->N1 c.Cloth H' y d.th.length (Hs d)->Q (.ref y) H'
abbrev Kw:Stmt:=top 46
theorem sc_woven:FnScope ["draft","carried"] ["draft"] (Ah Kw):=⟨rfl,rfl,rfl,by decide +kernel,rfl,by decide +kernel,by decide +kernel⟩
theorem Qe {f:Addr} {fd:FuncData} (F:Fun K "woven" "woven" Kw f fd) (T:Txt K mg c) (c_shaft_ends:Az P w K mg base "shaft_ends" 4 ["threading","shafts"] (FC K)) (d_Draft_ends:Bm P w K mg base c.Draft "ends" 1 ["self"] (BR c)) (c_row_by:Az P w K mg base "row_by" 4 ["carried","lift"] (Kh K)) (c_lifts_of:Az P w K mg base "lifts_of" 3 ["draft"] (E6 c)) (m_Cloth:Ga P w K mg base "Cloth" c.Cloth 4 ["self","ends","rows"] (B7 K c)):FnOk P w K mg base CX0 6 f fd ["draft"] (Lv c):=by
  refine F.ok sc_woven (λ vs H Q E h=> ?_) (λ cdv A outer s H vs Q E hr h=> ?_)
  · obtain ⟨x,d,rfl,_⟩:=h;rfl
  · obtain ⟨x,d,rfl,D0,ok,k⟩:=h;have D1:=D0;obtain ⟨dx,v1,v2,v3,v4,v5,h0,h1,h2,h3,h4,h5⟩:=D0;obtain ⟨a1,rfl,e1,b1⟩:=Dq h1;refine ⟨_,(Ad (Ap (i:=1) sc_woven.nd rfl (Or.inr rfl) (Ag c_shaft_ends (hr.mono (by decide)) (Aa (Au (K:=K) (pv 0) rfl) (Aa (Au (K:=K) (pv 0) rfl) Ab))))
      (Af (An (Eb m_Cloth hr IE (Aa (AQ (pv 0) d_Draft_ends (hr.mono (by decide))) (Aa (AM (CG (K:=K) (Ag c_lifts_of (hr.mono (by decide)) (Aa (pv 0) Ab))) (λ _ _ _ _=>AK) (λ _ _ _ _=>(Ag c_row_by (hr.mono (by decide)) (Aa (pv 1) (Aa (pv 0) Ab))))) Ab)))))),?_⟩
    walk_at "w";refine ⟨_,_,_,_,_,rfl,h0,T.kd_Draft.cl,T.na_Draft_threading,rfl,?_⟩;walk_at "w";refine ⟨_,_,_,_,_,rfl,h0,T.kd_Draft.cl,T.na_Draft_shafts,rfl,?_⟩;walk_at "w";refine ⟨a1,true,d.th,d.sh,rfl,SqT.of e1,by have:=ok.h2;omega,by have:=ok.s2;omega,λ H1 p1 s1 hp1 q1=> ?_⟩;walk_at "w";refine ⟨_,_,_,rfl,s1 _ _ h0,rfl,?_⟩;walk_at "w";refine ⟨x,d,rfl,D1.same s1,?_⟩;walk_at "w";refine ⟨x,d,rfl,D1.same s1,ok,λ H2 p2 s2 hp2 q2=> ?_⟩;walk_at "w";refine ⟨p2,rfl,⟨_,SqL.of q2⟩,λ D hD=> ?_⟩;have hp2l:d.td.length<=60:=ok.p2;refine B4 (G:=λ i=>((NK ((Aa9 d.sh).map λ i=>KA d.th (i+1)) (EW d.ti (d.td.getD i [])):Nat):Int)) (Bl (SqL.of q2) rfl) hD (by simp;omega) ?_ ?_
    · intro i H' R hi s kk;have hi':i<d.td.length:=by simpa using hi
      rw [Ed hi,AX (EW d.ti) d.td i 0 [] hi'];walk_at "w";exact ⟨p1,_,_,rfl,SqL.of (s _ _ (s2 _ _ q1)),by rw [Aa2,List.length_range];exact LG ok _,by rw [Aa2,List.length_range];have:=ok.s2;omega,kk⟩
    · intro H3 s3 hl3;rw [GI,Aa2,Aa2,Ef (λ ks=>NK ((Aa9 d.sh).map λ i=>KA d.th (i+1)) (EW d.ti ks)) d.td []] at hl3;walk_at "w";refine QJ hl3 (Tz ok) λ H4 y s4 hy c4=> ?_;exact k H4 y (s1.trans (s2.trans (s3.trans s4))) (s1.free (s2.free (s3.free hy))) c4
structure KindF (K:PySem.W.Frag) (c:Cs) (C:Addr) (j:Nat):Prop where
  lt:j<8
  xk:HT.ExcKind K C
  k0:PySem.W.kitOne K (.ref C) (.ref c.BadRow)=some (decide (j=0))
  k1:PySem.W.kitOne K (.ref C) (.ref c.BadWord)=some (decide (j=1))
  k2:PySem.W.kitOne K (.ref C) (.ref c.TooMany)=some (decide (j=2))
  k3:PySem.W.kitOne K (.ref C) (.ref c.NotPlain)=some (decide (j=3))
  k4:PySem.W.kitOne K (.ref C) (.ref c.NotGrown)=some (decide (j=4))
  k5:PySem.W.kitOne K (.ref C) (.ref c.BadDraft)=some (decide (j=5))
  k6:PySem.W.kitOne K (.ref C) (.ref c.BadCloth)=some (decide (j=6))
  k7:PySem.W.kitOne K (.ref C) (.ref c.OutOfPlace)=some (decide (j=7))
  kv:PySem.W.kitOne K (.ref C) (.type "ValueError")=some true
def nmK (j:Nat):Str:=[("row":Str),("word":Str),("many":Str),("plain":Str),("grown":Str),("draft":Str),("cloth":Str),("place":Str),("other":Str)].getD j ""
def DO (K:PySem.W.Frag) (c:Cs):Sp:=λ vs H Q _=>∃ a C od j,vs=[.ref a]/\H a=some (Ie a C od)/\KindF K c C j/\∀ H' l,Same H H'->H l=none->H' l=some (.lst [.str (nmK j)])->Q (.ref l) H'
theorem S7 (j:Nat) (h:j<8):((Aa9 9).filter λ i=>decide (i=j)).map (λ i=>Dt.str (nmK i))=[nmK j].map Dt.str:=by
  match j,h with
  | 0,_=>rfl
  | 1,_=>rfl
  | 2,_=>rfl
  | 3,_=>rfl
  | 4,_=>rfl
  | 5,_=>rfl
  | 6,_=>rfl
  | 7,_=>rfl
abbrev EJ:Stmt:=top 59
theorem sc__law_kinds:FnScope ["_law_error","_law_kinds_here"] ["_law_error"] (Ah EJ):=⟨rfl,rfl,rfl,by decide +kernel,rfl,by decide +kernel,by decide +kernel⟩
theorem JW {f:Addr} {fd:FuncData} (F:Fun K "_law_kinds" "_law_kinds" EJ f fd) (T:Txt K mg c):FnOk P w K mg base CX0 1 f fd ["_law_error"] (DO K c):=by
  refine F.ok sc__law_kinds (λ vs H Q E h=> ?_) (λ cdv A outer s H vs Q E hr h=> ?_)
  · obtain ⟨a,C,od,j,rfl,_⟩:=h;rfl
  · obtain ⟨a,C,od,j,rfl,ha,F1,k⟩:=h;refine ⟨_,(Ad (Ap (i:=1) sc__law_kinds.nd rfl (Or.inl rfl) (Ar (Aa (A2 (Aa Al (Aa (Am (CY (K:=K)) rfl (T.own _ (by decide)) boot_isinstance (Aa (pv 0) (Aa (Gj T.g_BadRow) Ab))) Ab))) (Aa (A2 (Aa Al (Aa (Am (CY (K:=K)) rfl (T.own _ (by decide)) boot_isinstance (Aa (pv 0) (Aa (Gj T.g_BadWord) Ab))) Ab))) Ab))))
      (Ad (Ap (i:=1) sc__law_kinds.nd rfl (Or.inl rfl) (Aj (Fi (K:=K)) (pv 1) (Ar (Aa (A2 (Aa Al (Aa (Am (CY (K:=K)) rfl (T.own _ (by decide)) boot_isinstance (Aa (pv 0) (Aa (Gj T.g_TooMany) Ab))) Ab))) (Aa (A2 (Aa Al (Aa (Am (CY (K:=K)) rfl (T.own _ (by decide)) boot_isinstance (Aa (pv 0) (Aa (Gj T.g_NotPlain) Ab))) Ab))) Ab)))))
      (Ad (Ap (i:=1) sc__law_kinds.nd rfl (Or.inl rfl) (Aj (Fi (K:=K)) (pv 1) (Ar (Aa (A2 (Aa Al (Aa (Am (CY (K:=K)) rfl (T.own _ (by decide)) boot_isinstance (Aa (pv 0) (Aa (Gj T.g_NotGrown) Ab))) Ab))) (Aa (A2 (Aa Al (Aa (Am (CY (K:=K)) rfl (T.own _ (by decide)) boot_isinstance (Aa (pv 0) (Aa (Gj T.g_BadDraft) Ab))) Ab))) Ab)))))
      (Ad (Ap (i:=1) sc__law_kinds.nd rfl (Or.inl rfl) (Aj (Fi (K:=K)) (pv 1) (Ar (Aa (A2 (Aa Al (Aa (Am (CY (K:=K)) rfl (T.own _ (by decide)) boot_isinstance (Aa (pv 0) (Aa (Gj T.g_BadCloth) Ab))) Ab))) (Aa (A2 (Aa Al (Aa (Am (CY (K:=K)) rfl (T.own _ (by decide)) boot_isinstance (Aa (pv 0) (Aa (Gj T.g_OutOfPlace) Ab))) Ab))) Ab)))))
      (Ad (Ap (i:=1) sc__law_kinds.nd rfl (Or.inl rfl) (Aj (Fi (K:=K)) (pv 1) (Ar (Aa (A2 (Aa Al (Aa (Mf (Am (CY (K:=K)) rfl (T.own _ (by decide)) boot_isinstance (Aa (pv 0) (Aa (Ce rfl (T.own _ (by decide)) HQ) Ab)))) Ab))) Ab))))
      (Af (An (Fn (K:=K) (CG (K:=K) (pv 1)) (λ _ _ _ _=>(GH (A6 (pv 1)))) (λ _ _ _ _=>(pv 0)))))))))),?_⟩
    walk_at "w";refine CC ((Same.refl H) _ _ ha) F1.xk F1.k0 ?_;walk_at "w";intro t_row ht_row;have z1:=Ai (o:=HO.tup [V.str "row",V.bl (decide (j=0))]) ht_row;have g_t_row:upd H t_row (HO.tup [V.str "row",V.bl (decide (j=0))]) t_row=_:=Ae;generalize upd H t_row (HO.tup [V.str "row",V.bl (decide (j=0))])=H1 at z1 g_t_row ⊢;have y1:Same H H1:=(Same.refl H).trans z1;walk_at "w";refine CC (y1 _ _ ha) F1.xk F1.k1 ?_;walk_at "w";intro t_word ht_word;have z2:=Ai (o:=HO.tup [V.str "word",V.bl (decide (j=1))]) ht_word;have g_t_word:upd H1 t_word (HO.tup [V.str "word",V.bl (decide (j=1))]) t_word=_:=Ae;generalize upd H1 t_word (HO.tup [V.str "word",V.bl (decide (j=1))])=H2 at z2 g_t_word ⊢;have y2:Same H H2:=y1.trans z2;walk_at "w";intro l0 hl0;have z3:=Ai (o:=HO.lst [V.ref t_row,V.ref t_word]) hl0;have g_l0:upd H2 l0 (HO.lst [V.ref t_row,V.ref t_word]) l0=_:=Ae;generalize upd H2 l0 (HO.lst [V.ref t_row,V.ref t_word])=H3 at z3 g_l0 ⊢;have y3:Same H H3:=y2.trans z3;walk_at "w";refine CC (y3 _ _ ha) F1.xk F1.k2 ?_;walk_at "w";intro t_many ht_many;have z4:=Ai (o:=HO.tup [V.str "many",V.bl (decide (j=2))]) ht_many;have g_t_many:upd H3 t_many (HO.tup [V.str "many",V.bl (decide (j=2))]) t_many=_:=Ae;generalize upd H3 t_many (HO.tup [V.str "many",V.bl (decide (j=2))])=H4 at z4 g_t_many ⊢;have y4:Same H H4:=y3.trans z4;walk_at "w";refine CC (y4 _ _ ha) F1.xk F1.k3 ?_;walk_at "w";intro t_plain ht_plain;have z5:=Ai (o:=HO.tup [V.str "plain",V.bl (decide (j=3))]) ht_plain;have g_t_plain:upd H4 t_plain (HO.tup [V.str "plain",V.bl (decide (j=3))]) t_plain=_:=Ae;generalize upd H4 t_plain (HO.tup [V.str "plain",V.bl (decide (j=3))])=H5 at z5 g_t_plain ⊢;have y5:Same H H5:=y4.trans z5;walk_at "w";intro l1 hl1;have z6:=Ai (o:=HO.lst [V.ref t_many,V.ref t_plain]) hl1;have g_l1:upd H5 l1 (HO.lst [V.ref t_many,V.ref t_plain]) l1=_:=Ae;generalize upd H5 l1 (HO.lst [V.ref t_many,V.ref t_plain])=H6 at z6 g_l1 ⊢;have y6:Same H H6:=y5.trans z6;walk_at "w";refine Dn (SqL.of (z6 _ _ (z5 _ _ (z4 _ _ g_l0)))) (SqL.of g_l1) (by simp) λ m1 hm1=> ?_;have z7:=Ai (o:=HO.lst ([V.ref t_row,V.ref t_word]++[V.ref t_many,V.ref t_plain])) hm1;have g_m1:upd H6 m1 (HO.lst ([V.ref t_row,V.ref t_word]++[V.ref t_many,V.ref t_plain])) m1=some (.lst [V.ref t_row,V.ref t_word,V.ref t_many,V.ref t_plain]):=Ae;generalize upd H6 m1 (HO.lst ([V.ref t_row,V.ref t_word]++[V.ref t_many,V.ref t_plain]))=H7 at z7 g_m1 ⊢;have y7:Same H H7:=y6.trans z7;walk_at "w";refine CC (y7 _ _ ha) F1.xk F1.k4 ?_;walk_at "w";intro t_grown ht_grown;have z8:=Ai (o:=HO.tup [V.str "grown",V.bl (decide (j=4))]) ht_grown;have g_t_grown:upd H7 t_grown (HO.tup [V.str "grown",V.bl (decide (j=4))]) t_grown=_:=Ae;generalize upd H7 t_grown (HO.tup [V.str "grown",V.bl (decide (j=4))])=H8 at z8 g_t_grown ⊢;have y8:Same H H8:=y7.trans z8;walk_at "w";refine CC (y8 _ _ ha) F1.xk F1.k5 ?_;walk_at "w";intro t_draft ht_draft;have z9:=Ai (o:=HO.tup [V.str "draft",V.bl (decide (j=5))]) ht_draft;have g_t_draft:upd H8 t_draft (HO.tup [V.str "draft",V.bl (decide (j=5))]) t_draft=_:=Ae;generalize upd H8 t_draft (HO.tup [V.str "draft",V.bl (decide (j=5))])=H9 at z9 g_t_draft ⊢;have y9:Same H H9:=y8.trans z9;walk_at "w";intro l2 hl2;have z10:=Ai (o:=HO.lst [V.ref t_grown,V.ref t_draft]) hl2;have g_l2:upd H9 l2 (HO.lst [V.ref t_grown,V.ref t_draft]) l2=_:=Ae;generalize upd H9 l2 (HO.lst [V.ref t_grown,V.ref t_draft])=H10 at z10 g_l2 ⊢;have y10:Same H H10:=y9.trans z10;walk_at "w";refine Dn (SqL.of (z10 _ _ (z9 _ _ (z8 _ _ g_m1)))) (SqL.of g_l2) (by simp) λ m2 hm2=> ?_;have z11:=Ai (o:=HO.lst ([V.ref t_row,V.ref t_word,V.ref t_many,V.ref t_plain]++[V.ref t_grown,V.ref t_draft])) hm2;have g_m2:upd H10 m2 (HO.lst ([V.ref t_row,V.ref t_word,V.ref t_many,V.ref t_plain]++[V.ref t_grown,V.ref t_draft])) m2=some (.lst [V.ref t_row,V.ref t_word,V.ref t_many,V.ref t_plain,V.ref t_grown,V.ref t_draft]):=Ae;generalize upd H10 m2 (HO.lst ([V.ref t_row,V.ref t_word,V.ref t_many,V.ref t_plain]++[V.ref t_grown,V.ref t_draft]))=H11 at z11 g_m2 ⊢;have y11:Same H H11:=y10.trans z11;walk_at "w";refine CC (y11 _ _ ha) F1.xk F1.k6 ?_;walk_at "w";intro t_cloth ht_cloth;have z12:=Ai (o:=HO.tup [V.str "cloth",V.bl (decide (j=6))]) ht_cloth;have g_t_cloth:upd H11 t_cloth (HO.tup [V.str "cloth",V.bl (decide (j=6))]) t_cloth=_:=Ae;generalize upd H11 t_cloth (HO.tup [V.str "cloth",V.bl (decide (j=6))])=H12 at z12 g_t_cloth ⊢;have y12:Same H H12:=y11.trans z12;walk_at "w";refine CC (y12 _ _ ha) F1.xk F1.k7 ?_;walk_at "w";intro t_place ht_place;have z13:=Ai (o:=HO.tup [V.str "place",V.bl (decide (j=7))]) ht_place;have g_t_place:upd H12 t_place (HO.tup [V.str "place",V.bl (decide (j=7))]) t_place=_:=Ae;generalize upd H12 t_place (HO.tup [V.str "place",V.bl (decide (j=7))])=H13 at z13 g_t_place ⊢;have y13:Same H H13:=y12.trans z13;walk_at "w";intro l3 hl3;have z14:=Ai (o:=HO.lst [V.ref t_cloth,V.ref t_place]) hl3;have g_l3:upd H13 l3 (HO.lst [V.ref t_cloth,V.ref t_place]) l3=_:=Ae;generalize upd H13 l3 (HO.lst [V.ref t_cloth,V.ref t_place])=H14 at z14 g_l3 ⊢;have y14:Same H H14:=y13.trans z14;walk_at "w";refine Dn (SqL.of (z14 _ _ (z13 _ _ (z12 _ _ g_m2)))) (SqL.of g_l3) (by simp) λ m3 hm3=> ?_;have z15:=Ai (o:=HO.lst ([V.ref t_row,V.ref t_word,V.ref t_many,V.ref t_plain,V.ref t_grown,V.ref t_draft]++[V.ref t_cloth,V.ref t_place])) hm3;have g_m3:upd H14 m3 (HO.lst ([V.ref t_row,V.ref t_word,V.ref t_many,V.ref t_plain,V.ref t_grown,V.ref t_draft]++[V.ref t_cloth,V.ref t_place])) m3=some (.lst [V.ref t_row,V.ref t_word,V.ref t_many,V.ref t_plain,V.ref t_grown,V.ref t_draft,V.ref t_cloth,V.ref t_place]):=Ae;generalize upd H14 m3 (HO.lst ([V.ref t_row,V.ref t_word,V.ref t_many,V.ref t_plain,V.ref t_grown,V.ref t_draft]++[V.ref t_cloth,V.ref t_place]))=H15 at z15 g_m3 ⊢;have y15:Same H H15:=y14.trans z15;walk_at "w";refine NU (y15 _ _ ha) F1.xk F1.kv ?_;walk_at "w";intro t_other ht_other;have z16:=Ai (o:=HO.tup [V.str "other",V.bl (!true)]) ht_other;have g_t_other:upd H15 t_other (HO.tup [V.str "other",V.bl (!true)]) t_other=some (.tup [V.str "other",V.bl false]):=Ae;generalize upd H15 t_other (HO.tup [V.str "other",V.bl (!true)])=H16 at z16 g_t_other ⊢;have y16:Same H H16:=y15.trans z16;walk_at "w";intro l4 hl4;have z17:=Ai (o:=HO.lst [V.ref t_other]) hl4;have g_l4:upd H16 l4 (HO.lst [V.ref t_other]) l4=_:=Ae;generalize upd H16 l4 (HO.lst [V.ref t_other])=H17 at z17 g_l4 ⊢;have y17:Same H H17:=y16.trans z17;walk_at "w";refine Dn (SqL.of (z17 _ _ (z16 _ _ g_m3))) (SqL.of g_l4) (by simp) λ m4 hm4=> ?_;have z18:=Ai (o:=HO.lst ([V.ref t_row,V.ref t_word,V.ref t_many,V.ref t_plain,V.ref t_grown,V.ref t_draft,V.ref t_cloth,V.ref t_place]++[V.ref t_other])) hm4;have g_m4:upd H17 m4 (HO.lst ([V.ref t_row,V.ref t_word,V.ref t_many,V.ref t_plain,V.ref t_grown,V.ref t_draft,V.ref t_cloth,V.ref t_place]++[V.ref t_other])) m4=some (.lst [V.ref t_row,V.ref t_word,V.ref t_many,V.ref t_plain,V.ref t_grown,V.ref t_draft,V.ref t_cloth,V.ref t_place,V.ref t_other]):=Ae;generalize upd H17 m4 (HO.lst ([V.ref t_row,V.ref t_word,V.ref t_many,V.ref t_plain,V.ref t_grown,V.ref t_draft,V.ref t_cloth,V.ref t_place]++[V.ref t_other]))=H18 at z18 g_m4 ⊢;have y18:Same H H18:=y17.trans z18;walk_at "w";refine ⟨m4,rfl,⟨_,SqL.of g_m4⟩,λ D hD=> ?_⟩;have pr:∀ i,i<9->∃ b,[V.ref t_row,V.ref t_word,V.ref t_many,V.ref t_plain,V.ref t_grown,V.ref t_draft,V.ref t_cloth,V.ref t_place,V.ref t_other].getD i V.non= .ref b/\H18 b=some (.tup [([(V.str "row",V.bl (decide (j=0))),(V.str "word",V.bl (decide (j=1))),(V.str "many",V.bl (decide (j=2))),(V.str "plain",V.bl (decide (j=3))),(V.str "grown",V.bl (decide (j=4))),(V.str "draft",V.bl (decide (j=5))),(V.str "cloth",V.bl (decide (j=6))),(V.str "place",V.bl (decide (j=7))),(V.str "other",V.bl false)].getD i (V.non,V.non)).1,([(V.str "row",V.bl (decide (j=0))),(V.str "word",V.bl (decide (j=1))),(V.str "many",V.bl (decide (j=2))),(V.str "plain",V.bl (decide (j=3))),(V.str "grown",V.bl (decide (j=4))),(V.str "draft",V.bl (decide (j=5))),(V.str "cloth",V.bl (decide (j=6))),(V.str "place",V.bl (decide (j=7))),(V.str "other",V.bl false)].getD i (V.non,V.non)).2]):=by
      intro i hi
      match i,hi with
      | 0,_=>exact ⟨t_row,rfl,(z18 _ _ (z17 _ _ (z16 _ _ (z15 _ _ (z14 _ _ (z13 _ _ (z12 _ _ (z11 _ _ (z10 _ _ (z9 _ _ (z8 _ _ (z7 _ _ (z6 _ _ (z5 _ _ (z4 _ _ (z3 _ _ (z2 _ _ g_t_row)))))))))))))))))⟩
      | 1,_=>exact ⟨t_word,rfl,(z18 _ _ (z17 _ _ (z16 _ _ (z15 _ _ (z14 _ _ (z13 _ _ (z12 _ _ (z11 _ _ (z10 _ _ (z9 _ _ (z8 _ _ (z7 _ _ (z6 _ _ (z5 _ _ (z4 _ _ (z3 _ _ g_t_word))))))))))))))))⟩
      | 2,_=>exact ⟨t_many,rfl,(z18 _ _ (z17 _ _ (z16 _ _ (z15 _ _ (z14 _ _ (z13 _ _ (z12 _ _ (z11 _ _ (z10 _ _ (z9 _ _ (z8 _ _ (z7 _ _ (z6 _ _ (z5 _ _ g_t_many))))))))))))))⟩
      | 3,_=>exact ⟨t_plain,rfl,(z18 _ _ (z17 _ _ (z16 _ _ (z15 _ _ (z14 _ _ (z13 _ _ (z12 _ _ (z11 _ _ (z10 _ _ (z9 _ _ (z8 _ _ (z7 _ _ (z6 _ _ g_t_plain)))))))))))))⟩
      | 4,_=>exact ⟨t_grown,rfl,(z18 _ _ (z17 _ _ (z16 _ _ (z15 _ _ (z14 _ _ (z13 _ _ (z12 _ _ (z11 _ _ (z10 _ _ (z9 _ _ g_t_grown))))))))))⟩
      | 5,_=>exact ⟨t_draft,rfl,(z18 _ _ (z17 _ _ (z16 _ _ (z15 _ _ (z14 _ _ (z13 _ _ (z12 _ _ (z11 _ _ (z10 _ _ g_t_draft)))))))))⟩
      | 6,_=>exact ⟨t_cloth,rfl,(z18 _ _ (z17 _ _ (z16 _ _ (z15 _ _ (z14 _ _ (z13 _ _ g_t_cloth))))))⟩
      | 7,_=>exact ⟨t_place,rfl,(z18 _ _ (z17 _ _ (z16 _ _ (z15 _ _ (z14 _ _ g_t_place)))))⟩
      | 8,_=>exact ⟨t_other,rfl,(z18 _ _ (z17 _ _ g_t_other))⟩
    have lt:=F1.lt;refine GP (m:=0) (p:=λ i=>decide (i=j)) (G:=λ i=> .str (nmK i)) (ND (ps:=[(V.str "row",V.bl (decide (j=0))),(V.str "word",V.bl (decide (j=1))),(V.str "many",V.bl (decide (j=2))),(V.str "plain",V.bl (decide (j=3))),(V.str "grown",V.bl (decide (j=4))),(V.str "draft",V.bl (decide (j=5))),(V.str "cloth",V.bl (decide (j=6))),(V.str "place",V.bl (decide (j=7))),(V.str "other",V.bl false)]) (SqL.of g_m4) pr rfl rfl) hD (by simp) ?_ ?_ ?_
    · intro i H' R hi s kk;have hi9:i<9:=hi
      match i,hi9 with
      | 0,_=>walk_at "w";exact ⟨_,rfl,by have e:decide (j=0)=decide (0=j):=decide_eq_decide.mpr eq_comm;rw [e];exact kk H' (Same.refl _)⟩
      | 1,_=>walk_at "w";exact ⟨_,rfl,by have e:decide (j=1)=decide (1=j):=decide_eq_decide.mpr eq_comm;rw [e];exact kk H' (Same.refl _)⟩
      | 2,_=>walk_at "w";exact ⟨_,rfl,by have e:decide (j=2)=decide (2=j):=decide_eq_decide.mpr eq_comm;rw [e];exact kk H' (Same.refl _)⟩
      | 3,_=>walk_at "w";exact ⟨_,rfl,by have e:decide (j=3)=decide (3=j):=decide_eq_decide.mpr eq_comm;rw [e];exact kk H' (Same.refl _)⟩
      | 4,_=>walk_at "w";exact ⟨_,rfl,by have e:decide (j=4)=decide (4=j):=decide_eq_decide.mpr eq_comm;rw [e];exact kk H' (Same.refl _)⟩
      | 5,_=>walk_at "w";exact ⟨_,rfl,by have e:decide (j=5)=decide (5=j):=decide_eq_decide.mpr eq_comm;rw [e];exact kk H' (Same.refl _)⟩
      | 6,_=>walk_at "w";exact ⟨_,rfl,by have e:decide (j=6)=decide (6=j):=decide_eq_decide.mpr eq_comm;rw [e];exact kk H' (Same.refl _)⟩
      | 7,_=>walk_at "w";exact ⟨_,rfl,by have e:decide (j=7)=decide (7=j):=decide_eq_decide.mpr eq_comm;rw [e];exact kk H' (Same.refl _)⟩
      | 8,_=>walk_at "w";exact ⟨_,rfl,by have e:false=decide (8=j):=(decide_eq_false (by omega)).symm;rw [e];exact kk H' (Same.refl _)⟩
    · intro i H' R hi hp s kk;have hi9:i<9:=hi
      match i,hi9 with
      | 0,_=>walk_at "w";exact kk H' _ (Same.refl _) (.str _)
      | 1,_=>walk_at "w";exact kk H' _ (Same.refl _) (.str _)
      | 2,_=>walk_at "w";exact kk H' _ (Same.refl _) (.str _)
      | 3,_=>walk_at "w";exact kk H' _ (Same.refl _) (.str _)
      | 4,_=>walk_at "w";exact kk H' _ (Same.refl _) (.str _)
      | 5,_=>walk_at "w";exact kk H' _ (Same.refl _) (.str _)
      | 6,_=>walk_at "w";exact kk H' _ (Same.refl _) (.str _)
      | 7,_=>walk_at "w";exact kk H' _ (Same.refl _) (.str _)
      | 8,_=>walk_at "w";exact kk H' _ (Same.refl _) (.str _)
    · intro H' ys s hl r;have e9:=S7 j lt;have r:Rp _ _ _ _ (.lst (((Aa9 9).filter λ i=>decide (i=j)).map (λ i=>Dt.str (nmK i)))):=r;rw [e9] at r;obtain ⟨b,eb,hb,_⟩:=LE (zs:=[nmK j]) r;cases eb;exact k H' D (y18.trans s) (y18.free hD) hb
def DW (x k:Int):Int:=(x%1000000007+7919*k+13)*(x%1000000007+7919*k+13)%1000000007*48271%2147483647
def FE:Sp:=λ vs H Q _=>∃ x k:Int,vs=[.int x, .int k]/\(0<=k/\k<=1000)/\Q (.int (DW x k)) H
abbrev Ep:Stmt:=top 58
theorem sc__law_mixed:FnScope ["_law_cell","_law_k"] ["_law_cell","_law_k"] (Ah Ep):=⟨rfl,rfl,rfl,by decide +kernel,rfl,by decide +kernel,by decide +kernel⟩
theorem JS {f:Addr} {fd:FuncData} (F:Fun K "_law_mixed" "_law_mixed" Ep f fd) (T:Txt K mg c):FnOk P w K mg base CX0 1 f fd ["_law_cell","_law_k"] FE:=by
  refine F.ok sc__law_mixed (λ vs H Q E h=> ?_) (λ cdv A outer s H vs Q E hr h=> ?_)
  · obtain ⟨x,k,rfl,_⟩:=h;rfl
  · obtain ⟨x,k,rfl,hk,q⟩:=h;refine ⟨_,(Ad (Ap (i:=0) sc__law_mixed.nd rfl (Or.inl rfl) (Aj AU (Aj AU (Aj AH (pv 0) Ac) (Aj Kz Ac (pv 1))) Ac))
      (Af (An (Aj AH (Aj Kz (Aj AH (Aj Kz (pv 0) (pv 0)) Ac) Ac) Ac)))),?_⟩
    have b1:=Ae0 x (show (1000000007:Int)≠0 by decide);have b2:=Ae3 x (show (0:Int)<1000000007 by decide);walk_at "w";refine AD (by decide) ?_;walk_at "w";refine AD (.inl ⟨by decide,by decide⟩) ?_;walk_at "w";refine AD (.inl ⟨?_,?_⟩) ?_
    · show -(2 ^ 64)<x%1000000007+7919*k+13;omega
    · show x%1000000007+7919*k+13<2 ^ 64;omega
    walk_at "w";refine AD (by decide) ?_;walk_at "w";refine AD (.inr ⟨by decide,by decide⟩) ?_;walk_at "w";refine AD (by decide) ?_;exact q
def Qb (n:Nat) (f:Int):Nat:=max 1 (min 60 (Builtin.Range.rangeSize f (n:Nat) 2).toNat)
def FG (K:PySem.W.Frag):Sp:=λ vs H Q _=>∃ (a:Addr) (ns:List Int) (f:Int),vs=[.ref a, .int f]/\SqL K H a (ns.map V.int)/\ns.length<=63/\0<=f/\f<=1/\∀ H' p (ms:List Int),Same H H'->H p=none->H' p=some (.lst (ms.map V.int))->1<=ms.length->ms.length<=60/\ms.length<=ns.length+1/\ms.length=Qb ns.length f->Q (.ref p) H'
theorem SO {f:Int} {n:Nat} {i:Nat} (f0:0<=f) (h:i<(Builtin.Range.rangeSize f (n:Nat) 2).toNat):f+i*2<n:=by
  unfold Builtin.Range.rangeSize at h;rw [if_pos (by decide)] at h;split at h
  · omega
  · simp at h
abbrev Et:Stmt:=top 61
theorem sc__law_cells:FnScope ["_law_script","_law_first","_law_found"] ["_law_script","_law_first"] (Ah Et):=⟨rfl,rfl,rfl,by decide +kernel,rfl,by decide +kernel,by decide +kernel⟩
theorem JC {f:Addr} {fd:FuncData} (F:Fun K "_law_cells" "_law_cells" Et f fd) (T:Txt K mg c):FnOk P w K mg base CX0 1 f fd ["_law_script","_law_first"] (FG K):=by
  refine F.ok sc__law_cells (λ vs H Q E h=> ?_) (λ cdv A outer s H vs Q E hr h=> ?_)
  · obtain ⟨a,ns,f,rfl,_⟩:=h;rfl
  · obtain ⟨a,ns,f,rfl,sa,hn,f0,f1,k⟩:=h;have hu:=hr.units0;refine ⟨_,(Ad (Ap (i:=2) sc__law_cells.nd rfl (Or.inl rfl) (A0 (FR (K:=K)) (AM (NM rfl (T.own _ (by decide)) (Aa (pv 1) (Aa (Am (CV (K:=K)) rfl (T.own _ (by decide)) boot_len (Aa (pv 0) Ab)) (Aa Ac Ab)))) (λ _ _ _ _=>AK) (λ _ _ _ _=>(A7 (Fg (K:=K)) (pv 1) (pv 0) (λ _ _=>rfl)))) Be (Bh Ac)))
      (Af (An (Aj (Fi (K:=K)) (pv 2) (Aj II (Ar (Aa (pv 1) Ab)) (AC SJ rfl (T.own _ (by decide)) boot_int (Aa (BO (Sa hu (K:=K)) (pv 2) (Ar Ab) (AB _)) Ab))))))),?_⟩
    walk_at "w";refine BU sa ?_;walk_at "w";refine ⟨_,_,_,rfl,⟨by omega,by omega⟩,⟨by omega,by rw [Aa2];omega⟩,⟨by decide,by decide⟩,by decide,λ D hD=> ?_⟩;rw [Aa2];have hb:∀ i:Nat,i<(Builtin.Range.rangeSize f (ns.length:Nat) 2).toNat->f+i*2<ns.length:=λ i hi=>SO f0 hi;have hsz:(Builtin.Range.rangeSize f (ns.length:Nat) 2).toNat<=63:=by
      have:=O1 f (ns.length:Nat) 2 (by decide);omega
    have hce:Qb ns.length f=max 1 (min 60 (Builtin.Range.rangeSize f (ns.length:Nat) 2).toNat):=rfl;generalize (Builtin.Range.rangeSize f (ns.length:Nat) 2).toNat=n at hb hsz hce ⊢;refine B4 (G:=λ i=>ns.getD (f+i*2).toNat 0) (Mi rfl) hD (by omega) ?_ ?_
    · intro i H' R hi s kk;have:=hb i hi;walk_at "w";refine Ax (SqS.same (tp:=false) sa s) (Ry (by omega) (by omega)) ?_;exact kk H' (Same.refl _)
    intro H1 s1 hl1;have hn1:n<=ns.length:=by
      rcases Nat.eq_zero_or_pos n with z | z
      · omega
      · have:=hb (n - 1) (by omega);omega
    have lms:((Aa9 n).map λ i:Nat=>ns.getD (f+i*2).toNat 0).length<=ns.length/\((Aa9 n).map λ i:Nat=>ns.getD (f+i*2).toNat 0).length=n:=by simpa using hn1
    generalize (Aa9 n).map (λ i:Nat=>ns.getD (f+i*2).toNat 0)=ms at hl1 lms;walk_at "w";refine DC (SqL.of hl1) λ q hq=> ?_;rw [DP (by decide), <-List.map_take];have s2:=Ai (o:=HO.lst ((ms.take (60:Int).toNat).map V.int)) hq;have h2:upd H1 q (HO.lst ((ms.take (60:Int).toNat).map V.int)) q=_:=Ae;have s12:=s1.trans s2;generalize upd H1 q (HO.lst ((ms.take (60:Int).toNat).map V.int))=H2 at s12 h2 ⊢;have hms:(ms.take (60:Int).toNat).length<=60/\(ms.take (60:Int).toNat).length<=ns.length/\(ms.take (60:Int).toNat).length=min 60 n:=by rw [Ad1,lms.2];exact ⟨Nat.min_le_left _ _,Ab8 (Nat.min_le_right _ _) hn1,rfl⟩
    generalize ms.take (60:Int).toNat=ts at h2 hms ⊢;walk_at "w";intro p hp;walk_at "w";have s3:=Ai (o:=HO.lst [V.int f]) hp;have h3:upd H2 p (HO.lst [V.int f]) p=some (.lst [V.int f]):=Ae;have s13:=s12.trans s3;replace h2:=s3 _ _ h2;generalize upd H2 p (HO.lst [V.int f])=H3 at s13 h2 h3 ⊢;intro p4 hp4;walk_at "w";have s4:=Ai (o:=HO.lst []) hp4;have s14:=s13.trans s4;replace h2:=s4 _ _ h2;replace h3:=s4 _ _ h3;have h4:upd H3 p4 (HO.lst []) p4=_:=Ae;generalize upd H3 p4 (HO.lst [])=H4 at s14 h2 h3 h4 ⊢;refine Rg (bs:=[]) (SqL.of h2) (SqL.of h4) ?_;walk_at "w";refine ⟨_,rfl,?_⟩;have hb2:(0:Int)<=(if decide (ts=[])=true then 1 else 0)/\(if decide (ts=[])=true then (1:Int) else 0)<=1:=by split <;> decide
    refine IL h3 hb2.1 (by omega) (by simp) λ p5 hp5=> ?_;walk_at "w";have e5:(Ab1 (if decide (ts=[])=true then (1:Int) else 0).toNat [V.int f]).flatten=(if ts=[] then [f] else []).map V.int:=by
      by_cases z:ts=[]
      · simp [z]
      · simp [z]
    rw [e5];have s5:=Ai (o:=HO.lst ((if ts=[] then [f] else []).map V.int)) hp5;have h5:upd H4 p5 (HO.lst ((if ts=[] then [f] else []).map V.int)) p5=_:=Ae;replace h2:=s5 _ _ h2;have s15:=s14.trans s5;generalize upd H4 p5 (HO.lst ((if ts=[] then [f] else []).map V.int))=H5 at s15 h2 h5 ⊢;have hlen:1<=(ts++(if ts=[] then [f] else [])).length/\(ts++(if ts=[] then [f] else [])).length<=60/\(ts++(if ts=[] then [f] else [])).length<=ns.length+1/\(ts++(if ts=[] then [f] else [])).length=Qb ns.length f:=by
      by_cases z:ts=[]
      · rw [z] at hms;simp [z,hce];simp at hms;omega
      · have:1<=ts.length:=by
          cases ts with
          | nil=>exact absurd rfl z
          | cons _ _=>simp
        simp [z];omega
    refine Dn (SqL.of h2) (SqL.of h5) (by have:=hlen.2.1;rw [Ac7] at this;simp only [Aa2];omega) λ p6 hp6=> ?_;rw [<-List.map_append];exact k _ p6 _ (s15.trans (Ai hp6)) (s15.free hp6) Ae hlen.1 hlen.2
def IW (m w:Nat):List Nat:=((Aa9 w).filter m.testBit).map (· + 1)
theorem Hj (p:Nat->Bool):∀ w,Rise w (((Aa9 w).filter p).map (· + 1)):=by
  intro w;have key:∀ w,(∀ n∈((Aa9 w).filter p).map (· + 1),1<=n/\n<=w)/\(((Aa9 w).filter p).map (· + 1)).Pairwise (· < ·):=by
    intro w;refine ⟨λ n hn=> ?_,?_⟩
    · obtain ⟨k,hk,rfl⟩:=Ad0.mp hn;have:=Af1.mp (Ah4.mp hk).1;omega
    · rw [List.pairwise_map];exact ((List.pairwise_lt_range).filter p).imp (λ h=>Nat.succ_lt_succ h)
  obtain ⟨k1,k2⟩:=key w;generalize ((Aa9 w).filter p).map (· + 1)=ns at k1 k2;intro i hi;have e:ns.getD i 0=ns[i]:=by simp [Aa3,hi]
  have m1:=k1 _ (List.getElem_mem hi);rw [e];refine ⟨?_,m1.2⟩;cases i with
  | zero=>simpa using m1.1
  | succ i=>
    have e2:(0::ns).getD (i+1) 0=ns[i]:=by
      show ns.getD i 0=ns[i];simp [Aa3,(show i<ns.length by omega)]
    rw [e2];exact (List.pairwise_iff_getElem.mp k2) i (i+1) (by omega) hi (by omega)
def EM:Sp:=λ vs H Q _=>∃ m w:Nat,vs=[nV m,nV w]/\w<=100/\∀ H' p,Same H H'->H p=none->H' p=some (.lst ((IW m w).map nV))->Q (.ref p) H'
theorem QD (m i:Nat):decide ((((m >>> i) &&& 1:Nat):Int)=1)=m.testBit i:=by
  have h:((m >>> i) &&& 1)=(m.testBit i).toNat:=by
    rw [Nat.and_one_is_mod,Nat.shiftRight_eq_div_pow,MM.bit_div]
  rw [h];cases m.testBit i <;> rfl
abbrev Dh:Stmt:=top 62
theorem HF:FnScope ["_law_mask","_law_most"] ["_law_mask","_law_most"] (Ah Dh):=⟨rfl,rfl,rfl,by decide +kernel,rfl,by decide +kernel,by decide +kernel⟩
theorem HL {f:Addr} {fd:FuncData} (F:Fun K "_law_numbers" "_law_numbers" Dh f fd) (T:Txt K mg c):FnOk P w K mg base CX0 1 f fd ["_law_mask","_law_most"] EM:=by
  refine F.ok HF (λ vs H Q E h=> ?_) (λ cdv A outer s H vs Q E hr h=> ?_)
  · obtain ⟨m,w,rfl,_⟩:=h;rfl
  · obtain ⟨m,w,rfl,hw,k⟩:=h;refine ⟨_,(Af (An (AM (Fs rfl (T.own _ (by decide)) (Aa (pv 1) Ab)) (λ _ _ _ _=>(GH (AE Bv (Aj O3 (Aj S8 (pv 1) (pv 0)) Ac) Ac (AB _)))) (λ _ _ _ _=>(Aj AU (pv 0) Ac))))),?_⟩;walk_at "w";refine ⟨_,rfl,by omega,by omega,λ D hD=> ?_⟩;rw [Ae1];refine FV (p:=m.testBit) (G:=λ i=>(i:Int)+1) (Jh rfl) hD (by omega) ?_ ?_ ?_
    · intro i H' R hi s kk;walk_at "w";refine AD (by show (0:Int)<=_;omega) ?_;walk_at "w";have e:((m:Nat):Int) / 2 ^ (((i:Nat):Int)).toNat=((m >>> i:Nat):Int):=by
        rw [Ae1,Nat.shiftRight_eq_div_pow];push_cast;rfl
      rw [e,show (1:Int)=((1:Nat):Int) from rfl,bA];walk_at "w";rw [show (((1:Nat):Int))=(1:Int) from rfl,QD];exact kk H' (Same.refl _)
    · intro i H' R hi hp s kk;walk_at "w";exact kk H' (Same.refl _)
    · intro H' s hl;refine k H' D s hD ?_;rw [hl];unfold IW;rw [Ae8,Ae8];rfl
def BL:Nat->Sp
  | 0=>λ _ _ _ _=>False
  | n+1=>λ vs H Q _=>∃ v d,vs=[v]/\Rp H FT n v d/\∀ H' r,Same H H'->Rp H' (FN H) n r d->Q r H'
abbrev CA:Stmt:=top 64
theorem Iq:FnScope ["_law_thing"] ["_law_thing"] (Ah CA):=⟨rfl,rfl,rfl,by decide +kernel,rfl,by decide +kernel,by decide +kernel⟩
theorem HH {n:Nat} {f:Addr} {fd:FuncData} (F:Fun K "_law_copied" "_law_copied" CA f fd) (T:Txt K mg c) (c__law_copied:Az P w K mg base "_law_copied" (n+1) ["_law_thing"] (BL n)):FnOk P w K mg base CX0 (n+2) f fd ["_law_thing"] (BL (n+1)):=by
  refine F.ok Iq (λ vs H Q E h=> ?_) (λ cdv A outer s H vs Q E hr h=> ?_)
  · obtain ⟨v,d,rfl,_⟩:=h;rfl
  · obtain ⟨v,d,rfl,rv,k⟩:=h;refine ⟨_,(Ad (Bb (A6 (Am (BY (K:=K)) rfl (T.own _ (by decide)) boot_isinstance (Aa (pv 0) (Aa (Ce rfl (T.own _ (by decide)) AA) Ab)))) (Af (An (AM (CG (K:=K) (pv 0)) (λ _ _ _ _=>AK) (λ _ _ _ _=>(Ag c__law_copied hr (Aa (pv 0) Ab)))))) A9)
      (Ad (Bb (A6 (Am (BY (K:=K)) rfl (T.own _ (by decide)) boot_isinstance (Aa (pv 0) (Aa (Ce rfl (T.own _ (by decide)) AN) Ab)))) (Af (An (AC (C2 (K:=K)) rfl (T.own _ (by decide)) AN (Aa (AM (J4 (K:=K) (pv 0)) (λ _ _ _ _=>AK) (λ _ _ _ _=>(Ag c__law_copied hr (Aa (pv 0) Ab)))) Ab)))) A9)
      (Af (An (pv 0))))),?_⟩
    walk_at "w";refine AS rv.ty (HU d) ?_;walk_at "w";refine SV (λ hc=> ?_) (λ hc=> ?_)
    · obtain ⟨m,a,xs,rfl,rfl,sa,la,ba,ea⟩:=rv.seq (K:=K) (by rw [hc];rfl);have ed:d= .lst (Bx d):=by cases d <;> first | rfl | cases hc
      have et:CW d=false:=by cases d <;> first | rfl | cases hc
      rw [et] at sa;walk_at "w";refine ⟨a,rfl,⟨_,sa⟩,λ D hD=> ?_⟩;refine Bc (m:=m) (G:=λ i=>(Bx d).getD i .non) (Bl sa rfl) hD ba ?_ ?_
      · intro i H' R hi s1 kk;walk_at "w";have hd:(Bx d)[i]?=some ((Bx d).getD i .non):=by
          rw [Aa3,Aa4 (by omega)];rfl
        have hx:xs[i]?=some (xs.getD i .non):=by
          rw [Aa3,Aa4 hi];rfl
        exact ⟨_,_,rfl,(ea i _ _ hx hd).same s1,kk⟩
      · intro H' ys s1 hl r;have e:(Aa9 xs.length).map (λ i=>(Bx d).getD i .non)=Bx d:=by
          rw [la];exact (AV id (Bx d) .non).trans (List.map_id _)
        rw [e, <-ed] at r;exact k H' _ s1 r
    · walk_at "w";refine AS rv.ty (Gn d) ?_;walk_at "w";refine SV (λ hc2=> ?_) (λ hc2=> ?_)
      · obtain ⟨m,a,xs,rfl,rfl,sa,la,ba,ea⟩:=rv.seq (K:=K) (by rw [hc2,Bool.or_true]);have ed:d= .tup (Bx d):=by cases d <;> first | rfl | cases hc2
        rw [hc2] at sa;walk_at "w";refine ⟨a,rfl,⟨_,sa⟩,λ D hD=> ?_⟩;refine Bc (m:=m) (G:=λ i=>(Bx d).getD i .non) (Fp sa rfl) hD ba ?_ ?_
        · intro i H' R hi s1 kk;walk_at "w";have hd:(Bx d)[i]?=some ((Bx d).getD i .non):=by
            rw [Aa3,Aa4 (by omega)];rfl
          have hx:xs[i]?=some (xs.getD i .non):=by
            rw [Aa3,Aa4 hi];rfl
          exact ⟨_,_,rfl,(ea i _ _ hx hd).same s1,kk⟩
        · intro H' ys s1 hl r;have e:(Aa9 xs.length).map (λ i=>(Bx d).getD i .non)=Bx d:=by
            rw [la];exact (AV id (Bx d) .non).trans (List.map_id _)
          rw [e] at r;walk_at "w";refine B8 (SqL.of hl) λ l hl2=> ?_;have r2:=r.tupd hl hl2;rw [<-ed] at r2;exact k _ _ (s1.trans (Ai hl2)) r2
      · walk_at "w";refine k H v (Same.refl H) ?_;have hs:(EL d||CW d)=false:=by rw [hc,hc2];rfl
        cases rv with
        | non=>exact .non
        | bl b=>exact .bl b
        | int i=>exact .int i
        | str z=>exact .str z
        | lst _ _ _ _ _=>cases hs
        | tup _ _ _ _=>cases hs
theorem C8 {f:Addr} {fd:FuncData} (D:DefAt K mg "_law_copied" CA ["_law_thing"] f fd) (T:Txt K mg c):∀ n,FnOk P w K mg base CX0 (n+1) f fd ["_law_thing"] (BL n)
  | 0=>⟨λ _ _ _ _ h=>h.elim,λ _ _ _ _ _ _ _ _ _ _ _ _ _ h=>h.elim⟩
  | n+1=>HH D.fn T (D.call (C8 D T n))
abbrev Sl (i:Int):Str:=⟨#[97+i.toNat]⟩
theorem Td:∀ j:Nat,j<26->("abcdefghijklmnopqrstuvwxyz":Str).cps.toList[j]?=some (97+j):=by decide +kernel
theorem M9 {i:Int} (h0:0<=i) (h1:i<26):atI ("abcdefghijklmnopqrstuvwxyz":Str).cps.toList i=some (97+i.toNat):=by
  obtain ⟨j,rfl⟩:∃ j:Nat,i=j:=⟨i.toNat,by omega⟩;rw [Ae1];exact AW (Td j (by omega))
theorem QY:∀ j:Nat,j<26->((⟨#[97+j]⟩:Str).length == 1&& !(Builtin.Str.occurrences colS ⟨#[97+j]⟩ 0 colS.length 1).isEmpty)=true:=by decide +kernel
theorem Pn {i:Int} (h0:0<=i) (h1:i<26):Fa (Sl i):=by
  have h:=QY i.toNat (by omega);simp only [Ab3,beq_iff_eq] at h;exact ⟨h.1,h.2⟩
theorem L6 (s:Nat):(0:Int)<1*2 ^ ((s:Nat):Int).toNat:=by
  rw [Ae1,Gi];have:=Nat.two_pow_pos s;omega
theorem Na (x:Int) (s:Nat):x%(1*2 ^ ((s:Nat):Int).toNat)=(((x%(2 ^ s:Nat)).toNat:Nat):Int):=by
  rw [Ae1,Gi];have hp:=Nat.two_pow_pos s;have:=Ae0 x (show ((2 ^ s:Nat):Int)≠0 by omega);omega
def FP (K:PySem.W.Frag):Sp:=λ vs H Q _=>∃ (a:Addr) (ns:List Int) (m:Nat),vs=[.ref a,nV m]/\SqL K H a (ns.map V.int)/\ns.length<=63/\1<=m/\m<=16/\∀ H' p d,Same H H'->H p=none->Rp H' (FN H) 3 (.ref p) (dDr d)->DrOk d->Q (.ref p) H'
abbrev EF:Stmt:=top 63
theorem sc__law_draft:FnScope ["_law_script","_law_most","_law_whole","_law_shafts","_law_treadles","_law_letters","_law_ends","_law_picks","_law_ties","_law_treading","_law_warp","_law_weft"] ["_law_script","_law_most"] (Ah EF):=⟨rfl,rfl,rfl,by decide +kernel,rfl,by decide +kernel,by decide +kernel⟩
theorem Jz {f:Addr} {fd:FuncData} (F:Fun K "_law_draft" "_law_draft" EF f fd) (T:Txt K mg c) (c__law_mixed:Az P w K mg base "_law_mixed" 1 ["_law_cell","_law_k"] FE) (c__law_cells:Az P w K mg base "_law_cells" 1 ["_law_script","_law_first"] (FG K)) (c__law_numbers:Az P w K mg base "_law_numbers" 1 ["_law_mask","_law_most"] EM):FnOk P w K mg base CX0 2 f fd ["_law_script","_law_most"] (FP K):=by
  refine F.ok sc__law_draft (λ vs H Q E h=> ?_) (λ cdv A outer s H vs Q E hr h=> ?_)
  · obtain ⟨a,ns,m,rfl,_⟩:=h;rfl
  · obtain ⟨a,ns,m,rfl,sa,hn,m1,m2,k⟩:=h;refine ⟨_,(Ad (Ap (i:=2) sc__law_draft.nd rfl (Or.inr rfl) (Am (UN (K:=K)) rfl (T.own _ (by decide)) boot_sum (Aa (Fn (K:=K) (Qu (K:=K) rfl (T.own _ (by decide)) (Aa (pv 0) Ab)) (λ _ _ _ _=>AK) (λ _ _ _ _=>(Aj Kz (Aj AH (pv 1) Ac) (Aj AU (pv 0) Ac)))) Ab)))
      (Ad (Ap (i:=3) sc__law_draft.nd rfl (Or.inr rfl) (Aj AU Ac (Aj AH (Ag c__law_mixed hr (Aa (pv 2) (Aa Ac Ab))) (pv 1))))
      (Ad (Ap (i:=4) sc__law_draft.nd rfl (Or.inr rfl) (Aj AU Ac (Aj AH (Ag c__law_mixed hr (Aa (pv 2) (Aa Ac Ab))) (pv 1))))
      (Ad (Ap (i:=5) sc__law_draft.nd rfl (Or.inr rfl) Al)
      (Ad (Ap (i:=6) sc__law_draft.nd rfl (Or.inl rfl) (Ag c__law_cells hr (Aa (pv 0) (Aa Ac Ab))))
      (Ad (Ap (i:=7) sc__law_draft.nd rfl (Or.inl rfl) (Ag c__law_cells hr (Aa (pv 0) (Aa Ac Ab))))
      (Ad (Fm (i:=8) sc__law_draft.nd rfl (Or.inl rfl) (Fs rfl (T.own _ (by decide)) (Aa (pv 4) Ab)) (λ _ _ _ _=>AK) (λ _ _ _ _=>(Ag c__law_numbers hr (Aa (Aj AH (Ag c__law_mixed hr (Aa (pv 2) (Aa (Aj AU Ac (pv 0)) Ab))) (Aj KH Ac (pv 1))) (Aa (pv 1) Ab)))))
      (Ad (Fm (i:=9) sc__law_draft.nd rfl (Or.inl rfl) (CG (K:=K) (pv 7)) (λ _ _ _ _=>AK) (λ _ _ _ _=>(Ag c__law_numbers hr (Aa (Aj AH (pv 0) (Aj KH Ac (pv 1))) (Aa (pv 1) Ab)))))
      (Ad (Bb (AE Bv (Aj AH (Ag c__law_mixed hr (Aa (pv 2) (Aa Ac Ab))) Ac) Ac (AB _)) (Af (Fm (i:=9) sc__law_draft.nd rfl (Or.inl rfl) (CG (K:=K) (pv 7)) (λ _ _ _ _=>AK) (λ _ _ _ _=>(Ar (Aa (Aj AU Ac (Aj AH (pv 0) (pv 1))) Ab))))) A9)
      (Ad (Fm (i:=10) sc__law_draft.nd rfl (Or.inl rfl) (CG (K:=K) (pv 6)) (λ _ _ _ _=>AK) (λ _ _ _ _=>(A7 OO (pv 1) (Aj AH (Aj By (pv 0) Ac) (Aj AU Ac (Aj AH (Ag c__law_mixed hr (Aa (pv 2) (Aa Ac Ab))) Ac))) (λ _ _=>rfl))))
      (Ad (Fm (i:=11) sc__law_draft.nd rfl (Or.inl rfl) (CG (K:=K) (pv 7)) (λ _ _ _ _=>AK) (λ _ _ _ _=>(A7 OO (pv 1) (Aj AH (Aj By (pv 0) Ac) (Aj AU Ac (Aj AH (Ag c__law_mixed hr (Aa (pv 2) (Aa Ac Ab))) Ac))) (λ _ _=>rfl))))
      (Af (An (A2 (Aa (pv 3) (Aa (pv 4) (Aa (AM (CG (K:=K) (pv 6)) (λ _ _ _ _=>AK) (λ _ _ _ _=>(Aj AH (pv 0) (Aj AU (pv 1) Ac)))) (Aa (pv 8) (Aa (pv 9) (Aa (pv 10) (Aa (pv 11) Ab))))))))))))))))))))),?_⟩
    walk_at "w";refine ⟨a,rfl,⟨_,sa⟩,λ D0 hD0=> ?_⟩;refine B4 (G:=λ i=>ns.getD i 0%1000000007*((i:Int)+1)) (Pa sa rfl rfl) hD0 (by rw [Aa2];omega) ?_ ?_
    · intro i H' R hi s kk;have b1:=Ae0 (ns.getD i 0) (show (1000000007:Int)≠0 by decide);have b2:=Ae3 (ns.getD i 0) (show (0:Int)<1000000007 by decide);rw [Df hi];walk_at "w";refine AD (by decide) ?_;walk_at "w";refine AD (.inl ⟨by omega,by omega⟩) ?_;exact kk H' (Same.refl _)
    intro H1 s1 hl1;walk_at "w";refine Sq (SqL.of hl1) ?_;generalize ((Aa9 (ns.map V.int).length).map λ i:Nat=>ns.getD i 0%1000000007*((i:Int)+1)).sum=W;walk_at "w";refine ⟨W,1,rfl,⟨by decide,by decide⟩,?_⟩;walk_at "w";refine AD (by show (0:Int)<(m:Nat);omega) ?_;walk_at "w";obtain ⟨sN,es,sN1,sN2⟩:∃ s:Nat,1+DW W 1%(m:Nat)=(s:Nat)/\1<=s/\s<=16:=by
      have h0:=Ae0 (DW W 1) (show ((m:Nat):Int)≠0 by omega);have h1:=Ae3 (DW W 1) (show (0:Int)<(m:Nat) by omega);exact ⟨(1+DW W 1%(m:Nat)).toNat,by omega,by omega,by omega⟩
    rw [es];refine ⟨W,2,rfl,⟨by decide,by decide⟩,?_⟩;walk_at "w";refine AD (by show (0:Int)<(m:Nat);omega) ?_;walk_at "w";obtain ⟨tN,et,tN1,tN2⟩:∃ s:Nat,1+DW W 2%(m:Nat)=(s:Nat)/\1<=s/\s<=16:=by
      have h0:=Ae0 (DW W 2) (show ((m:Nat):Int)≠0 by omega);have h1:=Ae3 (DW W 2) (show (0:Int)<(m:Nat) by omega);exact ⟨(1+DW W 2%(m:Nat)).toNat,by omega,by omega,by omega⟩
    rw [et];refine ⟨a,ns,0,rfl,s1.seq sa,hn,by decide,by decide,λ H2 pE eE s2 hpE hE lE1 lE2=> ?_⟩;walk_at "w";have s02:=s1.trans s2;refine ⟨a,ns,1,rfl,s02.seq sa,hn,by decide,by decide,λ H3 pP eP s3 hpP hP lP1 lP2=> ?_⟩;walk_at "w";have s03:=s02.trans s3;replace hE:=s3 _ _ hE;refine ⟨_,rfl,by omega,by omega,λ D4 hD4=> ?_⟩;rw [Ae1];refine Bc (m:=1) (G:=λ i=>dL (IW (DW W (3+(i:Int))%(2 ^ sN:Nat)).toNat sN)) (Jh rfl) hD4 (by omega) ?_ ?_
    · intro i H' R hi s kk;walk_at "w";refine ⟨W,_,rfl,⟨by omega,by omega⟩,?_⟩;walk_at "w";refine AD ⟨by omega,by omega,by decide⟩ ?_;walk_at "w";refine AD (L6 sN) ?_;walk_at "w";rw [Na];exact ⟨_,sN,rfl,by omega,λ H4 p4 s4 hp4 h4=>kk H4 _ s4 (Gu h4 hp4 (by unfold IW;rw [Aa2];exact Ab8 (Ah1 _ _) (by simp;omega)))⟩
    intro H4 ys4 s4 hl4 r4;rw [KZ] at r4;have s04:=s03.trans s4;replace r4:Rp H4 (FN H) 2 (.ref D4) _:=r4.imp λ a ha=>s03.free ha;replace hE:=s4 _ _ hE;replace hP:=s4 _ _ hP;generalize eTI:((Aa9 tN).map λ i:Nat=>IW (DW W (3+(i:Int))%(2 ^ sN:Nat)).toNat sN)=TI at r4;have lTI:TI.length=tN:=by rw [<-eTI];simp
    have rTI:∀ l∈TI,Rise sN l:=λ l hl=>by
      rw [<-eTI] at hl;obtain ⟨i,_,rfl⟩:=Ad0.mp hl;exact Hj _ sN
    walk_at "w";refine ⟨pP,rfl,⟨_,SqL.of hP⟩,λ D5 hD5=> ?_⟩;refine Bc (m:=1) (G:=λ i=>dL (IW (eP.getD i 0%(2 ^ tN:Nat)).toNat tN)) (Bl (SqL.of hP) rfl) hD5 (by rw [Aa2];omega) ?_ ?_
    · intro i H' R hi s kk;rw [Df hi];walk_at "w";refine AD ⟨by omega,by omega,by decide⟩ ?_;walk_at "w";refine AD (L6 tN) ?_;walk_at "w";rw [Na];exact ⟨_,tN,rfl,by omega,λ H4 p4 s4 hp4 h4=>kk H4 _ s4 (Gu h4 hp4 (by unfold IW;rw [Aa2];exact Ab8 (Ah1 _ _) (by simp;omega)))⟩
    intro H5 ys5 s5 hl5 r5;rw [Aa2,KZ] at r5;have s05:=s04.trans s5;replace r5:Rp H5 (FN H) 2 (.ref D5) _:=r5.imp λ a ha=>s04.free ha;replace r4:=r4.same s5;replace hE:=s5 _ _ hE;replace hP:=s5 _ _ hP;walk_at "v";refine ifJ (λ σ' H6=>∃ v9 TD,σ'=[some (.ref a),some (nV m),some (.int W),some (nV sN),some (nV tN),some (.str "abcdefghijklmnopqrstuvwxyz"),some (.ref pE),some (.ref pP),some (.ref D4),some v9,none,none]/\Same H5 H6/\Rp H6 (FN H) 2 v9 (dLL TD)/\TD.length=eP.length/\∀ l∈TD,Rise tN l) ?_ (λ key=> ?_)
    · rintro σ' H6 ⟨v9,TD,rfl,s6,r9,lTD,rTD⟩;have s06:=s05.trans s6;replace r4:=r4.same s6;replace hE:=s6 _ _ hE;replace hP:=s6 _ _ hP;walk_at "w";refine ⟨pE,rfl,⟨_,SqL.of hE⟩,λ D7 hD7=> ?_⟩;have bm:∀ k:Int,(0:Int)<1+DW W k%26/\1+DW W k%26<=26:=λ k=>by
        have h0:=Ae0 (DW W k) (show (26:Int)≠0 by decide);have h1:=Ae3 (DW W k) (show (0:Int)<26 by decide);omega
      have bq:∀ (x k:Int),0<=x%(1+DW W k%26)/\x%(1+DW W k%26)<26:=λ x k=>by
        have h:=bm k;have h0:=Ae0 x (show (1+DW W k%26)≠0 by omega);have h1:=Ae3 x h.1;omega
      refine Bc (m:=0) (G:=λ i=> .str (Sl (eE.getD i 0 / 17%(1+DW W 41%26)))) (Bl (SqL.of hE) rfl) hD7 (by rw [Aa2];omega) ?_ ?_
      · intro i H' R hi s kk;rw [Df hi];walk_at "w";refine AD ⟨by decide,by decide⟩ ?_;walk_at "w";refine ⟨W,41,rfl,⟨by decide,by decide⟩,?_⟩;walk_at "w";refine AD (by decide) ?_;walk_at "w";refine AD (bm 41).1 ?_;have:=bq (eE.getD i 0 / 17) 41;refine PX (by decide) (M9 this.1 this.2) ?_;exact kk H' _ (Same.refl _) (.str _)
      intro H7 ys7 s7 hl7 r7;rw [Aa2,Py] at r7;have s07:=s06.trans s7;replace r7:Rp H7 (FN H) 2 (.ref D7) _:=(r7.imp λ a ha=>s06.free ha).up (by decide);replace r4:=r4.same s7;replace r9:=r9.same s7;replace hE:=s7 _ _ hE;replace hP:=s7 _ _ hP;walk_at "w";refine ⟨pP,rfl,⟨_,SqL.of hP⟩,λ D8 hD8=> ?_⟩;refine Bc (m:=0) (G:=λ i=> .str (Sl (eP.getD i 0 / 70000%(1+DW W 42%26)))) (Bl (SqL.of hP) rfl) hD8 (by rw [Aa2];omega) ?_ ?_
      · intro i H' R hi s kk;rw [Df hi];walk_at "w";refine AD ⟨by decide,by decide⟩ ?_;walk_at "w";refine ⟨W,42,rfl,⟨by decide,by decide⟩,?_⟩;walk_at "w";refine AD (by decide) ?_;walk_at "w";refine AD (bm 42).1 ?_;have:=bq (eP.getD i 0 / 70000) 42;refine PX (by decide) (M9 this.1 this.2) ?_;exact kk H' _ (Same.refl _) (.str _)
      intro H8 ys8 s8 hl8 r8;rw [Aa2,Py] at r8;have s08:=s07.trans s8;replace r8:Rp H8 (FN H) 2 (.ref D8) _:=(r8.imp λ a ha=>s07.free ha).up (by decide);replace r4:=r4.same s8;replace r9:=r9.same s8;replace r7:=r7.same s8;replace hE:=s8 _ _ hE;walk_at "w";refine ⟨pE,rfl,⟨_,SqL.of hE⟩,λ DA hDA=> ?_⟩;refine Bc (m:=0) (G:=λ i=>dN (eE.getD i 0%((sN+1:Nat):Int)).toNat) (Bl (SqL.of hE) rfl) hDA (by rw [Aa2];omega) ?_ ?_
      · intro i H' R hi s kk;rw [Df hi];walk_at "w";refine AD (by show (0:Int)<_;omega) ?_;have h0:=Ae0 (eE.getD i 0) (show ((sN:Nat):Int)+1≠0 by omega);have e:eE.getD i 0%(((sN:Nat):Int)+1)=(((eE.getD i 0%((sN+1:Nat):Int)).toNat:Nat):Int):=by
          rw [show ((sN+1:Nat):Int)=((sN:Nat):Int)+1 by omega];omega
        rw [e];exact kk H' _ (Same.refl _) (.int _)
      intro HA ysA sA hlA rA;rw [Aa2,SF] at rA;have s0A:=s08.trans sA;replace rA:Rp HA (FN H) 2 (.ref DA) _:=(rA.imp λ a ha=>s08.free ha).up (by decide);replace r4:=r4.same sA;replace r9:=r9.same sA;replace r7:=r7.same sA;replace r8:=r8.same sA;walk_at "w";intro p hp;have sB:=Ai (o:=HO.tup [nV sN,nV tN, .ref DA, .ref D4,v9, .ref D7, .ref D8]) hp;refine k _ p ⟨sN,tN,_,TI,TD,_,_⟩ (s0A.trans sB) (s0A.free hp) (KB Ae (.int _) (.int _) (rA.same sB) (r4.same sB) (r9.same sB) (r7.same sB) (r8.same sB)) ?_;exact {
        s1:=sN1,s2:=sN2,t1:=tN1,t2:=tN2
        h1:=by simpa using lE1
        h2:=by simpa using lE2.1
        hs:=λ n hn=>by
          obtain ⟨i,_,rfl⟩:=Ad0.mp hn;have h0:=Ae0 (eE.getD i 0) (show ((sN+1:Nat):Int)≠0 by omega);have h1:=Ae3 (eE.getD i 0) (show (0:Int)<((sN+1:Nat):Int) by omega);show _<=sN;omega
        il:=lTI,ir:=rTI
        p1:=by show 1<=TD.length;omega
        p2:=by show TD.length<=60;omega
        pr:=rTD
        wl:=by simp
        wc:=λ z hz=>by
          obtain ⟨i,_,rfl⟩:=Ad0.mp hz;exact Pn (bq _ 41).1 (bq _ 41).2
        fl:=by simp [lTD]
        fc:=λ z hz=>by
          obtain ⟨i,_,rfl⟩:=Ad0.mp hz;exact Pn (bq _ 42).1 (bq _ 42).2 }
    · walk_at "w";refine ⟨W,40,rfl,⟨by decide,by decide⟩,?_⟩;walk_at "w";refine AD (by decide) ?_;walk_at "w";refine CJ (λ h0=> ?_) (λ h0=> ?_)
      · walk_at "w";refine ⟨pP,rfl,⟨_,SqL.of hP⟩,λ D6 hD6=> ?_⟩;refine Bc (m:=1) (G:=λ i=>dL [(1+eP.getD i 0%(tN:Nat)).toNat]) (Bl (SqL.of hP) rfl) hD6 (by rw [Aa2];omega) ?_ ?_
        · intro i H' R hi s kk;rw [Df hi];walk_at "w";refine AD (by show (0:Int)<(tN:Nat);omega) ?_;walk_at "w";intro q hq;have h0:=Ae0 (eP.getD i 0) (show ((tN:Nat):Int)≠0 by omega);refine kk _ _ (Ai hq) (Gu ?_ hq (by simp));rw [Ae];show some (HO.lst [V.int (1+eP.getD i 0%(tN:Nat))])=some (HO.lst [V.int (((1+eP.getD i 0%(tN:Nat)).toNat:Nat):Int)]);congr 4;omega
        · intro H6 ys6 s6 hl6 r6;rw [Aa2,KZ (λ i=>[(1+eP.getD i 0%(tN:Nat)).toNat])] at r6;refine Kt ?_;refine key _ _ ⟨_,_,rfl,s6,r6.imp λ a ha=>s05.free ha,by simp,λ l hl=> ?_⟩;obtain ⟨i,_,rfl⟩:=Ad0.mp hl;have h0:=Ae0 (eP.getD i 0) (show ((tN:Nat):Int)≠0 by omega);have h1:=Ae3 (eP.getD i 0) (show (0:Int)<(tN:Nat) by omega);intro j hj;have hj:j=0:=by simpa using hj
          subst hj;show 0+1<=(1+eP.getD i 0%(tN:Nat)).toNat/\(1+eP.getD i 0%(tN:Nat)).toNat<=tN;omega
      · refine MX ?_;refine key _ _ ⟨_,_,rfl,Same.refl _,r5,by simp,λ l hl=> ?_⟩;obtain ⟨i,_,rfl⟩:=Ad0.mp hl;exact Hj _ tN
def pK:List Key:=[.inr "shafts", .inr "treadles", .inr "threading", .inr "ties", .inr "treading", .inr "warp", .inr "weft"]
structure Turns (H:Hp) (d:Dr) (more:List (Key × V)) (d':Dr):Prop where
  few:more.length<=15
  to:∀ (H1:Hp) (w0 w1 w2 w3 w4 w5 w6:V),Same H H1->Parts H1 d [w0,w1,w2,w3,w4,w5,w6]->∃ u0 u1 u2 u3 u4 u5 u6,Parts H1 d' [u0,u1,u2,u3,u4,u5,u6]/\
    ∀ j u,[u0,u1,u2,u3,u4,u5,u6][j]?=some u->GM (AI (AI [] (pK.zip [w0,w1,w2,w3,w4,w5,w6])) more) (pK.getD j (.inr ""))=some u
structure TurnsB (H:Hp) (d:Dr) (more:List (Key × V)):Prop where
  few:more.length<=15
  to:∀ (H1:Hp) (w0 w1 w2 w3 w4 w5 w6:V),Same H H1->Parts H1 d [w0,w1,w2,w3,w4,w5,w6]->∃ u0 u1 u2 u3 u4 u5 u6,PTh H1 u0 u1 u2 u3 u4 u5 u6/\drB H1 u0 u1 u2 u3 u4 u5 u6=false/\
    ∀ j u,[u0,u1,u2,u3,u4,u5,u6][j]?=some u->GM (AI (AI [] (pK.zip [w0,w1,w2,w3,w4,w5,w6])) more) (pK.getD j (.inr ""))=some u
def AJ (c:Cs):Sp:=λ vs H Q E=>∃ x d b more,vs=[.ref x, .ref b]/\DrAt c.Draft H x d/\DrOk d/\H b=some (.dK more)/\
  ((∃ d',Turns H d more d'/\DrOk d'/\∀ H' y,Same H H'->H y=none->DrAt c.Draft H' y d'->Q (.ref y) H')\/(TurnsB H d more/\∀ H',Same H H'->E (.ref c.BadDraft) none H'))
abbrev CK:Stmt:=top 29
theorem sc_changed_draft:FnScope ["draft","changes","parts"] ["draft","changes"] (Ah CK):=⟨rfl,rfl,rfl,by decide +kernel,rfl,by decide +kernel,by decide +kernel⟩
theorem G1 {f:Addr} {fd:FuncData} (F:Fun K "changed_draft" "changed_draft" CK f fd) (T:Txt K mg c) (d_Draft_told:Bm P w K mg base c.Draft "told" 1 ["self"] (Cy c)) (m_Draft:Ga P w K mg base "Draft" c.Draft 6 ["self","shafts","treadles","threading","ties","treading","warp","weft"] (Ba c)):FnOk P w K mg base (CXE P w) 8 f fd ["draft","changes"] (AJ c):=by
  refine Fun.okE F sc_changed_draft (λ vs H Q E h=> ?_) (λ cdv A outer s H vs Q E hr h=> ?_)
  · obtain ⟨x,d,b,more,rfl,_⟩:=h;rfl
  · obtain ⟨x,d,b,more,rfl,cx,ok,hb,hk⟩:=h;obtain ⟨dx,v1,v2,v3,v4,v5,hx,_⟩:=id cx;have hu1:=hr.units1;have few:more.length<=15:=hk.elim (λ ⟨_,t,_⟩=>t.few) λ z=>z.1.few;refine ⟨_,(Ad (Ap (i:=2) sc_changed_draft.nd rfl (Or.inl rfl) (Mq (K:=K) rfl (T.own _ (by decide)) rfl (T.own _ (by decide)) (Aa (Gj T.g_PARTS) (Aa (AQ (pv 0) d_Draft_told (hr.mono (by decide))) Ab))))
      (Ad (Av (J9 (K:=K) PySem.F.plainAttrs_dict PySem.F.slot_dict_update PySem.F.type_dict_update Nx (pv 2) (Aa (pv 1) Ab)))
      (Af (An (Eb m_Draft hr AF (Aa (Ei hu1 (pv 2) Al (λ _ _=>rfl)) (Aa (Ei hu1 (pv 2) Al (λ _ _=>rfl)) (Aa (Ei hu1 (pv 2) Al (λ _ _=>rfl)) (Aa (Ei hu1 (pv 2) Al (λ _ _=>rfl)) (Aa (Ei hu1 (pv 2) Al (λ _ _=>rfl)) (Aa (Ei hu1 (pv 2) Al (λ _ _=>rfl)) (Aa (Ei hu1 (pv 2) Al (λ _ _=>rfl)) Ab)))))))))))),?_⟩
    walk_at "w";refine ME ?_;walk_at "w";refine ⟨_,_,_,rfl,hx,rfl,?_⟩;walk_at "w";refine ⟨x,d,rfl,cx,λ H1 p s1 hp r1=> ?_⟩;obtain ⟨m,a,w0,w1,w2,w3,w4,w5,w6,em,ep,ha,q0,q1,q2,q3,q4,q5,q6⟩:=MZ r1;cases em;cases ep;walk_at "w";refine ⟨true,true,c.PARTS,p,pK,[w0,w1,w2,w3,w4,w5,w6],rfl,T.t_PARTS _,SqT.of ha,rfl,by decide,λ H2 D s2 hD gD=> ?_⟩;cases q0;cases q1;obtain ⟨b2,rfl,e2,_,_⟩:=IC q2;obtain ⟨b5,rfl,e5,_,_⟩:=LE q5;obtain ⟨b6,rfl,e6,_,_⟩:=LE q6;have P1:Parts H1 d [nV d.sh,nV d.tr, .ref b2,w3,w4, .ref b5, .ref b6]:=⟨_,_,_,_,_,rfl,e2,q3.any,q4.any,e5,e6⟩;obtain ⟨u0,u1,u2,u3,u4,u5,u6,val,fin⟩:∃ u0 u1 u2 u3 u4 u5 u6,(∀ j u,[u0,u1,u2,u3,u4,u5,u6][j]?=some u->GM (AI (AI [] (pK.zip [nV d.sh,nV d.tr, .ref b2,w3,w4, .ref b5, .ref b6])) more) (pK.getD j (.inr ""))=some u)/\
        ((∃ d',Parts H1 d' [u0,u1,u2,u3,u4,u5,u6]/\DrOk d'/\∀ H' y,Same H H'->H y=none->DrAt c.Draft H' y d'->Q (.ref y) H')\/(PTh H1 u0 u1 u2 u3 u4 u5 u6/\drB H1 u0 u1 u2 u3 u4 u5 u6=false/\∀ H',Same H H'->E (.ref c.BadDraft) none H')):=by
      rcases hk with ⟨d',tu,ok',k⟩ | ⟨tb,k⟩
      · obtain ⟨u0,u1,u2,u3,u4,u5,u6,P2,val⟩:=tu.to H1 _ _ _ _ _ _ _ s1 P1;exact ⟨u0,u1,u2,u3,u4,u5,u6,val, .inl ⟨d',P2,ok',k⟩⟩
      · obtain ⟨u0,u1,u2,u3,u4,u5,u6,P2,db,val⟩:=tb.to H1 _ _ _ _ _ _ _ s1 P1;exact ⟨u0,u1,u2,u3,u4,u5,u6,val, .inr ⟨P2,db,k⟩⟩
    have hb2:=s2 _ _ (s1 _ _ hb);have nDb:D≠b:=λ z=>by
      have:=s1 _ _ hb;rw [<-z,hD] at this;cases this
    walk_at "w";refine ⟨.inr (.inr (.inl ⟨rfl, .inl ⟨_,gD⟩⟩)),?_⟩;walk_at "w";refine SQ nDb gD hb2 (Ab8 (Nat.add_le_add_right (Ab8 (BS _ []) (show _<=7 by simp [pK])) _) (by omega)) ?_;have s3:Same H1 (upd H2 D (.dK (AI (AI [] (pK.zip [nV d.sh,nV d.tr, .ref b2,w3,w4, .ref b5, .ref b6])) more))):=λ q o e=>by
      rw [Ak (Ay e hD)];exact s2 _ _ e
    have g3:upd H2 D (.dK (AI (AI [] (pK.zip [nV d.sh,nV d.tr, .ref b2,w3,w4, .ref b5, .ref b6])) more)) D=_:=Ae;generalize upd H2 D (.dK (AI (AI [] (pK.zip [nV d.sh,nV d.tr, .ref b2,w3,w4, .ref b5, .ref b6])) more))=H3 at s3 g3 ⊢;have get:∀ j u,[u0,u1,u2,u3,u4,u5,u6][j]?=some u->DGet H3 D (kV (pK.getD j (.inr ""))) (some u):=λ j u e=>by
      rw [<-val j u e];exact DGet.k g3
    walk_at "w";refine Gz ?_;walk_at "w";refine ⟨D,u0,rfl,get 0 u0 rfl,?_⟩;walk_at "w";refine ⟨D,u1,rfl,get 1 u1 rfl,?_⟩;walk_at "w";refine ⟨D,u2,rfl,get 2 u2 rfl,?_⟩;walk_at "w";refine ⟨D,u3,rfl,get 3 u3 rfl,?_⟩;walk_at "w";refine ⟨D,u4,rfl,get 4 u4 rfl,?_⟩;walk_at "w";refine ⟨D,u5,rfl,get 5 u5 rfl,?_⟩;walk_at "w";refine ⟨D,u6,rfl,get 6 u6 rfl,?_⟩;walk_at "w";rcases fin with ⟨d',P2,ok',k⟩ | ⟨P2,db,k⟩
    · exact Lq (P2.same s3) ok' λ H4 y s4 hy D4=>k H4 y (s1.trans (s3.trans s4)) (s1.free (s3.free hy)) D4
    · exact Q2 (P2.same s3) (by rw [L4 P2 s3];exact db) λ H4 s4=>k H4 (s1.trans (s3.trans s4))
def AT (K:PySem.W.Frag) (c:Cs):Sp:=λ vs H Q E=>∃ v,∃ m:Nat,vs=[v,nV m]/\Ty K H v/\(As v 1 (m:Nat)=true->Q .non H)/\(As v 1 (m:Nat)=false->E (.ref c.OutOfPlace) none H)
abbrev Eh:Stmt:=top 50
theorem Ju:FnScope ["thing","most"] ["thing","most"] (Ah Eh):=⟨rfl,rfl,rfl,by decide +kernel,rfl,by decide +kernel,by decide +kernel⟩
theorem JK {f:Addr} {fd:FuncData} (F:Fun K "need_place" "need_place" Eh f fd) (T:Txt K mg c) (c_is_among:Az P w K mg base "is_among" 2 ["thing","least","most"] (B0 K)):FnOk P w K mg base (CXE P w) 3 f fd ["thing","most"] (AT K c):=by
  refine Fun.okE F Ju (λ vs H Q E h=> ?_) (λ cdv A outer s H vs Q E hr h=> ?_)
  · obtain ⟨v,m,rfl,_⟩:=h;rfl
  · obtain ⟨v,m,rfl,ty,k1,k2⟩:=h;refine ⟨_,(Af (Bb (DJ (A6 (Ag c_is_among hr (Aa (pv 0) (Aa Ac (Aa (pv 1) Ab)))))) (Af (Cp T.g_OutOfPlace T.xi_OutOfPlace (Aa Al Ab))) A9)),?_⟩;walk_at "w";refine ⟨_,_,_,rfl,ty,?_⟩;walk_at "w";cases hv:As v 1 (m:Nat) with
    | true=>
      refine Cm ?_;walk_at "w";exact k1 hv
    | false=>
      refine CI ?_;walk_at "w";exact ⟨by decide,k2 hv⟩
def CB:Sp:=λ vs H Q _=>∃ v ls,vs=[v]/\Rp H FT 2 v (dTT ls)/\∀ H' p,Same H H'->H p=none->Rp H' (FN H) 2 (.ref p) (dLL ls)->Q (.ref p) H'
abbrev FZ:Stmt:=top 51
theorem L8:FnScope ["tuples"] ["tuples"] (Ah FZ):=⟨rfl,rfl,rfl,by decide +kernel,rfl,by decide +kernel,by decide +kernel⟩
theorem LJ {f:Addr} {fd:FuncData} (F:Fun K "lists_of" "lists_of" FZ f fd) (T:Txt K mg c):FnOk P w K mg base CX0 1 f fd ["tuples"] CB:=by
  refine F.ok L8 (λ vs H Q E h=> ?_) (λ cdv A outer s H vs Q E hr h=> ?_)
  · obtain ⟨v,ls,rfl,_⟩:=h;rfl
  · obtain ⟨v,ls,rfl,rv,k⟩:=h;obtain ⟨m2,a2,vs2,em2,rfl,e2,l2,b2,el2⟩:=GJ rv;cases em2;rw [Aa2] at l2;refine ⟨_,(Af (An (AM (J4 (K:=K) (pv 0)) (λ _ _ _ _=>AK) (λ _ _ _ _=>(AC (BZ (K:=K)) rfl (T.own _ (by decide)) AA (Aa (pv 0) Ab)))))),?_⟩;walk_at "w";refine ⟨a2,rfl,⟨_,SqT.of e2⟩,λ D2 hD2=> ?_⟩;refine Bc (m:=1) (G:=λ i=>dL (ls.getD i [])) (Fp (SqT.of e2) rfl) hD2 b2 ?_ ?_
    · intro i H' R hi s kk;have hi':i<ls.length:=by omega
      have r:=el2 i (by simpa using hi');rw [AX dT ls i .non [] hi'] at r;obtain ⟨b,eb,hb3,hb4⟩:=Dq r;rw [eb];walk_at "w";exact BI (SqT.of (s _ _ hb3)) λ q hq=>kk _ _ (Ai hq) (Gu Ae hq hb4)
    intro H2 ys2 s2 hl2 r2;rw [l2,Pp] at r2;exact k H2 D2 s2 hD2 r2
theorem Ph {xs:List V} {k:Nat} (h:1<=k):DR xs none (some ((k:Nat) - 1:Int))=xs.take (k - 1):=by
  rw [DP (by omega),show (((k:Nat):Int) - 1).toNat=k - 1 by omega]
theorem R5 {xs:List V} {k:Nat}:DR xs (some ((k:Nat):Int)) none=xs.drop k:=by
  rw [LU (by omega),Ae1]
theorem V5 {xs:List V} {k:Nat} (h:1<=k):DR xs (some ((k:Nat) - 1:Int)) none=xs.drop (k - 1):=by
  rw [LU (by omega),show (((k:Nat):Int) - 1).toNat=k - 1 by omega]
def BM (K:PySem.W.Frag):Sp:=λ vs H Q _=>∃ tp a xs k v,vs=[.ref a,nV k,v]/\SqS tp K H a xs/\1<=k/\k<=xs.length/\xs.length<=1000/\∀ H' p,Same H H'->H p=none->H' p=some (.lst (xs.set (k - 1) v))->Q (.ref p) H'
theorem TB {xs:List V} {k:Nat} {v:V} (h1:1<=k) (h2:k<=xs.length):xs.take (k - 1)++[v]++xs.drop k=xs.set (k - 1) v:=by
  rw [List.set_eq_take_append_cons_drop,if_pos (by omega),show k - 1+1=k by omega];simp
abbrev DL:Stmt:=top 52
theorem Ih:FnScope ["members","place","thing"] ["members","place","thing"] (Ah DL):=⟨rfl,rfl,rfl,by decide +kernel,rfl,by decide +kernel,by decide +kernel⟩
theorem Ir {f:Addr} {fd:FuncData} (F:Fun K "replaced_at" "replaced_at" DL f fd) (T:Txt K mg c):FnOk P w K mg base CX0 1 f fd ["members","place","thing"] (BM K):=by
  refine F.ok Ih (λ vs H Q E h=> ?_) (λ cdv A outer s H vs Q E hr h=> ?_)
  · obtain ⟨tp,a,xs,k,v,rfl,_⟩:=h;rfl
  · obtain ⟨tp,a,xs,k,v,rfl,sa,h1,h2,h3,kk⟩:=h;refine ⟨_,(Af (An (Aj (Fi (K:=K)) (Aj (Fi (K:=K)) (AC (BZ (K:=K)) rfl (T.own _ (by decide)) AA (Aa (A0 (Kj (K:=K)) (pv 0) Be (Bh (Aj E4 (pv 1) Ac))) Ab)) (Ar (Aa (pv 2) Ab))) (AC (BZ (K:=K)) rfl (T.own _ (by decide)) AA (Aa (A0 (Kj (K:=K)) (pv 0) (Bh (pv 1)) Be) Ab))))),?_⟩;walk_at "w";refine GL sa λ H1 p1 s1 q1=> ?_;rw [Ph h1] at q1;walk_at "w";refine DT q1 λ p2 n2=> ?_;wrow_has H1 x2;walk_at "w";row_lines H2 x3;walk_at "w";refine Dn (SqL.of (s3 _ _ g2)) (SqL.of g3) (by simp;omega) λ p4 n4=> ?_;wrow_has H3 x4;have s04:=s1.trans (s2.trans (s3.trans s4));walk_at "w";refine GL (sa.same s04) λ H5 p5 s5 q5=> ?_;rw [R5] at q5;walk_at "w";refine DT q5 λ p6 n6=> ?_;wrow_has H5 x6;walk_at "w";refine Dn (SqL.of (s6 _ _ (s5 _ _ g4))) (SqL.of g6) (by simp;omega) λ p7 n7=> ?_;have s06:=s04.trans (s5.trans s6);refine kk _ p7 (s06.trans (Ai n7)) (s06.free n7) ?_;rw [Ae,TB h1 h2]
def G0 (K:PySem.W.Frag):Sp:=λ vs H Q _=>∃ tp a xs k v,vs=[.ref a,nV k,v]/\SqS tp K H a xs/\1<=k/\k<=xs.length+1/\xs.length<=1000/\∀ H' p,Same H H'->H p=none->H' p=some (.lst (xs.take (k - 1)++v::xs.drop (k - 1)))->Q (.ref p) H'
abbrev IS:Stmt:=top 53
theorem NJ:FnScope ["members","place","thing"] ["members","place","thing"] (Ah IS):=⟨rfl,rfl,rfl,by decide +kernel,rfl,by decide +kernel,by decide +kernel⟩
theorem Nv {f:Addr} {fd:FuncData} (F:Fun K "put_at" "put_at" IS f fd) (T:Txt K mg c):FnOk P w K mg base CX0 1 f fd ["members","place","thing"] (G0 K):=by
  refine F.ok NJ (λ vs H Q E h=> ?_) (λ cdv A outer s H vs Q E hr h=> ?_)
  · obtain ⟨tp,a,xs,k,v,rfl,_⟩:=h;rfl
  · obtain ⟨tp,a,xs,k,v,rfl,sa,h1,h2,h3,kk⟩:=h;refine ⟨_,(Af (An (Aj (Fi (K:=K)) (Aj (Fi (K:=K)) (AC (BZ (K:=K)) rfl (T.own _ (by decide)) AA (Aa (A0 (Kj (K:=K)) (pv 0) Be (Bh (Aj E4 (pv 1) Ac))) Ab)) (Ar (Aa (pv 2) Ab))) (AC (BZ (K:=K)) rfl (T.own _ (by decide)) AA (Aa (A0 (Kj (K:=K)) (pv 0) (Bh (Aj E4 (pv 1) Ac)) Be) Ab))))),?_⟩;walk_at "w";refine GL sa λ H1 p1 s1 q1=> ?_;rw [Ph h1] at q1;walk_at "w";refine DT q1 λ p2 n2=> ?_;wrow_has H1 x2;walk_at "w";row_lines H2 x3;walk_at "w";refine Dn (SqL.of (s3 _ _ g2)) (SqL.of g3) (by simp;omega) λ p4 n4=> ?_;wrow_has H3 x4;have s04:=s1.trans (s2.trans (s3.trans s4));walk_at "w";refine GL (sa.same s04) λ H5 p5 s5 q5=> ?_;rw [V5 h1] at q5;walk_at "w";refine DT q5 λ p6 n6=> ?_;wrow_has H5 x6;walk_at "w";refine Dn (SqL.of (s6 _ _ (s5 _ _ g4))) (SqL.of g6) (by simp;omega) λ p7 n7=> ?_;have s06:=s04.trans (s5.trans s6);refine kk _ p7 (s06.trans (Ai n7)) (s06.free n7) ?_;rw [Ae,List.append_assoc];rfl
def E5 (K:PySem.W.Frag):Sp:=λ vs H Q _=>∃ tp a xs k,vs=[.ref a,nV k]/\SqS tp K H a xs/\1<=k/\k<=xs.length/\xs.length<=1000/\∀ H' p,Same H H'->H p=none->H' p=some (.lst (xs.eraseIdx (k - 1)))->Q (.ref p) H'
abbrev FY:Stmt:=top 54
theorem LH:FnScope ["members","place"] ["members","place"] (Ah FY):=⟨rfl,rfl,rfl,by decide +kernel,rfl,by decide +kernel,by decide +kernel⟩
theorem LO {f:Addr} {fd:FuncData} (F:Fun K "taken_at" "taken_at" FY f fd) (T:Txt K mg c):FnOk P w K mg base CX0 1 f fd ["members","place"] (E5 K):=by
  refine F.ok LH (λ vs H Q E h=> ?_) (λ cdv A outer s H vs Q E hr h=> ?_)
  · obtain ⟨tp,a,xs,k,rfl,_⟩:=h;rfl
  · obtain ⟨tp,a,xs,k,rfl,sa,h1,h2,h3,kk⟩:=h;refine ⟨_,(Af (An (Aj (Fi (K:=K)) (AC (BZ (K:=K)) rfl (T.own _ (by decide)) AA (Aa (A0 (Kj (K:=K)) (pv 0) Be (Bh (Aj E4 (pv 1) Ac))) Ab)) (AC (BZ (K:=K)) rfl (T.own _ (by decide)) AA (Aa (A0 (Kj (K:=K)) (pv 0) (Bh (pv 1)) Be) Ab))))),?_⟩;walk_at "w";refine GL sa λ H1 p1 s1 q1=> ?_;rw [Ph h1] at q1;walk_at "w";refine DT q1 λ p2 n2=> ?_;wrow_has H1 x2;have s02:=s1.trans s2;walk_at "w";refine GL (sa.same s02) λ H5 p5 s5 q5=> ?_;rw [R5] at q5;walk_at "w";refine DT q5 λ p6 n6=> ?_;wrow_has H5 x6;walk_at "w";refine Dn (SqL.of (s6 _ _ (s5 _ _ g2))) (SqL.of g6) (by simp;omega) λ p7 n7=> ?_;have s06:=s02.trans (s5.trans s6);refine kk _ p7 (s06.trans (Ai n7)) (s06.free n7) ?_;rw [Ae,List.eraseIdx_eq_take_drop_succ,show k - 1+1=k by omega]
def Lm (ms ns:List Nat):List Nat:=((Aa9 ms.length).filter λ i=> !decide (ms.getD i 0=ns.getD i 0)).map (· + 1)
def ET (K:PySem.W.Frag):Sp:=λ vs H Q _=>∃ t1 t2 a b,∃ ms ns:List Nat,vs=[.ref a, .ref b]/\SqS t1 K H a (ms.map nV)/\SqS t2 K H b (ns.map nV)/\ms.length=ns.length/\ms.length<=1000/\∀ H' p,Same H H'->H p=none->H' p=some (.lst ((Lm ms ns).map nV))->Q (.ref p) H'
abbrev Dg:Stmt:=top 55
theorem HM:FnScope ["members","later"] ["members","later"] (Ah Dg):=⟨rfl,rfl,rfl,by decide +kernel,rfl,by decide +kernel,by decide +kernel⟩
theorem HI {f:Addr} {fd:FuncData} (F:Fun K "other_places" "other_places" Dg f fd) (T:Txt K mg c):FnOk P w K mg base CX0 1 f fd ["members","later"] (ET K):=by
  refine F.ok HM (λ vs H Q E h=> ?_) (λ cdv A outer s H vs Q E hr h=> ?_)
  · obtain ⟨t1,t2,a,b,ms,ns,rfl,_⟩:=h;rfl
  · obtain ⟨t1,t2,a,b,ms,ns,rfl,sa,sb,hl,hm,k⟩:=h;refine ⟨_,(Af (An (Fn (K:=K) (P6 (K:=K) rfl (T.own _ (by decide)) rfl (T.own _ (by decide)) (Aa (pv 0) (Aa (pv 1) Ab))) (λ _ _ _ _=>(GH (AE Lt (A7 (B5 (K:=K)) (pv 1) Ac (λ _ _=>rfl)) (A7 (B5 (K:=K)) (pv 1) Ac (λ _ _=>rfl)) (AB _)))) (λ _ _ _ _=>(pv 0))))),?_⟩;walk_at "w";refine SN ?_;walk_at "w";refine ⟨t1,t2,a,b,rfl,⟨_,sa⟩,⟨_,sb⟩,λ D hD=> ?_⟩;refine Qt (xs:=ms.map nV) (zs:=ns.map nV) (by simp [hl]) (λ i ys H'=>ys=(((Aa9 i).filter λ i=> !decide (ms.getD i 0=ns.getD i 0)).map (· + 1)).map nV/\Same H H'/\H' D=some (.lst ys)) ⟨rfl,Fu (Same.refl _) hD,Ae⟩ (λ i ys H' _ ⟨_,s,_⟩=>⟨sa.same s,sb.same s⟩) ?_ ?_
    · rintro i x z ys H' p q hx hz ⟨rfl,s1,hl'⟩ hp hq ne;refine ⟨((Kp.refl _).set rfl).set rfl,?_⟩;have hi:i<ms.length:=by
        have:=(Ac3.mp hx).1;simpa using this
      have ex:x=nV (ms.getD i 0):=by
        rw [Ad6,Aa4 hi] at hx;rw [Aa3,Aa4 hi];exact (Ad8.inj hx).symm
      have ez:z=nV (ns.getD i 0):=by
        rw [Ad6,Aa4 (by omega)] at hz;rw [Aa3,Aa4 (by omega)];exact (Ad8.inj hz).symm
      subst ex ez;have s2:Same H' (upd (upd H' p (HO.tup [nV (ms.getD i 0),nV (ns.getD i 0)])) q (HO.tup [.int ((i+1:Nat):Int), .ref p])):=(Ai hp).trans (Ai (by rw [Ak ne.symm];exact hq));have gp:upd (upd H' p (HO.tup [nV (ms.getD i 0),nV (ns.getD i 0)])) q (HO.tup [.int ((i+1:Nat):Int), .ref p]) p=some (HO.tup [nV (ms.getD i 0),nV (ns.getD i 0)]):=by rw [Ak ne,Ae]
      generalize upd (upd H' p (HO.tup [nV (ms.getD i 0),nV (ns.getD i 0)])) q (HO.tup [.int ((i+1:Nat):Int), .ref p])=H2 at s2 gp ⊢;have s02:=s1.trans s2;have hl2:=s2 _ _ hl';walk_at "w";refine Bw (SqT.of gp) (show atI _ 0=_ from rfl) ?_;walk_at "w";refine Bw (SqT.of gp) (show atI _ 1=_ from rfl) ?_;walk_at "w";by_cases e:ms.getD i 0=ns.getD i 0
      · have er:((Aa9 (i+1)).filter λ i=> !decide (ms.getD i 0=ns.getD i 0))=(Aa9 i).filter λ i=> !decide (ms.getD i 0=ns.getD i 0):=by
          rw [List.range_succ,Ah2,List.filter_cons,decide_eq_true e];simp
        rw [e,decide_eq_true rfl];refine Cm ⟨?_,s02,hl2⟩;rw [er]
      · have er:((Aa9 (i+1)).filter λ i=> !decide (ms.getD i 0=ns.getD i 0))=((Aa9 i).filter λ i=> !decide (ms.getD i 0=ns.getD i 0))++[i]:=by
          rw [List.range_succ,Ah2,List.filter_cons,decide_eq_false e];simp
        rw [decide_eq_false (by omega)];refine CI ?_;walk_at "w";refine ⟨hl2,?_,?_,Fu s02 hD,Ae⟩
        · rw [Aa2,Aa2];exact Nat.lt_of_le_of_lt (Ab8 (Ah1 _ _) (by simp;omega)) (show 1000<sizeLine by decide)
        · rw [er,List.map_append,List.map_append];rfl
    · rintro ys H' ⟨rfl,s1,g1⟩;refine k H' D s1 hD ?_;rw [g1,Aa2];rfl
theorem T_F {H:Hp} {F F':Addr->Prop} {n:Nat} {v:V} {ns:List Nat} (r:Rp H F n v (dT ns)):Rp H F' n v (dT ns):=by
  obtain ⟨a,rfl,h,b⟩:=Dq r;cases r with
  | tup h' b' l e=>exact Rw h b
theorem YF {H:Hp} {F F':Addr->Prop} {n:Nat} {v:V} {ns:List Str} (r:Rp H F n v (dST ns)):Rp H F' n v (dST ns):=by
  obtain ⟨a,rfl,h,b⟩:=EC r;cases r with
  | tup h' b' l e=>exact PN h b
theorem ZM {H:Hp} {F F':Addr->Prop} {n:Nat} {v:V} {ls:List (List Nat)} (r:Rp H F n v (dTT ls)):Rp H F' n v (dTT ls):=by
  cases r with
  | tup h b l e=>
    refine .tup h b l λ i v d h1 h2=> ?_
    · have:=e i v d h1 h2;rw [Ad6] at h2;cases hg:ls[i]? with
      | none=>rw [hg] at h2;cases h2
      | some ns=>rw [hg] at h2;cases h2;exact T_F this
theorem GD {H H':Hp} {F:Addr->Prop} {n:Nat} {v:V} {d:Dt} (r:Rp H (λ _=>False) n v d) (k:∀ a us,H a=some (.tup us)->H' a=some (.tup us)):Rp H' F n v d:=by
  induction r with
  | non=>exact .non
  | bl b=>exact .bl b
  | int i=>exact .int i
  | str z=>exact .str z
  | lst h f b l e ih=>exact f.elim
  | tup h b l e ih=>exact .tup (k _ _ h) b l ih
theorem DrAt.tups {C:Addr} {H H':Hp} {y:Addr} {d:Dr} (h:DrAt C H y d) (hy:∀ o,H y=some o->H' y=some o) (k:∀ a us,H a=some (.tup us)->H' a=some (.tup us)):DrAt C H' y d:=by
  obtain ⟨dx,v1,v2,v3,v4,v5,h0,h1,h2,h3,h4,h5⟩:=h;exact ⟨dx,v1,v2,v3,v4,v5,hy _ h0,GD (T_F h1) k,GD (ZM h2) k,GD (ZM h3) k,GD (YF h4) k,GD (YF h5) k⟩
abbrev Bk:=List Nat × List Nat
def Ent (c:Cs) (B:Hp) (v:V) (e:Dr × Bk):Prop:=∃ t y p q,v= .ref t/\B t=some (.tup [.ref y, .ref p, .ref q])/\DrAt c.Draft B y e.1/\B p=some (.lst (e.2.1.map nV))/\B q=some (.lst (e.2.2.map nV))
theorem Ent.same {c:Cs} {B B':Hp} {v:V} {e:Dr × Bk} (h:Ent c B v e) (s:Same B B'):Ent c B' v e:=
  let ⟨t,y,p,q,e0,h1,h2,h3,h4⟩:=h;⟨t,y,p,q,e0,s _ _ h1,h2.same s,s _ _ h3,s _ _ h4⟩
inductive Ents (c:Cs) (B:Hp):List V->List (Dr × Bk)->Prop where
  | nil:Ents c B [] []
  | cons {v:V} {vs:List V} {e:Dr × Bk} {es:List (Dr × Bk)} (h:Ent c B v e) (t:Ents c B vs es):Ents c B (v::vs) (e::es)
theorem Ents.same {c:Cs} {B B':Hp} {vs:List V} {es:List (Dr × Bk)} (h:Ents c B vs es) (s:Same B B'):Ents c B' vs es:=by
  induction h with
  | nil=>exact .nil
  | cons h t ih=>exact .cons (h.same s) ih
theorem Ents.len {c:Cs} {B:Hp} {vs:List V} {es:List (Dr × Bk)} (h:Ents c B vs es):vs.length=es.length:=by
  induction h with
  | nil=>rfl
  | cons h t ih=>rw [Ac4,Ac4,ih]
theorem Ents.snoc {c:Cs} {B:Hp} {vs:List V} {es:List (Dr × Bk)} {v:V} {e:Dr × Bk} (h:Ents c B vs es) (g:Ent c B v e):Ents c B (vs++[v]) (es++[e]):=by
  induction h with
  | nil=>exact .cons g .nil
  | cons h t ih=>exact .cons h ih
theorem Ents.last {c:Cs} {B:Hp} {vs:List V} {es:List (Dr × Bk)} {e:Dr × Bk} (h:Ents c B vs (es++[e])):∃ us u,vs=us++[u]/\Ents c B us es/\Ent c B u e:=by
  induction es generalizing vs with
  | nil=>
    cases h with
    | cons h t=>cases t;exact ⟨[],_,rfl, .nil,h⟩
  | cons e' es ih=>
    cases h with
    | cons h t=>
      obtain ⟨us,u,rfl,h1,h2⟩:=ih t;exact ⟨_::us,u,rfl, .cons h h1,h2⟩
structure HandAt (c:Cs) (B H:Hp) (x lp:Addr) (d:Dr) (st:List (Dr × Bk)):Prop where
  ex:∃ dx y refs,H x=some (.ins c.Hand dx [("held", .ref y),("past", .ref lp)])/\H lp=some (.lst refs)/\DrAt c.Draft B y d/\Ents c B refs st
  sB:Same B H
  bx:B x=none
  bl:B lp=none
theorem HandAt.same {c:Cs} {B H H':Hp} {x lp:Addr} {d:Dr} {st:List (Dr × Bk)} (h:HandAt c B H x lp d st) (s:Same H H'):HandAt c B H' x lp d st:=
  let ⟨dx,y,refs,h1,h2,h3,h4⟩:=h.ex;⟨⟨dx,y,refs,s _ _ h1,s _ _ h2,h3,h4⟩,h.sB.trans s,h.bx,h.bl⟩
def Ge (B H H':Hp):Hp:=λ b=>match B b,H b with
  | some o,_=>some o
  | none,some (.tup us)=>some (.tup us)
  | none,some _=>none
  | none,none=>H' b
theorem KU {B H H':Hp}:Same B (Ge B H H'):=λ b o e=>by unfold Ge;rw [e]
theorem Gr {B H H':Hp} {b:Addr} {o:HO} (s:Same B H) (n:H b=none) (e:H' b=some o):Ge B H H' b=some o:=by
  have:B b=none:=by
    cases hb:B b with
    | none=>rfl
    | some u=>rw [s _ _ hb] at n;cases n
  unfold Ge;rw [this,n];exact e
theorem Nf {B H H':Hp} (s:Same B H) (s':Same H H') (b:Addr) (us:List V) (e:H' b=some (.tup us)):Ge B H H' b=some (.tup us):=by
  unfold Ge;cases hb:B b with
  | some o=>rw [s' _ _ (s _ _ hb)] at e;exact e
  | none=>
    cases hh:H b with
    | none=>exact e
    | some o=>rw [s' _ _ hh] at e;cases e;rfl
theorem Lo {B H H':Hp} (s:Same B H) (s':Same H H'):Same (Ge B H H') H':=λ b o e=>by
  unfold Ge at e;cases hb:B b with
  | some u=>rw [hb] at e;cases e;exact s' _ _ (s _ _ hb)
  | none=>
    rw [hb] at e;cases hh:H b with
    | none=>rw [hh] at e;exact e
    | some u=>
      rw [hh] at e;cases u with
      | tup us=>cases e;exact s' _ _ hh
      | _=>cases e
def Out (B H B1:Hp):Prop:=∀ b o,B b=none->H b=some o->(∀ us,o≠ .tup us)->B1 b=none
theorem Fx {B H H':Hp}:Out B H (Ge B H H'):=λ b o hb hh n=>by
  unfold Ge;rw [hb,hh];cases o with
  | tup us=>exact absurd rfl (n us)
  | _=>rfl
theorem Out.refl {B H:Hp}:Out B H B:=λ b o hb _ _=>hb
def But2 (x lp:Addr) (H H1:Hp):Prop:=∀ b o,H b=some o->b≠x->b≠lp->H1 b=some o
def Told (c:Cs) (B H:Hp) (x lp:Addr) (d':Dr) (st':List (Dr × Bk)) (r:Bk) (Q:VK):Prop:=
  ∀ B1 H1 H' p l1 l2,Same B B1->Out B H B1->But2 x lp H H1->HandAt c B1 H1 x lp d' st'->H1 p=none->H1 l1=none->H1 l2=none->Same H1 H'->H' p=some (.tup [.ref l1, .ref l2])->H' l1=some (.lst (r.1.map nV))->H' l2=some (.lst (r.2.map nV))->Q (.ref p) H'
theorem Lj {H:Hp} {d:Dr}:Turns H d [] d:=⟨(show 0<=15 by decide),λ H1 w0 w1 w2 w3 w4 w5 w6 s P=>⟨w0,w1,w2,w3,w4,w5,w6,P,λ j u e=>by
  rcases j with _ | _ | _ | _ | _ | _ | _ | j <;> cases e <;> kernel_rfl⟩⟩
def BN (c:Cs):Sp:=λ vs H Q _=>∃ (x dx y:Addr) (d:Dr),vs=[.ref x, .ref y]/\H x=some (.ins c.Hand dx [])/\DrAt c.Draft H y d/\DrOk d/\
  ∀ H' B lp,(∀ b o,H b=some o->b≠x->H' b=some o)->H lp=none->(∀ b o,H b=some o->(∀ us,o≠ .tup us)->B b=none)->HandAt c B H' x lp d []->Q .non H'
abbrev CQ:Stmt:=Aq (top 56) 0
theorem GS:FnScope ["self","draft"] ["self","draft"] (Ah CQ):=⟨rfl,rfl,rfl,by decide +kernel,rfl,by decide +kernel,by decide +kernel⟩
theorem GK {f:Addr} {fd:FuncData} (F:Fun K "__init__" "Hand.__init__" CQ f fd) (T:Txt K mg c) (c_changed_draft:BF P w K mg base "changed_draft" 8 ["draft","changes"] (AJ c)):FnOk P w K mg base (CXE P w) 9 f fd ["self","draft"] (BN c):=by
  refine Fun.okE F GS (λ vs H Q E h=> ?_) (λ cdv A outer s H vs Q E hr h=> ?_)
  · obtain ⟨x,dx,y,d,rfl,_⟩:=h;rfl
  · obtain ⟨x,dx,y,d,rfl,hx,D0,ok,k⟩:=h;refine ⟨_,(Ad (CO (pv 0) (Aw c_changed_draft hr AF (Aa (pv 1) (Aa E3 Ab))) rfl)
      (Af (CO (pv 0) (Ar Ab) rfl))),?_⟩
    walk_at "w";row_lines H x0;walk_at "w";refine ⟨y,d,p0,_,rfl,D0.same s0,ok,g0, .inl ⟨d,Lj,ok,λ H1 y1 s1 n1 D1=> ?_⟩⟩;walk_at "w";have s01:=s0.trans s1;have ny1:y1≠x:=(Ay (s0 _ _ hx) n1).symm;refine CN (s01 _ _ hx) T.kd_Hand.cl T.na_Hand_held (by decide) ?_;rw [show Bd ("held":Str) (V.ref y1) []=([("held", .ref y1)]:List (Str × V)) from rfl];have hx2:upd H1 x (HO.ins c.Hand dx [("held", .ref y1)]) x=_:=Ae;have kp2:∀ b o,H1 b=some o->b≠x->upd H1 x (HO.ins c.Hand dx [("held", .ref y1)]) b=some o:=λ b o e n=>by rw [Ak n];exact e
    generalize upd H1 x (HO.ins c.Hand dx [("held", .ref y1)])=H2 at hx2 kp2 ⊢;walk_at "w";row_lines H2 x3;walk_at "w";refine CN (s3 _ _ hx2) T.kd_Hand.cl T.na_Hand_past (by show 1<1000;decide) ?_;rw [show Bd ("past":Str) (V.ref p3) ([("held", .ref y1)]:List (Str × V))=([("held", .ref y1),("past", .ref p3)]:List (Str × V)) from rfl];walk_at "w";have n3x:p3≠x:=(Ay hx2 n3).symm;have kp:∀ b o,H b=some o->b≠x->upd H3 x (HO.ins c.Hand dx [("held", .ref y1),("past", .ref p3)]) b=some o:=λ b o e n=>by
      rw [Ak n];exact s3 _ _ (kp2 _ _ (s01 _ _ e) n)
    have n30:H p3=none:=by
      cases e3:H p3 with
      | none=>rfl
      | some o=>
        have:=kp2 _ _ (s01 _ _ e3) n3x;rw [n3] at this;cases this
    have n31:H1 p3=none:=by
      cases e3:H1 p3 with
      | none=>rfl
      | some o=>
        have:=kp2 _ _ e3 n3x;rw [n3] at this;cases this
    refine k _ (Ge (λ _=>none) H H1) p3 kp n30 (λ b o e n=>Fx b o rfl e n) ⟨⟨dx,y1,[],Ae,by rw [Ak n3x];exact g3,?_, .nil⟩,?_,?_,?_⟩
    · exact D1.tups (λ o e=>Gr (λ _ _ z=>by cases z) (s0.free n1) e) λ a us e=>Nf (λ _ _ z=>by cases z) s01 a us e
    · intro b o e;have e1:=Lo (λ _ _ z=>by cases z) s01 b o e;have nx:b≠x:=λ z=>by
        subst z;rw [Fx b _ rfl hx (λ us z=>by cases z)] at e;cases e
      rw [Ak nx];exact s3 _ _ (kp2 _ _ e1 nx)
    · exact Fx x _ rfl hx (λ us z=>by cases z)
    · unfold Ge;rw [n30];exact n31
def DM (c:Cs):Sp:=λ vs H Q _=>∃ x B lp d st,vs=[.ref x]/\HandAt c B H x lp d st/\DrOk d/\∀ H' y,Same H H'->H y=none->DrAt c.Draft H' y d->Q (.ref y) H'
abbrev Ew:Stmt:=Aq (top 56) 1
theorem Jx:FnScope ["self"] ["self"] (Ah Ew):=⟨rfl,rfl,rfl,by decide +kernel,rfl,by decide +kernel,by decide +kernel⟩
theorem JN {f:Addr} {fd:FuncData} (F:Fun K "draft" "Hand.draft" Ew f fd) (T:Txt K mg c) (c_changed_draft:BF P w K mg base "changed_draft" 8 ["draft","changes"] (AJ c)):FnOk P w K mg base (CXE P w) 9 f fd ["self"] (DM c):=by
  refine Fun.okE F Jx (λ vs H Q E h=> ?_) (λ cdv A outer s H vs Q E hr h=> ?_)
  · obtain ⟨x,B,lp,d,st,rfl,_⟩:=h;rfl
  · obtain ⟨x,B,lp,d,st,rfl,hA,ok,k⟩:=h;obtain ⟨dx,y,refs,hx,hl,D0,S0⟩:=hA.ex;refine ⟨_,(Af (An (Aw c_changed_draft hr AF (Aa (Au (K:=K) (pv 0) rfl) (Aa E3 Ab))))),?_⟩;walk_at "w";refine ⟨_,_,_,_,_,rfl,hx,T.kd_Hand.cl,T.na_Hand_held,rfl,?_⟩;walk_at "w";row_lines H x0;walk_at "w";exact ⟨y,d,p0,_,rfl,(D0.same hA.sB).same s0,ok,g0, .inl ⟨d,Lj,ok,λ H1 y1 s1 n1 D1=>k H1 y1 (s0.trans s1) (s0.free n1) D1⟩⟩
def DE (c:Cs):Sp:=λ vs H Q _=>∃ x B lp d st,vs=[.ref x]/\HandAt c B H x lp d st/\DrOk d/\∀ H' y,Same H H'->H y=none->N1 c.Cloth H' y d.th.length (Hs d)->Q (.ref y) H'
abbrev Ez:Stmt:=Aq (top 56) 2
theorem Jw:FnScope ["self"] ["self"] (Ah Ez):=⟨rfl,rfl,rfl,by decide +kernel,rfl,by decide +kernel,by decide +kernel⟩
theorem JY {f:Addr} {fd:FuncData} (F:Fun K "cloth" "Hand.cloth" Ez f fd) (T:Txt K mg c) (c_woven:Az P w K mg base "woven" 6 ["draft"] (Lv c)):FnOk P w K mg base CX0 7 f fd ["self"] (DE c):=by
  refine F.ok Jw (λ vs H Q E h=> ?_) (λ cdv A outer s H vs Q E hr h=> ?_)
  · obtain ⟨x,B,lp,d,st,rfl,_⟩:=h;rfl
  · obtain ⟨x,B,lp,d,st,rfl,hA,ok,k⟩:=h;obtain ⟨dx,y,refs,hx,hl,D0,S0⟩:=hA.ex;refine ⟨_,(Af (An (Ag c_woven hr (Aa (Au (K:=K) (pv 0) rfl) Ab)))),?_⟩;walk_at "w";refine ⟨_,_,_,_,_,rfl,hx,T.kd_Hand.cl,T.na_Hand_held,rfl,?_⟩;walk_at "w";exact ⟨y,d,rfl,D0.same hA.sB,ok,λ H1 y1 s1 n1 C1=>k H1 y1 s1 n1 C1⟩
def Bo (c:Cs):Sp:=λ vs H Q _=>∃ x dx lp y y' a1 a2,∃ ps es:List Nat,vs=[.ref x, .ref y', .ref a1, .ref a2]/\H x=some (.ins c.Hand dx [("held", .ref y),("past", .ref lp)])/\H a1=some (.lst (ps.map nV))/\H a2=some (.lst (es.map nV))/\
  ∀ H' p l1 l2,H p=none->H l1=none->H l2=none->Same (upd H x (.ins c.Hand dx [("held", .ref y'),("past", .ref lp)])) H'->H' p=some (.tup [.ref l1, .ref l2])->H' l1=some (.lst (ps.map nV))->H' l2=some (.lst (es.map nV))->Q (.ref p) H'
abbrev Es:Stmt:=Aq (top 56) 3
theorem JU:FnScope ["self","later","picks","ends"] ["self","later","picks","ends"] (Ah Es):=⟨rfl,rfl,rfl,by decide +kernel,rfl,by decide +kernel,by decide +kernel⟩
theorem JX {f:Addr} {fd:FuncData} (F:Fun K "bring" "Hand.bring" Es f fd) (T:Txt K mg c):FnOk P w K mg base CX0 1 f fd ["self","later","picks","ends"] (Bo c):=by
  refine F.ok JU (λ vs H Q E h=> ?_) (λ cdv A outer s H vs Q E hr h=> ?_)
  · obtain ⟨x,dx,lp,y,y',a1,a2,ps,es,rfl,_⟩:=h;rfl
  · obtain ⟨x,dx,lp,y,y',a1,a2,ps,es,rfl,hx,h1,h2,k⟩:=h;refine ⟨_,(Ad (CO (pv 0) (pv 1) rfl)
      (Af (An (A2 (Aa (AC (BZ (K:=K)) rfl (T.own _ (by decide)) AA (Aa (pv 2) Ab)) (Aa (AC (BZ (K:=K)) rfl (T.own _ (by decide)) AA (Aa (pv 3) Ab)) Ab)))))),?_⟩
    walk_at "w";refine CN hx T.kd_Hand.cl T.na_Hand_held (by show 2<1000;decide) ?_;rw [show Bd ("held":Str) (V.ref y') ([("held", .ref y),("past", .ref lp)]:List (Str × V))=([("held", .ref y'),("past", .ref lp)]:List (Str × V)) from rfl];have kp:∀ b o,H b=some o->b≠x->upd H x (HO.ins c.Hand dx [("held", .ref y'),("past", .ref lp)]) b=some o:=λ b o e n=>by rw [Ak n];exact e
    have fr:∀ b,upd H x (HO.ins c.Hand dx [("held", .ref y'),("past", .ref lp)]) b=none->H b=none:=λ b e=>by
      have n:b≠x:=λ z=>by rw [z,Ae] at e;cases e
      rw [Ak n] at e;exact e
    have g1:=kp _ _ h1 (Cg h1 hx (by intro z;cases z));have g2:=kp _ _ h2 (Cg h2 hx (by intro z;cases z));generalize upd H x (HO.ins c.Hand dx [("held", .ref y'),("past", .ref lp)])=H1 at kp fr g1 g2 k ⊢;walk_at "w";refine G4 (SqL.of g1) λ p3 n3=> ?_;wrow_has H1 x3;walk_at "w";refine G4 (SqL.of (s3 _ _ g2)) λ p4 n4=> ?_;wrow_has H3 x4;walk_at "w";intro p5 n5;have s5:=Ai (o:=HO.tup [.ref p3, .ref p4]) n5;have s34:=s3.trans s4;exact k _ p5 p3 p4 (fr _ (s34.free n5)) (fr _ n3) (fr _ (s3.free n4)) (s34.trans s5) Ae (s5 _ _ (s4 _ _ g3)) (s5 _ _ g4)
abbrev OC (d:Dr):List Nat:=d.td.map (EW d.ti)
def Oq (d d':Dr):Bk:=(Lm (OC d) (OC d'),Lm d.th d'.th)
theorem Told.same {c:Cs} {B H H2:Hp} {x lp:Addr} {d':Dr} {st':List (Dr × Bk)} {r:Bk} {Q:VK} (h:Told c B H x lp d' st' r Q) (s:Same H H2):Told c B H2 x lp d' st' r Q:=
  λ B1 H1 H' p l1 l2 a1 a2 a3 a4 a5 a6 a7 a8 a9 b1 b2=>h B1 H1 H' p l1 l2 a1 (λ b o e1 e2 n=>a2 b o e1 (s _ _ e2) n) (λ b o e n1 n2=>a3 b o (s _ _ e) n1 n2) a4 a5 a6 a7 a8 a9 b1 b2
theorem HandAt.push {c:Cs} {B H H6:Hp} {x lp dx y y' t p q:Addr} {d d':Dr} {st:List (Dr × Bk)} {r:Bk} {refs:List V} (hA:HandAt c B H x lp d st) (hx:H x=some (.ins c.Hand dx [("held", .ref y),("past", .ref lp)])) (hl:H lp=some (.lst refs)) (D0:DrAt c.Draft B y d) (S0:Ents c B refs st)
    (s:Same H H6) (n':H y'=none) (D':DrAt c.Draft H6 y' d') (nt:H t=none) (ht:H6 t=some (.tup [.ref y, .ref p, .ref q])) (np:H p=none) (hp:H6 p=some (.lst (r.1.map nV))) (nq:H q=none) (hq:H6 q=some (.lst (r.2.map nV))):
    HandAt c (Ge B H H6) (upd (upd H6 lp (.lst (refs++[.ref t]))) x (.ins c.Hand dx [("held", .ref y'),("past", .ref lp)])) x lp d' (st++[(d,r)]):=by
  have nlx:lp≠x:=Cg hl hx (by intro z;cases z);have bx:=Fx (H':=H6) x _ hA.bx hx (λ us z=>by cases z);have bl:=Fx (H':=H6) lp _ hA.bl hl (λ us z=>by cases z);refine ⟨⟨dx,y',_,Ae,by rw [Ak nlx,Ae],?_,?_⟩,?_,bx,bl⟩
  · exact D'.tups (λ o e=>Gr hA.sB n' e) λ a us e=>Nf hA.sB s a us e
  · exact (S0.same KU).snoc ⟨t,y,p,q,rfl,Gr hA.sB nt ht,D0.same KU,Gr hA.sB np hp,Gr hA.sB nq hq⟩
  · intro b o e;have n1:b≠x:=λ z=>by rw [z,bx] at e;cases e
    have n2:b≠lp:=λ z=>by rw [z,bl] at e;cases e
    rw [Ak n1,Ak n2];exact Lo hA.sB s b o e
theorem But2.of {x lp:Addr} {H H6:Hp} {o1 o2:HO} (s:Same H H6):But2 x lp H (upd (upd H6 lp o1) x o2):=λ b o e n1 n2=>by rw [Ak n1,Ak n2];exact s _ _ e
def BJ (c:Cs):Sp:=λ vs H Q E=>∃ x B lp d st b more,vs=[.ref x, .ref b]/\HandAt c B H x lp d st/\DrOk d/\H b=some (.dK more)/\((∃ d',st.length<=100/\Turns H d more d'/\DrOk d'/\d'.th.length=d.th.length/\d'.td.length=d.td.length/\
  Told c B H x lp d' (st++[(d,Oq d d')]) (Oq d d') Q)\/(TurnsB H d more/\∀ H',Same H H'->E (.ref c.BadDraft) none H'))
abbrev EE:Stmt:=Aq (top 56) 4
theorem sc_Hand_alter:FnScope ["self","changes","later","picks","ends"] ["self","changes"] (Ah EE):=⟨rfl,rfl,rfl,by decide +kernel,rfl,by decide +kernel,by decide +kernel⟩
theorem Ji {f:Addr} {fd:FuncData} (F:Fun K "alter" "Hand.alter" EE f fd) (T:Txt K mg c) (c_changed_draft:BF P w K mg base "changed_draft" 8 ["draft","changes"] (AJ c)) (c_other_places:Az P w K mg base "other_places" 1 ["members","later"] (ET K)) (c_lifts_of:Az P w K mg base "lifts_of" 3 ["draft"] (E6 c)) (d_Hand_bring:Bm P w K mg base c.Hand "bring" 1 ["self","later","picks","ends"] (Bo c)):FnOk P w K mg base (CXE P w) 9 f fd ["self","changes"] (BJ c):=by
  refine Fun.okE F sc_Hand_alter (λ vs H Q E h=> ?_) (λ cdv A outer s H vs Q E hr h=> ?_)
  · obtain ⟨x,B,lp,d,st,b,more,rfl,_⟩:=h;rfl
  · obtain ⟨x,B,lp,d,st,b,more,rfl,hA,ok,hb,hk⟩:=h;obtain ⟨dx,y,refs,hx,hl,D0,S0⟩:=hA.ex;have DH:=D0.same hA.sB;refine ⟨_,(Ad (Ap (i:=2) sc_Hand_alter.nd rfl (Or.inl rfl) (Aw c_changed_draft hr AF (Aa (Au (K:=K) (pv 0) rfl) (Aa (pv 1) Ab))))
      (Ad (Ap (i:=3) sc_Hand_alter.nd rfl (Or.inl rfl) (Ag c_other_places (hr.mono (by decide)) (Aa (Ag c_lifts_of (hr.mono (by decide)) (Aa (Au (K:=K) (pv 0) rfl) Ab)) (Aa (Ag c_lifts_of (hr.mono (by decide)) (Aa (pv 2) Ab)) Ab))))
      (Ad (Ap (i:=4) sc_Hand_alter.nd rfl (Or.inl rfl) (Ag c_other_places (hr.mono (by decide)) (Aa (Au (K:=K) (Au (K:=K) (pv 0) rfl) rfl) (Aa (Au (K:=K) (pv 2) rfl) Ab))))
      (Ad (Av (J9 (K:=K) PySem.F.plainAttrs_list PySem.F.slot_list_append PySem.F.type_list_append C7 (Au (K:=K) (pv 0) rfl) (Aa (A2 (Aa (Au (K:=K) (pv 0) rfl) (Aa (pv 3) (Aa (pv 4) Ab)))) Ab)))
      (Af (An (Ee (pv 0) d_Hand_bring (hr.mono (by decide)) (Aa (pv 2) (Aa (pv 3) (Aa (pv 4) Ab)))))))))),?_⟩
    walk_at "w";refine ⟨_,_,_,_,_,rfl,hx,T.kd_Hand.cl,T.na_Hand_held,rfl,?_⟩;walk_at "w";rcases hk with ⟨d',ls,tu,ok',l1,l2,k⟩ | ⟨tb,k⟩
    case inr=>exact ⟨y,d,b,more,rfl,DH,ok,hb, .inr ⟨tb,k⟩⟩
    refine ⟨y,d,b,more,rfl,DH,ok,hb, .inl ⟨d',tu,ok',λ H1 y' s1 n' D1=> ?_⟩⟩;walk_at "w";refine ⟨_,_,_,_,_,rfl,s1 _ _ hx,T.kd_Hand.cl,T.na_Hand_held,rfl,?_⟩;walk_at "w";refine ⟨y,d,rfl,DH.same s1,ok,λ H2 p2 s2 n2 g2=> ?_⟩;walk_at "w";refine ⟨y',d',rfl,D1.same s2,ok',λ H3 p3 s3 n3 g3=> ?_⟩;walk_at "w";have p2':=ok.p2;have s03:=s1.trans (s2.trans s3);refine ⟨false,false,p2,p3,OC d,OC d',rfl,SqL.of (s3 _ _ g2),SqL.of g3,by simp [l2],by simp;omega,λ H4 p4 s4 n4 g4=> ?_⟩;have s04:=s03.trans s4;obtain ⟨dy,v1,v2,v3,v4,v5,hy,r1,_⟩:=DH;obtain ⟨dy',w1,w2,w3,w4,w5,hy',q1,_⟩:=id D1;obtain ⟨a1,rfl,e1,_⟩:=Dq r1;obtain ⟨a2,rfl,e2,_⟩:=Dq q1;walk_at "w";refine ⟨_,_,_,_,_,rfl,s04 _ _ hx,T.kd_Hand.cl,T.na_Hand_held,rfl,?_⟩;walk_at "w";refine ⟨_,_,_,_,_,rfl,s04 _ _ hy,T.kd_Draft.cl,T.na_Draft_threading,rfl,?_⟩;walk_at "w";have s14:=s2.trans (s3.trans s4);refine ⟨_,_,_,_,_,rfl,s14 _ _ hy',T.kd_Draft.cl,T.na_Draft_threading,rfl,?_⟩;walk_at "w";have h2':=ok.h2;refine ⟨true,true,a1,a2,d.th,d'.th,rfl,SqT.of (s04 _ _ e1),SqT.of (s14 _ _ e2),l1.symm,by omega,λ H5 p5 s5 n5 g5=> ?_⟩;have s05:=s04.trans s5;walk_at "w";refine ⟨_,_,_,_,_,rfl,s05 _ _ hx,T.kd_Hand.cl,T.na_Hand_past,rfl,?_⟩;refine tyL (SqL.of (s05 _ _ hl)) ?_;walk_at "w";refine ⟨_,_,_,_,_,rfl,s05 _ _ hx,T.kd_Hand.cl,T.na_Hand_held,rfl,?_⟩;walk_at "w";row_lines H5 x6;have s06:=s05.trans s6;walk_at "w";refine S5 (s06 _ _ hl) (by rw [S0.len];omega) ?_;walk_at "w";have nlx:lp≠x:=Cg hl hx (by intro z;cases z);refine ⟨_,_,_,rfl,(Ak nlx.symm).trans (s06 _ _ hx),rfl,?_⟩;walk_at "w";have n4l:p4≠lp:=λ z=>by rw [z,s03 _ _ hl] at n4;cases n4
    have n5l:p5≠lp:=λ z=>by rw [z,s04 _ _ hl] at n5;cases n5
    have g46:=s6 _ _ (s5 _ _ g4);have g56:=s6 _ _ g5;refine ⟨x,dx,lp,y,y',p4,p5,(Oq d d').1,(Oq d d').2,rfl,(Ak nlx.symm).trans (s06 _ _ hx),(Ak n4l).trans g46,(Ak n5l).trans g56,λ H' p l1 l2 np nl1 nl2 sH hp hl1 hl2=> ?_⟩;have fr:∀ b,upd H6 lp (HO.lst (refs++[.ref p6])) b=none->b≠x->upd (upd H6 lp (HO.lst (refs++[.ref p6]))) x (HO.ins c.Hand dx [("held", .ref y'),("past", .ref lp)]) b=none:=λ b e n=>by rw [Ak n];exact e
    have nx:∀ b,upd H6 lp (HO.lst (refs++[.ref p6])) b=none->b≠x:=λ b e z=>by
      rw [z,(Ak nlx.symm).trans (s06 _ _ hx)] at e;cases e
    exact k (Ge B H H6) _ H' p l1 l2 KU Fx (But2.of s06) (hA.push hx hl D0 S0 s06 n' ((D1.same s14).same (s5.trans s6)) (s05.free n6) g6 (s03.free n4) g46 (s04.free n5) g56) (fr _ np (nx _ np)) (fr _ nl1 (nx _ nl1)) (fr _ nl2 (nx _ nl2)) sH hp hl1 hl2
inductive LLs (H:Hp) (F:Addr->Prop):List V->List (List Nat)->Prop where
  | nil:LLs H F [] []
  | cons {v:V} {vs:List V} {l:List Nat} {ls:List (List Nat)} (h:Rp H F 1 v (dL l)) (t:LLs H F vs ls):LLs H F (v::vs) (l::ls)
theorem LLs.len {H:Hp} {vs:List V} {ls:List (List Nat)} (h:LLs H F vs ls):vs.length=ls.length:=by
  induction h with
  | nil=>rfl
  | cons h t ih=>rw [Ac4,Ac4,ih]
theorem LLs.same {H H':Hp} {vs:List V} {ls:List (List Nat)} (h:LLs H F vs ls) (s:Same H H'):LLs H' F vs ls:=by
  induction h with
  | nil=>exact .nil
  | cons h t ih=>exact .cons (h.same s) ih
theorem LLs.of {H:Hp} {F:Addr->Prop} {v:V} {ls:List (List Nat)} (r:Rp H F 2 v (dLL ls)):∃ a vs,v= .ref a/\H a=some (.lst vs)/\LLs H FT vs ls/\vs.length<=100000:=by
  obtain ⟨m,a,vs,em,rfl,h,_,l,b,el⟩:=GO r;cases em;refine ⟨a,vs,rfl,h,?_,b⟩;clear h b r
  induction ls generalizing vs with
  | nil=>
    cases vs with
    | nil=>exact .nil
    | cons v vs=>simp at l
  | cons x ls ih=>
    cases vs with
    | nil=>simp at l
    | cons v vs=>exact .cons ((el 0 (by simp)).imp λ _ _=>trivial) (ih vs (by simpa using l) λ i hi=>el (i+1) (by simpa using hi))
def DY {α:Type} (xs:List α) (k:Nat) (v:α):List α:=xs.take k++v::xs.drop k
theorem Gh {α:Type} {xs:List α} {k:Nat} {v:α} (h:k<=xs.length):(DY xs k v).length=xs.length+1:=by
  unfold DY;rw [Ac7,Ac4,Ad1,Ag7];omega
theorem Fk {α:Type} {xs:List α} {k:Nat} {v u:α} (h:u∈DY xs k v):u=v\/u∈xs:=by
  unfold DY at h;rcases List.mem_append.mp h with h | h
  · exact .inr (List.mem_of_mem_take h)
  · rcases Ab5.mp h with h | h
    · exact .inl h
    · exact .inr (List.mem_of_mem_drop h)
inductive Dd where
  | th (e s:Nat)
  | ti (t:Nat) (l:List Nat)
  | td (p:Nat) (l:List Nat)
  | co (w:Bool) (n:Nat) (z:Str)
  | pe (e s:Nat) (z:Str)
  | pp (p:Nat) (l:List Nat) (z:Str)
  | te (e:Nat)
  | tp (p:Nat)
def Dd.ok (d:Dr):Dd->Prop
  | .th e s=>1<=e/\e<=d.th.length/\s<=d.sh
  | .ti t l=>1<=t/\t<=d.tr/\Rise d.sh l
  | .td p l=>1<=p/\p<=d.td.length/\Rise d.tr l
  | .co w n z=>1<=n/\n<=(if w=true then d.td.length else d.th.length)/\Fa z
  | .pe e s z=>1<=e/\e<=d.th.length+1/\s<=d.sh/\Fa z/\d.th.length<60
  | .pp p l z=>1<=p/\p<=d.td.length+1/\Rise d.tr l/\Fa z/\d.td.length<60
  | .te e=>1<=e/\e<=d.th.length/\1<d.th.length
  | .tp p=>1<=p/\p<=d.td.length/\1<d.td.length
def Dd.go (d:Dr):Dd->Dr
  | .th e s=>{ d with th:=d.th.set (e - 1) s }
  | .ti t l=>{ d with ti:=d.ti.set (t - 1) l }
  | .td p l=>{ d with td:=d.td.set (p - 1) l }
  | .co w n z=>if w=true then { d with we:=d.we.set (n - 1) z } else { d with wa:=d.wa.set (n - 1) z }
  | .pe e s z=>{ d with th:=DY d.th (e - 1) s,wa:=DY d.wa (e - 1) z }
  | .pp p l z=>{ d with td:=DY d.td (p - 1) l,we:=DY d.we (p - 1) z }
  | .te e=>{ d with th:=d.th.eraseIdx (e - 1),wa:=d.wa.eraseIdx (e - 1) }
  | .tp p=>{ d with td:=d.td.eraseIdx (p - 1),we:=d.we.eraseIdx (p - 1) }
theorem Ft {α:Type} {xs:List α} {k:Nat} {v u:α} (h:u∈xs.set k v):u=v\/u∈xs:=(List.mem_or_eq_of_mem_set h).symm
theorem Dd.go_ok {d:Dr} (ok:DrOk d) (x:Dd) (h:x.ok d):DrOk (x.go d):=by
  have h1:=ok.h1;have h2:=ok.h2;have p1:=ok.p1;have p2:=ok.p2;have wl:=ok.wl;have fl:=ok.fl;cases x with
  | th e s=>exact { ok with h1:=by show 1<=(d.th.set _ _).length;simpa using h1,h2:=by show (d.th.set _ _).length<=60;simpa using h2,hs:=λ n hn=>(Ft hn).elim (λ z=>z▸h.2.2) (ok.hs n),wl:=by show d.wa.length=(d.th.set _ _).length;simpa using wl }
  | ti t l=>exact { ok with il:=by show (d.ti.set _ _).length=d.tr;simpa using ok.il,ir:=λ n hn=>(Ft hn).elim (λ z=>z▸h.2.2) (ok.ir n) }
  | td p l=>exact { ok with p1:=by show 1<=(d.td.set _ _).length;simpa using p1,p2:=by show (d.td.set _ _).length<=60;simpa using p2,pr:=λ n hn=>(Ft hn).elim (λ z=>z▸h.2.2) (ok.pr n),fl:=by show d.we.length=(d.td.set _ _).length;simpa using fl }
  | co w n z=>
    cases w with
    | true=>exact { ok with fl:=by show (d.we.set _ _).length=d.td.length;simpa using fl,fc:=λ n hn=>(Ft hn).elim (λ q=>q▸h.2.2) (ok.fc n) }
    | false=>exact { ok with wl:=by show (d.wa.set _ _).length=d.th.length;simpa using wl,wc:=λ n hn=>(Ft hn).elim (λ q=>q▸h.2.2) (ok.wc n) }
  | pe e s z=>
    obtain ⟨a1,a2,a3,a4,a5⟩:=h;have l1:(DY d.th (e - 1) s).length=d.th.length+1:=Gh (by omega);have l2:(DY d.wa (e - 1) z).length=d.wa.length+1:=Gh (by omega);exact { ok with h1:=by show 1<=(DY _ _ _).length;omega,h2:=by show (DY _ _ _).length<=60;omega,hs:=λ n hn=>(Fk hn).elim (λ q=>q▸a3) (ok.hs n),wl:=by show (DY _ _ _).length=(DY _ _ _).length;omega,wc:=λ n hn=>(Fk hn).elim (λ q=>q▸a4) (ok.wc n) }
  | pp p l z=>
    obtain ⟨a1,a2,a3,a4,a5⟩:=h;have l1:(DY d.td (p - 1) l).length=d.td.length+1:=Gh (by omega);have l2:(DY d.we (p - 1) z).length=d.we.length+1:=Gh (by omega);exact { ok with p1:=by show 1<=(DY _ _ _).length;omega,p2:=by show (DY _ _ _).length<=60;omega,pr:=λ n hn=>(Fk hn).elim (λ q=>q▸a3) (ok.pr n),fl:=by show (DY _ _ _).length=(DY _ _ _).length;omega,fc:=λ n hn=>(Fk hn).elim (λ q=>q▸a4) (ok.fc n) }
  | te e=>
    obtain ⟨a1,a2,a3⟩:=h;have l1:(d.th.eraseIdx (e - 1)).length=d.th.length - 1:=by rw [Ag2,if_pos (by omega)]
    have l2:(d.wa.eraseIdx (e - 1)).length=d.wa.length - 1:=by rw [Ag2,if_pos (by omega)]
    exact { ok with h1:=by show 1<=(d.th.eraseIdx _).length;omega,h2:=by show (d.th.eraseIdx _).length<=60;omega,hs:=λ n hn=>ok.hs n (Af5 hn),wl:=by show (d.wa.eraseIdx _).length=(d.th.eraseIdx _).length;omega,wc:=λ n hn=>ok.wc n (Af5 hn) }
  | tp p=>
    obtain ⟨a1,a2,a3⟩:=h;have l1:(d.td.eraseIdx (p - 1)).length=d.td.length - 1:=by rw [Ag2,if_pos (by omega)]
    have l2:(d.we.eraseIdx (p - 1)).length=d.we.length - 1:=by rw [Ag2,if_pos (by omega)]
    exact { ok with p1:=by show 1<=(d.td.eraseIdx _).length;omega,p2:=by show (d.td.eraseIdx _).length<=60;omega,pr:=λ n hn=>ok.pr n (Af5 hn),fl:=by show (d.we.eraseIdx _).length=(d.td.eraseIdx _).length;omega,fc:=λ n hn=>ok.fc n (Af5 hn) }
theorem ED (ms:List Nat):Lm ms ms=[]:=by
  unfold Lm;rw [List.filter_eq_nil_iff.mpr (by simp)];rfl
theorem is1 (s:Str) (v:V):AI [] [((.inr s:Key),v)]=[((.inr s:Key),v)]:=rfl
theorem RN (v1 v2:V):AI [] [((.inr "threading":Key),v1),(.inr "warp",v2)]=[((.inr "threading":Key),v1),(.inr "warp",v2)]:=by kernel_rfl
theorem RM (v1 v2:V):AI [] [((.inr "treading":Key),v1),(.inr "weft",v2)]=[((.inr "treading":Key),v1),(.inr "weft",v2)]:=by kernel_rfl
theorem PL {H1:Hp} {d:Dr} {w0 w1 w2 w3 w4 w5 w6:V} (P:Parts H1 d [w0,w1,w2,w3,w4,w5,w6]):∃ a1 a4 a5,w0=nV d.sh/\w1=nV d.tr/\w2= .ref a1/\w5= .ref a4/\w6= .ref a5/\H1 a1=some (.lst (d.th.map nV))/\Rp H1 FT 2 w3 (dLL d.ti)/\Rp H1 FT 2 w4 (dLL d.td)/\H1 a4=some (.lst (d.wa.map V.str))/\H1 a5=some (.lst (d.we.map V.str)):=by
  obtain ⟨a1,v2,v3,a4,a5,e,h1,h2,h3,h4,h5⟩:=P.ex;cases e;exact ⟨a1,a4,a5,rfl,rfl,rfl,rfl,rfl,h1,h2,h3,h4,h5⟩
theorem Z3 {H:Hp} {d:Dr} {l:Addr} {wa:List Str} (g:H l=some (.lst (wa.map V.str))):Turns H d [((.inr "warp":Key), .ref l)] { d with wa:=wa }:=by
  refine ⟨(show 1<=15 by decide),λ H1 w0 w1 w2 w3 w4 w5 w6 s P=> ?_⟩;obtain ⟨a1,a4,a5,rfl,rfl,rfl,rfl,rfl,h1,h2,h3,h4,h5⟩:=PL P;refine ⟨_,_,_,_,_, .ref l,_,⟨_,_,_,_,_,rfl,h1,h2,h3,s _ _ g,h5⟩,λ j u e=> ?_⟩;rcases j with _ | _ | _ | _ | _ | _ | _ | j <;> cases e <;> kernel_rfl
theorem VT {H:Hp} {d:Dr} {l:Addr} {we:List Str} (g:H l=some (.lst (we.map V.str))):Turns H d [((.inr "weft":Key), .ref l)] { d with we:=we }:=by
  refine ⟨(show 1<=15 by decide),λ H1 w0 w1 w2 w3 w4 w5 w6 s P=> ?_⟩;obtain ⟨a1,a4,a5,rfl,rfl,rfl,rfl,rfl,h1,h2,h3,h4,h5⟩:=PL P;refine ⟨_,_,_,_,_,_, .ref l,⟨_,_,_,_,_,rfl,h1,h2,h3,h4,s _ _ g⟩,λ j u e=> ?_⟩;rcases j with _ | _ | _ | _ | _ | _ | _ | j <;> cases e <;> kernel_rfl
theorem B3 {H H2 H3:Hp} {p:Addr} {o:HO} (eu:upd H2 p o=H3) (n:H p=none) (s:Same H H2):Same H H3:=λ q u e=>by
  rw [<-eu,Ak (Ay e n)];exact s _ _ e
theorem CH {H2 H3:Hp} {p:Addr} {o:HO} {kvs:List (Key × V)} (eu:upd H2 p o=H3) (gp:H2 p=some (.dK kvs)):∀ q xs,H2 q=some (.lst xs)->H3 q=some (.lst xs):=λ q xs e=>by
  rw [<-eu,Ak λ z=>by rw [z,gp] at e;cases e];exact e
theorem F3 {H1:Hp} {d:Dr} {w0 w1 w2 w3 w4 w5 w6:V} (ok:DrOk d) (P:Parts H1 d [w0,w1,w2,w3,w4,w5,w6]):PTh H1 w0 w1 w2 w3 w4 w5 w6/\w0=nV d.sh/\w1=nV d.tr/\(lsD H1 w2).length=d.th.length/\(lsD H1 w4).length=d.td.length:=by
  have pt:=(LM P ok).1;obtain ⟨a1,a4,a5,rfl,rfl,rfl,rfl,rfl,h1,h2,h3,h4,h5⟩:=PL P;obtain ⟨xs,e,l⟩:∃ xs,BV H1 w4=some xs/\xs.length=d.td.length:=by
    obtain ⟨m,a,vs,_,rfl,h,_,l,b,el⟩:=GO h3;exact ⟨vs,AG h,by simpa using l⟩
  refine ⟨pt,rfl,rfl,?_,?_⟩
  · unfold lsD;rw [AG h1];simp
  · unfold lsD;rw [e];exact l
theorem Kx {H H1:Hp} {p:Addr} {xs:List V} (s:Same H H1) (g:H p=some (.lst xs)):lsD H1 (.ref p)=xs:=by
  unfold lsD;rw [AG (s _ _ g)];rfl
def thB (sh:Nat) (xs:List V):Bool:=decide (1<=xs.length)&&(decide (xs.length<=60)&&xs.all λ x=>As x 0 (sh:Nat))
theorem K2 {H H1:Hp} {p:Addr} {xs:List V} {lo hi:Int} (s:Same H H1) (g:H p=some (.lst xs)) (h:Co H1 (.ref p) lo hi=true):lo<=xs.length/\xs.length<=hi:=by
  unfold Co at h;rw [AG (s _ _ g)] at h;have h:(decide (lo<=(xs.length:Nat))&&decide (((xs.length:Nat):Int)<=hi))=true:=h;simpa using h
theorem R0 {H:Hp} {d:Dr} {p q:Addr} {xs ys:List V} (ok:DrOk d) (g:H p=some (.lst xs)) (t1:ThL H 1 (.ref p)) (g':H q=some (.lst ys)) (t2:ThL H 1 (.ref q)) (bad:(thB d.sh xs&&BE H (.ref q) (xs.length:Nat))=false):TurnsB H d [((.inr "threading":Key), .ref p),(.inr "warp", .ref q)]:=by
  refine ⟨(show 2<=15 by decide),λ H1 w0 w1 w2 w3 w4 w5 w6 s P=> ?_⟩;obtain ⟨pt,rfl,rfl,l2,l4⟩:=F3 ok P;refine ⟨nV d.sh,nV d.tr, .ref p,w3,w4, .ref q,w6,⟨pt.t0,pt.t1,ThL.same s t1,pt.t3,pt.t4,ThL.same s t2,pt.t6⟩,?_,λ j u e=>by
    rcases j with _ | _ | _ | _ | _ | _ | _ | j <;> cases e <;> kernel_rfl⟩
  refine Ae2.mpr λ h=> ?_;simp only [drB,Ab3] at h;obtain ⟨_,_,h2,h3,_,_,_,_,h5,_⟩:=h;rw [Kx s g] at h3 h5;have:=K2 s g h2;rw [BK (ThL.th t2) s] at h5;rw [h5,Bool.and_true] at bad;unfold thB at bad;rw [decide_eq_true (by omega),decide_eq_true (by omega),Ac8,Ac8] at bad;have h3:(xs.all λ x=>As x 0 (d.sh:Nat))=true:=h3;rw [h3] at bad;cases bad
theorem bc {H:Hp} {d:Dr} {p:Addr} {xs:List V} (ok:DrOk d) (g:H p=some (.lst xs)) (t1:ThL H 1 (.ref p)) (bad:thB d.sh xs=false):TurnsB H d [((.inr "threading":Key), .ref p)]:=by
  refine ⟨(show 1<=15 by decide),λ H1 w0 w1 w2 w3 w4 w5 w6 s P=> ?_⟩;obtain ⟨pt,rfl,rfl,l2,l4⟩:=F3 ok P;refine ⟨nV d.sh,nV d.tr, .ref p,w3,w4,w5,w6,⟨pt.t0,pt.t1,ThL.same s t1,pt.t3,pt.t4,pt.t5,pt.t6⟩,?_,λ j u e=>by
    rcases j with _ | _ | _ | _ | _ | _ | _ | j <;> cases e <;> kernel_rfl⟩
  refine Ae2.mpr λ h=> ?_;simp only [drB,Ab3] at h;obtain ⟨_,_,h2,h3,_⟩:=h;rw [Kx s g] at h3;have:=K2 s g h2;unfold thB at bad;rw [decide_eq_true (by omega),decide_eq_true (by omega),Ac8,Ac8] at bad;have h3:(xs.all λ x=>As x 0 (d.sh:Nat))=true:=h3;rw [h3] at bad;cases bad
theorem KP {H H1:Hp} {p:Addr} {xs:List V} {m:Int} (s:Same H H1) (g:H p=some (.lst xs)) (t:ThL H 2 (.ref p)) (h:(lsD H1 (.ref p)).all (λ x=>Bi H1 x m)=true):(xs.all λ x=>Bi H x m)=true:=by
  rw [Kx s g] at h;rw [Ac0] at h ⊢;intro x hx;rw [<-BD (ThL.th ((t.2 xs (AG g)).2 x hx)) s];exact h x hx
theorem WU {H:Hp} {d:Dr} {p:Addr} {xs:List V} (ok:DrOk d) (g:H p=some (.lst xs)) (t1:ThL H 2 (.ref p)) (bad:(xs.all λ x=>Bi H x (d.sh:Nat))=false):TurnsB H d [((.inr "ties":Key), .ref p)]:=by
  refine ⟨(show 1<=15 by decide),λ H1 w0 w1 w2 w3 w4 w5 w6 s P=> ?_⟩;obtain ⟨pt,rfl,rfl,l2,l4⟩:=F3 ok P;refine ⟨nV d.sh,nV d.tr,w2, .ref p,w4,w5,w6,⟨pt.t0,pt.t1,pt.t2,ThL.same s t1,pt.t4,pt.t5,pt.t6⟩,?_,λ j u e=>by
    rcases j with _ | _ | _ | _ | _ | _ | _ | j <;> cases e <;> kernel_rfl⟩
  refine Ae2.mpr λ h=> ?_;simp only [drB,Ab3] at h;obtain ⟨_,_,_,_,_,h3,_⟩:=h;rw [KP (m:=((d.sh:Nat):Int)) s g t1 h3] at bad;cases bad
theorem Yk {H:Hp} {d:Dr} {p:Addr} {xs:List V} (ok:DrOk d) (g:H p=some (.lst xs)) (t1:ThL H 2 (.ref p)) (bad:(xs.all λ x=>Bi H x (d.tr:Nat))=false):TurnsB H d [((.inr "treading":Key), .ref p)]:=by
  refine ⟨(show 1<=15 by decide),λ H1 w0 w1 w2 w3 w4 w5 w6 s P=> ?_⟩;obtain ⟨pt,rfl,rfl,l2,l4⟩:=F3 ok P;refine ⟨nV d.sh,nV d.tr,w2,w3, .ref p,w5,w6,⟨pt.t0,pt.t1,pt.t2,pt.t3,ThL.same s t1,pt.t5,pt.t6⟩,?_,λ j u e=>by
    rcases j with _ | _ | _ | _ | _ | _ | _ | j <;> cases e <;> kernel_rfl⟩
  refine Ae2.mpr λ h=> ?_;simp only [drB,Ab3] at h;obtain ⟨_,_,_,_,_,_,_,h3,_⟩:=h;rw [KP (m:=((d.tr:Nat):Int)) s g t1 h3] at bad;cases bad
theorem RY {H:Hp} {d:Dr} {p q:Addr} {xs ys:List V} (ok:DrOk d) (g:H p=some (.lst xs)) (t1:ThL H 2 (.ref p)) (g':H q=some (.lst ys)) (t2:ThL H 1 (.ref q)) (bad:((decide (1<=xs.length)&&(decide (xs.length<=60)&&xs.all λ x=>Bi H x (d.tr:Nat)))&&BE H (.ref q) (xs.length:Nat))=false):TurnsB H d [((.inr "treading":Key), .ref p),(.inr "weft", .ref q)]:=by
  refine ⟨(show 2<=15 by decide),λ H1 w0 w1 w2 w3 w4 w5 w6 s P=> ?_⟩;obtain ⟨pt,rfl,rfl,l2,l4⟩:=F3 ok P;refine ⟨nV d.sh,nV d.tr,w2,w3, .ref p,w5, .ref q,⟨pt.t0,pt.t1,pt.t2,pt.t3,ThL.same s t1,pt.t5,ThL.same s t2⟩,?_,λ j u e=>by
    rcases j with _ | _ | _ | _ | _ | _ | _ | j <;> cases e <;> kernel_rfl⟩
  refine Ae2.mpr λ h=> ?_;simp only [drB,Ab3] at h;obtain ⟨_,_,_,_,_,_,h2,h3,_,h5⟩:=h;have:=K2 s g h2;rw [Kx s g,BK (ThL.th t2) s] at h5;rw [h5,Bool.and_true,decide_eq_true (by omega),decide_eq_true (by omega),Ac8,Ac8,KP (m:=((d.tr:Nat):Int)) s g t1 h3] at bad;cases bad
theorem ZF {H:Hp} {d:Dr} {q:Addr} {ys:List V} (ok:DrOk d) (g':H q=some (.lst ys)) (t2:ThL H 1 (.ref q)) (bad:BE H (.ref q) (d.th.length:Nat)=false):TurnsB H d [((.inr "warp":Key), .ref q)]:=by
  refine ⟨(show 1<=15 by decide),λ H1 w0 w1 w2 w3 w4 w5 w6 s P=> ?_⟩;obtain ⟨pt,rfl,rfl,l2,l4⟩:=F3 ok P;refine ⟨nV d.sh,nV d.tr,w2,w3,w4, .ref q,w6,⟨pt.t0,pt.t1,pt.t2,pt.t3,pt.t4,ThL.same s t2,pt.t6⟩,?_,λ j u e=>by
    rcases j with _ | _ | _ | _ | _ | _ | _ | j <;> cases e <;> kernel_rfl⟩
  refine Ae2.mpr λ h=> ?_;simp only [drB,Ab3] at h;obtain ⟨_,_,_,_,_,_,_,_,h5,_⟩:=h;rw [l2,BK (ThL.th t2) s,bad] at h5;cases h5
theorem Yn {H:Hp} {d:Dr} {q:Addr} {ys:List V} (ok:DrOk d) (g':H q=some (.lst ys)) (t2:ThL H 1 (.ref q)) (bad:BE H (.ref q) (d.td.length:Nat)=false):TurnsB H d [((.inr "weft":Key), .ref q)]:=by
  refine ⟨(show 1<=15 by decide),λ H1 w0 w1 w2 w3 w4 w5 w6 s P=> ?_⟩;obtain ⟨pt,rfl,rfl,l2,l4⟩:=F3 ok P;refine ⟨nV d.sh,nV d.tr,w2,w3,w4,w5, .ref q,⟨pt.t0,pt.t1,pt.t2,pt.t3,pt.t4,pt.t5,ThL.same s t2⟩,?_,λ j u e=>by
    rcases j with _ | _ | _ | _ | _ | _ | _ | j <;> cases e <;> kernel_rfl⟩
  refine Ae2.mpr λ h=> ?_;simp only [drB,Ab3] at h;obtain ⟨_,_,_,_,_,_,_,_,_,h5⟩:=h;rw [l4,BK (ThL.th t2) s,bad] at h5;cases h5
theorem CF {v:V} {m:Nat} (h:As v 1 (m:Nat)=true):∃ e:Nat,v=nV e/\1<=e/\e<=m:=by
  obtain ⟨i,rfl⟩:=G2 h;have h:(decide ((1:Int)<=i)&&decide (i<=(m:Nat)))=true:=h;simp only [Ab3,decide_eq_true_eq] at h;exact ⟨i.toNat,by show V.int i=V.int _;congr 1;omega,by omega,by omega⟩
theorem Br {H:Hp} {p:Addr} {xs:List V} (g:H p=some (.lst xs)) (l:xs.length<=100000) (t:∀ x∈xs,Th H x):ThL H 1 (.ref p):=⟨.lst g,λ ys e=>by
  rw [AG g] at e;cases e;exact ⟨l,t⟩⟩
theorem GF {H:Hp} {p:Addr} {xs:List V} (g:H p=some (.lst xs)) (l:xs.length<=100000) (t:∀ x∈xs,ThL H 1 x):ThL H 2 (.ref p):=⟨.lst g,λ ys e=>by
  rw [AG g] at e;cases e;exact ⟨l,t⟩⟩
theorem LLs.thl {H:Hp} {F:Addr->Prop} {vs:List V} {ls:List (List Nat)} (h:LLs H F vs ls):∀ v∈vs,ThL H 1 v:=by
  induction h with
  | nil=>intro v hv;cases hv
  | cons h t ih=>
    intro v hv;rcases Ab5.mp hv with z | z
    · obtain ⟨b,e,g,_,l⟩:=IC h;rw [z,e];exact K9 g l
    · exact ih v z
theorem LLs.lsts {H H':Hp} {F:Addr->Prop} {vs:List V} {ls:List (List Nat)} (h:LLs H F vs ls) (k:∀ a xs,H a=some (.lst xs)->H' a=some (.lst xs)):LLs H' F vs ls:=by
  induction h with
  | nil=>exact .nil
  | cons h t ih=>
    obtain ⟨b,rfl,g,fb,lb⟩:=IC h;exact .cons (Gu (k _ _ g) fb lb) ih
theorem HW {p:V->Bool} {xs:List V} {k:Nat} {w:V} (h:k<xs.length) (b:p w=false):(xs.set k w).all p=false:=by
  rw [List.all_eq_false];exact ⟨w,List.mem_set h w,by rw [b];simp⟩
theorem KJ {H:Hp} {xs:List V} {k:Nat} {w:V} {P:V->Prop} (h:∀ x∈xs,P x) (t:P w):∀ x∈xs.set k w,P x:=λ x hx=>(Ft hx).elim (λ z=>z▸t) (h x)
theorem Mc {H:Hp} {ns:List Nat}:∀ x∈ns.map nV,Th H x:=λ x hx=>by
  obtain ⟨n,_,rfl⟩:=Ad0.mp hx;exact .int _
def Ref (c:Cs) (H:Hp) (E:XK) (v:V) (m:Nat) (bad:Bool):Prop:=
  (As v 1 (m:Nat)=false/\∀ H',Same H H'->E (.ref c.OutOfPlace) none H')\/(As v 1 (m:Nat)=true/\bad=true/\∀ H',Same H H'->E (.ref c.BadDraft) none H')
def EK (c:Cs):Sp:=λ vs H _ E=>∃ x B lp d st v w,vs=[.ref x,v,w]/\HandAt c B H x lp d st/\DrOk d/\Th H v/\Th H w/\Ref c H E v d.th.length (!As w 0 (d.sh:Nat))
abbrev DF:Stmt:=Aq (top 56) 5
theorem Jc:FnScope ["self","end","shaft"] ["self","end","shaft"] (Ah DF):=⟨rfl,rfl,rfl,by decide +kernel,rfl,by decide +kernel,by decide +kernel⟩
theorem Jf {f:Addr} {fd:FuncData} (F:Fun K "thread" "Hand.thread" DF f fd) (T:Txt K mg c) (c_need_place:BF P w K mg base "need_place" 3 ["thing","most"] (AT K c)) (d_Draft_ends:Bm P w K mg base c.Draft "ends" 1 ["self"] (BR c)) (d_Hand_alter:A4 P w K mg base c.Hand "alter" 9 ["self","changes"] (BJ c)) (c_replaced_at:Az P w K mg base "replaced_at" 1 ["members","place","thing"] (BM K)):FnOk P w K mg base (CXE P w) 10 f fd ["self","end","shaft"] (EK c):=by
  refine Fun.okE F Jc (λ vs H Q E h=> ?_) (λ cdv A outer s H vs Q E hr h=> ?_)
  · obtain ⟨x,B,lp,d,st,v,w,rfl,_⟩:=h;rfl
  · obtain ⟨x,B,lp,d,st,v,w',rfl,hA,ok,tv,tw,hk⟩:=h;obtain ⟨dx,y,refs,hx,hl,D0,S0⟩:=hA.ex;have DH:=D0.same hA.sB;obtain ⟨dy,v1,v2,v3,v4,v5,hy,r1,_⟩:=id DH;obtain ⟨a1,rfl,e1,_⟩:=Dq r1;have h2':=ok.h2;refine ⟨_,(Ad (Av (Aw c_need_place (hr.mono (by decide)) AF (Aa (pv 1) (Aa (AQ (Au (K:=K) (pv 0) rfl) d_Draft_ends (hr.mono (by decide))) Ab))))
      (Af (An (AY (pv 0) d_Hand_alter hr AF (Aa (Du (BC Al (Ag c_replaced_at (hr.mono (by decide)) (Aa (Au (K:=K) (Au (K:=K) (pv 0) rfl) rfl) (Aa (pv 1) (Aa (pv 2) Ab)))) Dw) rfl rfl (by simp) (by decide)) Ab))))),?_⟩
    walk_at "w";refine ⟨_,_,_,_,_,rfl,hx,T.kd_Hand.cl,T.na_Hand_held,rfl,?_⟩;walk_at "w";refine ⟨_,_,_,rfl,hy,rfl,?_⟩;walk_at "w";refine ⟨y,d,rfl,DH,?_⟩;walk_at "w";refine ⟨v,_,rfl,tv.ty,λ hv=> ?_,λ hv=> ?_⟩
    case refine_2=>
      rcases hk with ⟨_,k⟩ | ⟨z,_⟩
      · exact k H (Same.refl _)
      · rw [hv] at z;cases z
    rcases hk with ⟨z,_⟩ | ⟨_,bad,k⟩
    · rw [hv] at z;cases z
    obtain ⟨e,rfl,h1,h2⟩:=CF hv;walk_at "w";refine AR ?_;walk_at "w";refine ⟨_,_,_,rfl,hx,rfl,?_⟩;walk_at "w";row_lines H x0;walk_at "w";refine ⟨_,_,_,_,_,rfl,s0 _ _ hx,T.kd_Hand.cl,T.na_Hand_held,rfl,?_⟩;walk_at "w";refine ⟨_,_,_,_,_,rfl,s0 _ _ hy,T.kd_Draft.cl,T.na_Draft_threading,rfl,?_⟩;walk_at "w";refine ⟨true,a1,_,e,w',rfl,SqT.of (s0 _ _ e1),h1,by simpa using h2,by simp;omega,λ H1 p1 s1 n1 g1=> ?_⟩;walk_at "w";have gp:=s1 _ _ g0;refine ⟨gp,[((.inr "threading":Key), .ref p1)],rfl,by simp,?_⟩;rw [is1];generalize eu:upd H1 p0 _=H3;have s3:=B3 eu n0 (s0.trans s1);have g3:H3 p0=_:=(congrFun eu p0).symm.trans Ae;have k3:=CH eu gp;clear eu;walk_at "w";refine ⟨x,B,lp,d,st,p0,_,rfl,hA.same s3,ok,g3, .inr ⟨bc ok (k3 _ _ g1) (Br (k3 _ _ g1) (by simp;omega) (KJ (H:=H3) Mc (tw.same s3))) ?_,λ H' s'=>k H' (s3.trans s')⟩⟩;unfold thB;rw [HW (by simp;omega) (by simpa using bad),Bool.and_false,Bool.and_false]
def Ca (c:Cs):Sp:=λ vs H Q _=>∃ x d,vs=[.ref x]/\DrAt c.Draft H x d/\Q (nV d.td.length) H
abbrev DN:Stmt:=Aq (top 28) 3
theorem IN:FnScope ["self"] ["self"] (Ah DN):=⟨rfl,rfl,rfl,by decide +kernel,rfl,by decide +kernel,by decide +kernel⟩
theorem IZ {f:Addr} {fd:FuncData} (F:Fun K "picks" "Draft.picks" DN f fd) (T:Txt K mg c):FnOk P w K mg base CX0 1 f fd ["self"] (Ca c):=by
  refine F.ok IN (λ vs H Q E h=> ?_) (λ cdv A outer s H vs Q E hr h=> ?_)
  · obtain ⟨x,d,rfl,_⟩:=h;rfl
  · obtain ⟨x,d,rfl,⟨dx,v1,v2,v3,v4,v5,h0,h1,h2,h3,h4,h5⟩,k⟩:=h;obtain ⟨m3,a3,vs3,em3,rfl,e3,l3,b3,el3⟩:=GJ h3;rw [Aa2] at l3;refine ⟨_,(Af (An (Am (CV (K:=K)) rfl (T.own _ (by decide)) boot_len (Aa (Au (K:=K) (pv 0) rfl) Ab)))),?_⟩;walk_at "w";refine ⟨_,_,_,_,_,rfl,h0,T.kd_Draft.cl,T.na_Draft_treading,rfl,?_⟩;walk_at "w";refine HS (SqT.of e3) ?_;rw [l3];exact k
def GA (c:Cs):Sp:=λ vs H _ E=>∃ x B lp d st v w,vs=[.ref x,v,w]/\HandAt c B H x lp d st/\DrOk d/\Th H v/\ThL H 1 w/\Ref c H E v d.tr (!Bi H w (d.sh:Nat))
abbrev F7:Stmt:=Aq (top 56) 6
theorem Le:FnScope ["self","treadle","shafts"] ["self","treadle","shafts"] (Ah F7):=⟨rfl,rfl,rfl,by decide +kernel,rfl,by decide +kernel,by decide +kernel⟩
theorem Ls {f:Addr} {fd:FuncData} (F:Fun K "tie" "Hand.tie" F7 f fd) (T:Txt K mg c) (c_need_place:BF P w K mg base "need_place" 3 ["thing","most"] (AT K c)) (c_lists_of:Az P w K mg base "lists_of" 1 ["tuples"] CB) (d_Hand_alter:A4 P w K mg base c.Hand "alter" 9 ["self","changes"] (BJ c)) (c_replaced_at:Az P w K mg base "replaced_at" 1 ["members","place","thing"] (BM K)):FnOk P w K mg base (CXE P w) 10 f fd ["self","treadle","shafts"] (GA c):=by
  refine Fun.okE F Le (λ vs H Q E h=> ?_) (λ cdv A outer s H vs Q E hr h=> ?_)
  · obtain ⟨x,B,lp,d,st,v,w,rfl,_⟩:=h;rfl
  · obtain ⟨x,B,lp,d,st,v,w',rfl,hA,ok,tv,tw,hk⟩:=h;obtain ⟨dx,y,refs,hx,hl,D0,S0⟩:=hA.ex;have DH:=D0.same hA.sB;obtain ⟨dy,v1,v2,v3,v4,v5,hy,r1,r2,r3,_⟩:=id DH;have t2:=ok.t2;have il:=ok.il;refine ⟨_,(Ad (Av (Aw c_need_place (hr.mono (by decide)) AF (Aa (pv 1) (Aa (Au (K:=K) (Au (K:=K) (pv 0) rfl) rfl) Ab))))
      (Af (An (AY (pv 0) d_Hand_alter hr AF (Aa (Du (BC Al (Ag c_replaced_at (hr.mono (by decide)) (Aa (Ag c_lists_of (hr.mono (by decide)) (Aa (Au (K:=K) (Au (K:=K) (pv 0) rfl) rfl) Ab)) (Aa (pv 1) (Aa (pv 2) Ab)))) Dw) rfl rfl (by simp) (by decide)) Ab))))),?_⟩
    walk_at "w";refine ⟨_,_,_,_,_,rfl,hx,T.kd_Hand.cl,T.na_Hand_held,rfl,?_⟩;walk_at "w";refine ⟨_,_,_,_,_,rfl,hy,T.kd_Draft.cl,T.na_Draft_treadles,rfl,?_⟩;walk_at "w";refine ⟨v,_,rfl,tv.ty,λ hv=> ?_,λ hv=> ?_⟩
    case refine_2=>
      rcases hk with ⟨_,k⟩ | ⟨z,_⟩
      · exact k H (Same.refl _)
      · rw [hv] at z;cases z
    rcases hk with ⟨z,_⟩ | ⟨_,bad,k⟩
    · rw [hv] at z;cases z
    obtain ⟨t,rfl,h1,h2⟩:=CF hv;walk_at "w";refine AR ?_;walk_at "w";refine ⟨_,_,_,rfl,hx,rfl,?_⟩;walk_at "w";row_lines H x0;walk_at "w";refine ⟨_,_,_,_,_,rfl,s0 _ _ hx,T.kd_Hand.cl,T.na_Hand_held,rfl,?_⟩;walk_at "w";refine ⟨_,_,_,_,_,rfl,s0 _ _ hy,T.kd_Draft.cl,T.na_Draft_ties,rfl,?_⟩;walk_at "w";refine ⟨_,_,rfl,r2.same s0,λ H1 p1 s1 n1 g1=> ?_⟩;obtain ⟨_,us,ea,gu,lu,_⟩:=LLs.of g1;cases ea;have hu:=lu.len;walk_at "w";refine ⟨false,p1,us,t,w',rfl,SqL.of gu,h1,by omega,by omega,λ H2 p2 s2 n2 g2=> ?_⟩;walk_at "w";have s02:=s0.trans (s1.trans s2);have gp:=s2 _ _ (s1 _ _ g0);refine ⟨gp,[((.inr "ties":Key), .ref p2)],rfl,by simp,?_⟩;rw [is1];generalize eu:upd H2 p0 _=H3;have s3:=B3 eu n0 s02;have g3:H3 p0=_:=(congrFun eu p0).symm.trans Ae;have k3:=CH eu gp;clear eu;have L3:=(lu.same s2).lsts k3;walk_at "w";refine ⟨x,B,lp,d,st,p0,_,rfl,hA.same s3,ok,g3, .inr ⟨WU ok (k3 _ _ g2) (GF (k3 _ _ g2) (by simp;omega) (KJ (H:=H3) L3.thl (ThL.same s3 tw))) ?_,λ H' s'=>k H' (s3.trans s')⟩⟩;exact HW (by omega) (by rw [BD (ThL.th tw) s3];simpa using bad)
def EX (c:Cs):Sp:=λ vs H _ E=>∃ x B lp d st v w,vs=[.ref x,v,w]/\HandAt c B H x lp d st/\DrOk d/\Th H v/\ThL H 1 w/\Ref c H E v d.td.length (!Bi H w (d.tr:Nat))
abbrev Em:Stmt:=Aq (top 56) 7
theorem Jo:FnScope ["self","pick","treadles"] ["self","pick","treadles"] (Ah Em):=⟨rfl,rfl,rfl,by decide +kernel,rfl,by decide +kernel,by decide +kernel⟩
theorem Jy {f:Addr} {fd:FuncData} (F:Fun K "tread" "Hand.tread" Em f fd) (T:Txt K mg c) (c_need_place:BF P w K mg base "need_place" 3 ["thing","most"] (AT K c)) (d_Draft_picks:Bm P w K mg base c.Draft "picks" 1 ["self"] (Ca c)) (c_lists_of:Az P w K mg base "lists_of" 1 ["tuples"] CB) (d_Hand_alter:A4 P w K mg base c.Hand "alter" 9 ["self","changes"] (BJ c)) (c_replaced_at:Az P w K mg base "replaced_at" 1 ["members","place","thing"] (BM K)):FnOk P w K mg base (CXE P w) 10 f fd ["self","pick","treadles"] (EX c):=by
  refine Fun.okE F Jo (λ vs H Q E h=> ?_) (λ cdv A outer s H vs Q E hr h=> ?_)
  · obtain ⟨x,B,lp,d,st,v,w,rfl,_⟩:=h;rfl
  · obtain ⟨x,B,lp,d,st,v,w',rfl,hA,ok,tv,tw,hk⟩:=h;obtain ⟨dx,y,refs,hx,hl,D0,S0⟩:=hA.ex;have DH:=D0.same hA.sB;obtain ⟨dy,v1,v2,v3,v4,v5,hy,r1,r2,r3,_⟩:=id DH;have p2:=ok.p2;refine ⟨_,(Ad (Av (Aw c_need_place (hr.mono (by decide)) AF (Aa (pv 1) (Aa (AQ (Au (K:=K) (pv 0) rfl) d_Draft_picks (hr.mono (by decide))) Ab))))
      (Af (An (AY (pv 0) d_Hand_alter hr AF (Aa (Du (BC Al (Ag c_replaced_at (hr.mono (by decide)) (Aa (Ag c_lists_of (hr.mono (by decide)) (Aa (Au (K:=K) (Au (K:=K) (pv 0) rfl) rfl) Ab)) (Aa (pv 1) (Aa (pv 2) Ab)))) Dw) rfl rfl (by simp) (by decide)) Ab))))),?_⟩
    walk_at "w";refine ⟨_,_,_,_,_,rfl,hx,T.kd_Hand.cl,T.na_Hand_held,rfl,?_⟩;walk_at "w";refine ⟨_,_,_,rfl,hy,rfl,?_⟩;walk_at "w";refine ⟨y,d,rfl,DH,?_⟩;walk_at "w";refine ⟨v,_,rfl,tv.ty,λ hv=> ?_,λ hv=> ?_⟩
    case refine_2=>
      rcases hk with ⟨_,k⟩ | ⟨z,_⟩
      · exact k H (Same.refl _)
      · rw [hv] at z;cases z
    rcases hk with ⟨z,_⟩ | ⟨_,bad,k⟩
    · rw [hv] at z;cases z
    obtain ⟨t,rfl,h1,h2⟩:=CF hv;walk_at "w";refine AR ?_;walk_at "w";refine ⟨_,_,_,rfl,hx,rfl,?_⟩;walk_at "w";row_lines H x0;walk_at "w";refine ⟨_,_,_,_,_,rfl,s0 _ _ hx,T.kd_Hand.cl,T.na_Hand_held,rfl,?_⟩;walk_at "w";refine ⟨_,_,_,_,_,rfl,s0 _ _ hy,T.kd_Draft.cl,T.na_Draft_treading,rfl,?_⟩;walk_at "w";refine ⟨_,_,rfl,r3.same s0,λ H1 p1 s1 n1 g1=> ?_⟩;obtain ⟨_,us,ea,gu,lu,_⟩:=LLs.of g1;cases ea;have hu:=lu.len;walk_at "w";refine ⟨false,p1,us,t,w',rfl,SqL.of gu,h1,by omega,by omega,λ H2 p2 s2 n2 g2=> ?_⟩;walk_at "w";have s02:=s0.trans (s1.trans s2);have gp:=s2 _ _ (s1 _ _ g0);refine ⟨gp,[((.inr "treading":Key), .ref p2)],rfl,by simp,?_⟩;rw [is1];generalize eu:upd H2 p0 _=H3;have s3:=B3 eu n0 s02;have g3:H3 p0=_:=(congrFun eu p0).symm.trans Ae;have k3:=CH eu gp;clear eu;have L3:=(lu.same s2).lsts k3;walk_at "w";refine ⟨x,B,lp,d,st,p0,_,rfl,hA.same s3,ok,g3, .inr ⟨Yk ok (k3 _ _ g2) (GF (k3 _ _ g2) (by simp;omega) (KJ (H:=H3) L3.thl (ThL.same s3 tw))) ?_,λ H' s'=>k H' (s3.trans s')⟩⟩;exact HW (by omega) (by rw [BD (ThL.th tw) s3];simpa using bad)
theorem GC {H:Hp} {xs:List V} {k:Nat} {P:V->Prop} (h:∀ x∈xs,P x):∀ x∈xs.eraseIdx k,P x:=λ x hx=>h x (Af5 hx)
theorem HZ {xs:List V} {k:Nat} {w:V} {P:V->Prop} (h:∀ x∈xs,P x) (t:P w):∀ x∈xs.take k++w::xs.drop k,P x:=λ x hx=>(Fk (xs:=xs) (k:=k) (v:=w) hx).elim (λ z=>z▸t) (h x)
theorem IQ {H:Hp} {zs:List Str} (l:∀ z∈zs,Fa z):∀ x∈zs.map V.str,Th H x:=λ x hx=>by
  obtain ⟨z,hz,rfl⟩:=Ad0.mp hx;exact .str z (by have:=(l z hz).1;omega)
def Cb (c:Cs):Sp:=λ vs H _ E=>∃ x B lp d st v,vs=[.ref x,v]/\HandAt c B H x lp d st/\DrOk d/\Th H v/\Ref c H E v d.th.length (decide (d.th.length=1))
abbrev CT:Stmt:=Aq (top 56) 11
theorem sc_Hand_take_end:FnScope ["self","end","changes","later"] ["self","end"] (Ah CT):=⟨rfl,rfl,rfl,by decide +kernel,rfl,by decide +kernel,by decide +kernel⟩
theorem GN {f:Addr} {fd:FuncData} (F:Fun K "take_end" "Hand.take_end" CT f fd) (T:Txt K mg c) (c_need_place:BF P w K mg base "need_place" 3 ["thing","most"] (AT K c)) (d_Draft_ends:Bm P w K mg base c.Draft "ends" 1 ["self"] (BR c)) (c_taken_at:Az P w K mg base "taken_at" 1 ["members","place"] (E5 K)) (c_changed_draft:BF P w K mg base "changed_draft" 8 ["draft","changes"] (AJ c)) (d_Hand_bring:Bm P w K mg base c.Hand "bring" 1 ["self","later","picks","ends"] (Bo c)):FnOk P w K mg base (CXE P w) 9 f fd ["self","end"] (Cb c):=by
  refine Fun.okE F sc_Hand_take_end (λ vs H Q E h=> ?_) (λ cdv A outer s H vs Q E hr h=> ?_)
  · obtain ⟨x,B,lp,d,st,v,rfl,_⟩:=h;rfl
  · obtain ⟨x,B,lp,d,st,v,rfl,hA,ok,tv,hk⟩:=h;obtain ⟨dx,y,refs,hx,hl,D0,S0⟩:=hA.ex;have DH:=D0.same hA.sB;obtain ⟨dy,v1,v2,v3,v4,v5,hy,r1,r2,r3,r4,r5⟩:=id DH;obtain ⟨a1,rfl,e1,_⟩:=Dq r1;obtain ⟨a4,rfl,e4,_⟩:=EC r4;have h2':=ok.h2;have wl:=ok.wl;refine ⟨_,(Ad (Av (Aw c_need_place (hr.mono (by decide)) AF (Aa (pv 1) (Aa (AQ (Au (K:=K) (pv 0) rfl) d_Draft_ends (hr.mono (by decide))) Ab))))
      (Ad (Ap (i:=2) sc_Hand_take_end.nd rfl (Or.inl rfl) (Du (BC Al (Ag c_taken_at (hr.mono (by decide)) (Aa (Au (K:=K) (Au (K:=K) (pv 0) rfl) rfl) (Aa (pv 1) Ab))) (BC Al (Ag c_taken_at (hr.mono (by decide)) (Aa (Au (K:=K) (Au (K:=K) (pv 0) rfl) rfl) (Aa (pv 1) Ab))) Dw)) rfl rfl (by simp) (by decide)))
      (Ad (Ap (i:=3) sc_Hand_take_end.nd rfl (Or.inl rfl) (Aw c_changed_draft hr AF (Aa (Au (K:=K) (pv 0) rfl) (Aa (pv 2) Ab))))
      (Ad (Av (J9 (K:=K) PySem.F.plainAttrs_list PySem.F.slot_list_append PySem.F.type_list_append C7 (Au (K:=K) (pv 0) rfl) (Aa (A2 (Aa (Au (K:=K) (pv 0) rfl) (Aa (Ar Ab) (Aa (Ar (Aa (pv 1) Ab)) Ab)))) Ab)))
      (Af (An (Ee (pv 0) d_Hand_bring (hr.mono (by decide)) (Aa (pv 3) (Aa (Ar Ab) (Aa (Ar Ab) Ab)))))))))),?_⟩
    walk_at "w";refine ⟨_,_,_,_,_,rfl,hx,T.kd_Hand.cl,T.na_Hand_held,rfl,?_⟩;walk_at "w";refine ⟨_,_,_,rfl,hy,rfl,?_⟩;walk_at "w";refine ⟨y,d,rfl,DH,?_⟩;walk_at "w";refine ⟨v,_,rfl,tv.ty,λ hv=> ?_,λ hv=> ?_⟩
    case refine_2=>
      rcases hk with ⟨_,k⟩ | ⟨z,_⟩
      · exact k H (Same.refl _)
      · rw [hv] at z;cases z
    rcases hk with ⟨z,_⟩ | ⟨_,bad,k⟩
    · rw [hv] at z;cases z
    obtain ⟨e,rfl,h1,h2⟩:=CF hv;walk_at "w";row_lines H x0;walk_at "w";refine ⟨_,_,_,_,_,rfl,s0 _ _ hx,T.kd_Hand.cl,T.na_Hand_held,rfl,?_⟩;walk_at "w";refine ⟨_,_,_,_,_,rfl,s0 _ _ hy,T.kd_Draft.cl,T.na_Draft_threading,rfl,?_⟩;walk_at "w";refine ⟨true,a1,_,e,rfl,SqT.of (s0 _ _ e1),h1,by rw [Aa2];omega,by rw [Aa2];omega,λ H1 p1 s1 n1 g1=> ?_⟩;have s01:=s0.trans s1;walk_at "w";refine ⟨_,_,_,_,_,rfl,s01 _ _ hx,T.kd_Hand.cl,T.na_Hand_held,rfl,?_⟩;walk_at "w";refine ⟨_,_,_,_,_,rfl,s01 _ _ hy,T.kd_Draft.cl,T.na_Draft_warp,rfl,?_⟩;walk_at "w";refine ⟨true,a4,_,e,rfl,SqT.of (s01 _ _ e4),h1,by rw [Aa2];omega,by rw [Aa2];omega,λ H2 p2 s2 n2 g2=> ?_⟩;walk_at "w";have gp:=s2 _ _ (s1 _ _ g0);refine ⟨gp,[((.inr "threading":Key), .ref p1),(.inr "warp", .ref p2)],rfl,by simp,?_⟩;rw [RN];generalize eu:upd H2 p0 _=H3;have s3:=B3 eu n0 (s01.trans s2);have g3:H3 p0=_:=(congrFun eu p0).symm.trans Ae;have k3:=CH eu gp;clear eu;walk_at "w";refine ⟨_,_,_,_,_,rfl,s3 _ _ hx,T.kd_Hand.cl,T.na_Hand_held,rfl,?_⟩;walk_at "w";have gt:=k3 _ _ (s2 _ _ g1);have gw:=k3 _ _ g2;refine ⟨y,d,p0,_,rfl,DH.same s3,ok,g3, .inr ⟨R0 ok gt (Br gt ?_ (GC (H:=H3) Mc)) gw (Br gw ?_ (GC (H:=H3) (IQ ok.wc))) ?_,λ H' s'=>k H' (s3.trans s')⟩⟩
    · exact Ab8 (List.length_eraseIdx_le _ _) (by simp;omega)
    · exact Ab8 (List.length_eraseIdx_le _ _) (by simp;omega)
    · unfold thB;have l1:=of_decide_eq_true bad;rw [Ag2,Aa2,if_pos (by omega),l1,decide_eq_false (by omega),Ac5,Ac5]
theorem Rl {H:Hp} {d:Dr} {p q:Addr} {e:Nat} {w z:V} (g:H q=some (.lst ((d.wa.map V.str).take (e - 1)++z::(d.wa.map V.str).drop (e - 1)))) (le:e<=d.th.length+1) (h1:1<=e) (bad:(!(As w 0 (d.sh:Nat)&&(EU z&&decide (d.th.length<60))))=true):
    (thB d.sh ((d.th.map nV).take (e - 1)++w::(d.th.map nV).drop (e - 1))&&BE H (.ref q) (((d.th.map nV).take (e - 1)++w::(d.th.map nV).drop (e - 1)).length:Nat))=false:=by
  refine Ae2.mpr λ h=> ?_;have l:((d.th.map nV).take (e - 1)++w::(d.th.map nV).drop (e - 1)).length=d.th.length+1:=by
    rw [Ac7,Ac4,Ad1,Ag7,Aa2];omega
  simp only [thB,BE,Ab3,decide_eq_true_eq,Ac0] at h;obtain ⟨⟨_,l60,hw⟩,_,hz⟩:=h;rw [AG g] at hz;have c1:=hw w (Ab6 _ Ad7);have c2:=hz z (Ab6 _ Ad7);rw [l] at l60;rw [c1,c2,decide_eq_true (by omega)] at bad;cases bad
def Cw (c:Cs):Sp:=λ vs H _ E=>∃ x B lp d st v w z,vs=[.ref x,v,w,z]/\HandAt c B H x lp d st/\DrOk d/\Th H v/\Th H w/\Th H z/\Ref c H E v (d.th.length+1) (!(As w 0 (d.sh:Nat)&&(EU z&&decide (d.th.length<60))))
abbrev Dp:Stmt:=Aq (top 56) 9
theorem sc_Hand_put_end:FnScope ["self","end","shaft","colour","changes","later"] ["self","end","shaft","colour"] (Ah Dp):=⟨rfl,rfl,rfl,by decide +kernel,rfl,by decide +kernel,by decide +kernel⟩
theorem Hy {f:Addr} {fd:FuncData} (F:Fun K "put_end" "Hand.put_end" Dp f fd) (T:Txt K mg c) (c_need_place:BF P w K mg base "need_place" 3 ["thing","most"] (AT K c)) (d_Draft_ends:Bm P w K mg base c.Draft "ends" 1 ["self"] (BR c)) (c_put_at:Az P w K mg base "put_at" 1 ["members","place","thing"] (G0 K)) (c_changed_draft:BF P w K mg base "changed_draft" 8 ["draft","changes"] (AJ c)) (d_Hand_bring:Bm P w K mg base c.Hand "bring" 1 ["self","later","picks","ends"] (Bo c)):FnOk P w K mg base (CXE P w) 9 f fd ["self","end","shaft","colour"] (Cw c):=by
  refine Fun.okE F sc_Hand_put_end (λ vs H Q E h=> ?_) (λ cdv A outer s H vs Q E hr h=> ?_)
  · obtain ⟨x,B,lp,d,st,v,w',z,rfl,_⟩:=h;rfl
  · obtain ⟨x,B,lp,d,st,v,w',z,rfl,hA,ok,tv,tw,tz,hk⟩:=h;obtain ⟨dx,y,refs,hx,hl,D0,S0⟩:=hA.ex;have DH:=D0.same hA.sB;obtain ⟨dy,v1,v2,v3,v4,v5,hy,r1,r2,r3,r4,r5⟩:=id DH;obtain ⟨a1,rfl,e1,_⟩:=Dq r1;obtain ⟨a4,rfl,e4,_⟩:=EC r4;have h2':=ok.h2;have wl:=ok.wl;refine ⟨_,(Ad (Av (Aw c_need_place (hr.mono (by decide)) AF (Aa (pv 1) (Aa (Aj AU (AQ (Au (K:=K) (pv 0) rfl) d_Draft_ends (hr.mono (by decide))) Ac) Ab))))
      (Ad (Ap (i:=4) sc_Hand_put_end.nd rfl (Or.inl rfl) (Du (BC Al (Ag c_put_at (hr.mono (by decide)) (Aa (Au (K:=K) (Au (K:=K) (pv 0) rfl) rfl) (Aa (pv 1) (Aa (pv 2) Ab)))) (BC Al (Ag c_put_at (hr.mono (by decide)) (Aa (Au (K:=K) (Au (K:=K) (pv 0) rfl) rfl) (Aa (pv 1) (Aa (pv 3) Ab)))) Dw)) rfl rfl (by simp) (by decide)))
      (Ad (Ap (i:=5) sc_Hand_put_end.nd rfl (Or.inl rfl) (Aw c_changed_draft hr AF (Aa (Au (K:=K) (pv 0) rfl) (Aa (pv 4) Ab))))
      (Ad (Av (J9 (K:=K) PySem.F.plainAttrs_list PySem.F.slot_list_append PySem.F.type_list_append C7 (Au (K:=K) (pv 0) rfl) (Aa (A2 (Aa (Au (K:=K) (pv 0) rfl) (Aa (Ar Ab) (Aa (Ar Ab) Ab)))) Ab)))
      (Af (An (Ee (pv 0) d_Hand_bring (hr.mono (by decide)) (Aa (pv 5) (Aa (Ar Ab) (Aa (Ar (Aa (pv 1) Ab)) Ab)))))))))),?_⟩
    walk_at "w";refine ⟨_,_,_,_,_,rfl,hx,T.kd_Hand.cl,T.na_Hand_held,rfl,?_⟩;walk_at "w";refine ⟨_,_,_,rfl,hy,rfl,?_⟩;walk_at "w";refine ⟨y,d,rfl,DH,?_⟩;walk_at "w";refine ⟨v,d.th.length+1,rfl,tv.ty,λ hv=> ?_,λ hv=> ?_⟩
    case refine_2=>
      rcases hk with ⟨_,k⟩ | ⟨z,_⟩
      · exact k H (Same.refl _)
      · rw [hv] at z;cases z
    rcases hk with ⟨z,_⟩ | ⟨_,bad,k⟩
    · rw [hv] at z;cases z
    obtain ⟨e,rfl,h1,h2⟩:=CF hv;walk_at "w";row_lines H x0;walk_at "w";refine ⟨_,_,_,_,_,rfl,s0 _ _ hx,T.kd_Hand.cl,T.na_Hand_held,rfl,?_⟩;walk_at "w";refine ⟨_,_,_,_,_,rfl,s0 _ _ hy,T.kd_Draft.cl,T.na_Draft_threading,rfl,?_⟩;walk_at "w";refine ⟨true,a1,_,e,w',rfl,SqT.of (s0 _ _ e1),h1,by rw [Aa2];omega,by rw [Aa2];omega,λ H1 p1 s1 n1 g1=> ?_⟩;have s01:=s0.trans s1;walk_at "w";refine ⟨_,_,_,_,_,rfl,s01 _ _ hx,T.kd_Hand.cl,T.na_Hand_held,rfl,?_⟩;walk_at "w";refine ⟨_,_,_,_,_,rfl,s01 _ _ hy,T.kd_Draft.cl,T.na_Draft_warp,rfl,?_⟩;walk_at "w";refine ⟨true,a4,_,e,z,rfl,SqT.of (s01 _ _ e4),h1,by rw [Aa2];omega,by rw [Aa2];omega,λ H2 p2 s2 n2 g2=> ?_⟩;walk_at "w";have gp:=s2 _ _ (s1 _ _ g0);refine ⟨gp,[((.inr "threading":Key), .ref p1),(.inr "warp", .ref p2)],rfl,by simp,?_⟩;rw [RN];generalize eu:upd H2 p0 _=H3;have s3:=B3 eu n0 (s01.trans s2);have g3:H3 p0=_:=(congrFun eu p0).symm.trans Ae;have k3:=CH eu gp;clear eu;walk_at "w";refine ⟨_,_,_,_,_,rfl,s3 _ _ hx,T.kd_Hand.cl,T.na_Hand_held,rfl,?_⟩;walk_at "w";have gt:=k3 _ _ (s2 _ _ g1);have gw:=k3 _ _ g2;have ll:∀ {α:Type} {xs:List α} {v:α},xs.length=d.th.length->(xs.take (e - 1)++v::xs.drop (e - 1)).length<=100000:=λ {α xs v} hl=>by
      rw [Ac7,Ac4,Ad1,Ag7];omega
    exact ⟨y,d,p0,_,rfl,DH.same s3,ok,g3, .inr ⟨R0 ok gt (Br gt (ll (by simp)) (HZ Mc (tw.same s3))) gw (Br gw (ll (by simp [wl])) (HZ (IQ ok.wc) (tz.same s3))) (Rl (p:=p1) gw h2 h1 bad),λ H' s'=>k H' (s3.trans s')⟩⟩
def BX (c:Cs):Sp:=λ vs H _ E=>∃ x B lp d st v,vs=[.ref x,v]/\HandAt c B H x lp d st/\DrOk d/\Th H v/\Ref c H E v d.td.length (decide (d.td.length=1))
abbrev Cj:Stmt:=Aq (top 56) 12
theorem sc_Hand_take_pick:FnScope ["self","pick","treading","later"] ["self","pick"] (Ah Cj):=⟨rfl,rfl,rfl,by decide +kernel,rfl,by decide +kernel,by decide +kernel⟩
theorem GE {f:Addr} {fd:FuncData} (F:Fun K "take_pick" "Hand.take_pick" Cj f fd) (T:Txt K mg c) (c_need_place:BF P w K mg base "need_place" 3 ["thing","most"] (AT K c)) (d_Draft_picks:Bm P w K mg base c.Draft "picks" 1 ["self"] (Ca c)) (c_lists_of:Az P w K mg base "lists_of" 1 ["tuples"] CB) (c_taken_at:Az P w K mg base "taken_at" 1 ["members","place"] (E5 K)) (c_changed_draft:BF P w K mg base "changed_draft" 8 ["draft","changes"] (AJ c)) (d_Hand_bring:Bm P w K mg base c.Hand "bring" 1 ["self","later","picks","ends"] (Bo c)):FnOk P w K mg base (CXE P w) 9 f fd ["self","pick"] (BX c):=by
  refine Fun.okE F sc_Hand_take_pick (λ vs H Q E h=> ?_) (λ cdv A outer s H vs Q E hr h=> ?_)
  · obtain ⟨x,B,lp,d,st,v,rfl,_⟩:=h;rfl
  · obtain ⟨x,B,lp,d,st,v,rfl,hA,ok,tv,hk⟩:=h;obtain ⟨dx,y,refs,hx,hl,D0,S0⟩:=hA.ex;have DH:=D0.same hA.sB;obtain ⟨dy,v1,v2,v3,v4,v5,hy,r1,r2,r3,r4,r5⟩:=id DH;obtain ⟨a5,rfl,e5,_⟩:=EC r5;have p2':=ok.p2;have fl:=ok.fl;refine ⟨_,(Ad (Av (Aw c_need_place (hr.mono (by decide)) AF (Aa (pv 1) (Aa (AQ (Au (K:=K) (pv 0) rfl) d_Draft_picks (hr.mono (by decide))) Ab))))
      (Ad (Ap (i:=2) sc_Hand_take_pick.nd rfl (Or.inl rfl) (Ag c_taken_at (hr.mono (by decide)) (Aa (Ag c_lists_of (hr.mono (by decide)) (Aa (Au (K:=K) (Au (K:=K) (pv 0) rfl) rfl) Ab)) (Aa (pv 1) Ab))))
      (Ad (Ap (i:=3) sc_Hand_take_pick.nd rfl (Or.inl rfl) (Aw c_changed_draft hr AF (Aa (Au (K:=K) (pv 0) rfl) (Aa (Du (BC Al (pv 2) (BC Al (Ag c_taken_at (hr.mono (by decide)) (Aa (Au (K:=K) (Au (K:=K) (pv 0) rfl) rfl) (Aa (pv 1) Ab))) Dw)) rfl rfl (by simp) (by decide)) Ab))))
      (Ad (Av (J9 (K:=K) PySem.F.plainAttrs_list PySem.F.slot_list_append PySem.F.type_list_append C7 (Au (K:=K) (pv 0) rfl) (Aa (A2 (Aa (Au (K:=K) (pv 0) rfl) (Aa (Ar (Aa (pv 1) Ab)) (Aa (Ar Ab) Ab)))) Ab)))
      (Af (An (Ee (pv 0) d_Hand_bring (hr.mono (by decide)) (Aa (pv 3) (Aa (Ar Ab) (Aa (Ar Ab) Ab)))))))))),?_⟩
    walk_at "w";refine ⟨_,_,_,_,_,rfl,hx,T.kd_Hand.cl,T.na_Hand_held,rfl,?_⟩;walk_at "w";refine ⟨_,_,_,rfl,hy,rfl,?_⟩;walk_at "w";refine ⟨y,d,rfl,DH,?_⟩;walk_at "w";refine ⟨v,_,rfl,tv.ty,λ hv=> ?_,λ hv=> ?_⟩
    case refine_2=>
      rcases hk with ⟨_,k⟩ | ⟨z,_⟩
      · exact k H (Same.refl _)
      · rw [hv] at z;cases z
    rcases hk with ⟨z,_⟩ | ⟨_,bad,k⟩
    · rw [hv] at z;cases z
    obtain ⟨e,rfl,h1,h2⟩:=CF hv;walk_at "w";refine ⟨_,_,_,_,_,rfl,hx,T.kd_Hand.cl,T.na_Hand_held,rfl,?_⟩;walk_at "w";refine ⟨_,_,_,_,_,rfl,hy,T.kd_Draft.cl,T.na_Draft_treading,rfl,?_⟩;walk_at "w";refine ⟨_,_,rfl,r3,λ H0 p0 s0 n0 g0=> ?_⟩;obtain ⟨_,us,ea,gu,lu,_⟩:=LLs.of g0;cases ea;have hu:=lu.len;walk_at "w";refine ⟨false,p0,us,e,rfl,SqL.of gu,h1,by omega,by omega,λ H1 p1 s1 n1 g1=> ?_⟩;have s01:=s0.trans s1;walk_at "w";refine ⟨_,_,_,_,_,rfl,s01 _ _ hx,T.kd_Hand.cl,T.na_Hand_held,rfl,?_⟩;walk_at "w";row_lines H1 x2;walk_at "w";have s02:=s01.trans s2;refine ⟨_,_,_,_,_,rfl,s02 _ _ hx,T.kd_Hand.cl,T.na_Hand_held,rfl,?_⟩;walk_at "w";refine ⟨_,_,_,_,_,rfl,s02 _ _ hy,T.kd_Draft.cl,T.na_Draft_weft,rfl,?_⟩;walk_at "w";refine ⟨true,a5,_,e,rfl,SqT.of (s02 _ _ e5),h1,by rw [Aa2];omega,by rw [Aa2];omega,λ Hw pw sw nw gw=> ?_⟩;walk_at "w";have gp:=sw _ _ g2;refine ⟨gp,[((.inr "treading":Key), .ref p1),(.inr "weft", .ref pw)],rfl,by simp,?_⟩;rw [RM];generalize eu:upd Hw p2 _=H3;have s3:=B3 eu (s01.free n2) (s02.trans sw);have g3:H3 p2=_:=(congrFun eu p2).symm.trans Ae;have k3:=CH eu gp;clear eu;have gt:=k3 _ _ (sw _ _ (s2 _ _ g1));have gf:=k3 _ _ gw;have L3:=(((lu.same s1).same s2).same sw).lsts k3;walk_at "w";refine ⟨y,d,p2,_,rfl,DH.same s3,ok,g3, .inr ⟨RY ok gt (GF gt ?_ (GC (H:=H3) L3.thl)) gf (Br gf ?_ (GC (H:=H3) (IQ ok.fc))) ?_,λ H' s'=>k H' (s3.trans s')⟩⟩
    · exact Ab8 (List.length_eraseIdx_le _ _) (by omega)
    · exact Ab8 (List.length_eraseIdx_le _ _) (by simp;omega)
    · have l1:=of_decide_eq_true bad;rw [Ag2,if_pos (by omega),hu,l1,decide_eq_false (by omega),Ac5,Ac5]
theorem OL {H:Hp} {d:Dr} {q:Addr} {e:Nat} {w z:V} {us:List V} (lu:us.length=d.td.length) (g:H q=some (.lst ((d.we.map V.str).take (e - 1)++z::(d.we.map V.str).drop (e - 1)))) (le:e<=d.td.length+1) (h1:1<=e) (bad:(!(Bi H w (d.tr:Nat)&&(EU z&&decide (d.td.length<60))))=true):
    ((decide (1<=(us.take (e - 1)++w::us.drop (e - 1)).length)&&(decide ((us.take (e - 1)++w::us.drop (e - 1)).length<=60)&&(us.take (e - 1)++w::us.drop (e - 1)).all λ x=>Bi H x (d.tr:Nat)))&&BE H (.ref q) ((us.take (e - 1)++w::us.drop (e - 1)).length:Nat))=false:=by
  refine Ae2.mpr λ h=> ?_;have l:(us.take (e - 1)++w::us.drop (e - 1)).length=d.td.length+1:=by
    rw [Ac7,Ac4,Ad1,Ag7];omega
  simp only [BE,Ab3,decide_eq_true_eq,Ac0] at h;obtain ⟨⟨_,l60,hw⟩,_,hz⟩:=h;rw [AG g] at hz;have c1:=hw w (Ab6 _ Ad7);have c2:=hz z (Ab6 _ Ad7);rw [l] at l60;rw [c1,c2,decide_eq_true (by omega)] at bad;cases bad
def B6 (c:Cs):Sp:=λ vs H _ E=>∃ x B lp d st v w z,vs=[.ref x,v,w,z]/\HandAt c B H x lp d st/\DrOk d/\Th H v/\ThL H 1 w/\Th H z/\Ref c H E v (d.td.length+1) (!(Bi H w (d.tr:Nat)&&(EU z&&decide (d.td.length<60))))
abbrev CU:Stmt:=Aq (top 56) 10
theorem sc_Hand_put_pick:FnScope ["self","pick","treadles","colour","treading","later"] ["self","pick","treadles","colour"] (Ah CU):=⟨rfl,rfl,rfl,by decide +kernel,rfl,by decide +kernel,by decide +kernel⟩
theorem GZ {f:Addr} {fd:FuncData} (F:Fun K "put_pick" "Hand.put_pick" CU f fd) (T:Txt K mg c) (c_need_place:BF P w K mg base "need_place" 3 ["thing","most"] (AT K c)) (d_Draft_picks:Bm P w K mg base c.Draft "picks" 1 ["self"] (Ca c)) (c_lists_of:Az P w K mg base "lists_of" 1 ["tuples"] CB) (c_put_at:Az P w K mg base "put_at" 1 ["members","place","thing"] (G0 K)) (c_changed_draft:BF P w K mg base "changed_draft" 8 ["draft","changes"] (AJ c)) (d_Hand_bring:Bm P w K mg base c.Hand "bring" 1 ["self","later","picks","ends"] (Bo c)):FnOk P w K mg base (CXE P w) 9 f fd ["self","pick","treadles","colour"] (B6 c):=by
  refine Fun.okE F sc_Hand_put_pick (λ vs H Q E h=> ?_) (λ cdv A outer s H vs Q E hr h=> ?_)
  · obtain ⟨x,B,lp,d,st,v,w',z,rfl,_⟩:=h;rfl
  · obtain ⟨x,B,lp,d,st,v,w',z,rfl,hA,ok,tv,tw,tz,hk⟩:=h;obtain ⟨dx,y,refs,hx,hl,D0,S0⟩:=hA.ex;have DH:=D0.same hA.sB;obtain ⟨dy,v1,v2,v3,v4,v5,hy,r1,r2,r3,r4,r5⟩:=id DH;obtain ⟨a5,rfl,e5,_⟩:=EC r5;have p2':=ok.p2;have fl:=ok.fl;refine ⟨_,(Ad (Av (Aw c_need_place (hr.mono (by decide)) AF (Aa (pv 1) (Aa (Aj AU (AQ (Au (K:=K) (pv 0) rfl) d_Draft_picks (hr.mono (by decide))) Ac) Ab))))
      (Ad (Ap (i:=4) sc_Hand_put_pick.nd rfl (Or.inl rfl) (Ag c_put_at (hr.mono (by decide)) (Aa (Ag c_lists_of (hr.mono (by decide)) (Aa (Au (K:=K) (Au (K:=K) (pv 0) rfl) rfl) Ab)) (Aa (pv 1) (Aa (pv 2) Ab)))))
      (Ad (Ap (i:=5) sc_Hand_put_pick.nd rfl (Or.inl rfl) (Aw c_changed_draft hr AF (Aa (Au (K:=K) (pv 0) rfl) (Aa (Du (BC Al (pv 4) (BC Al (Ag c_put_at (hr.mono (by decide)) (Aa (Au (K:=K) (Au (K:=K) (pv 0) rfl) rfl) (Aa (pv 1) (Aa (pv 3) Ab)))) Dw)) rfl rfl (by simp) (by decide)) Ab))))
      (Ad (Av (J9 (K:=K) PySem.F.plainAttrs_list PySem.F.slot_list_append PySem.F.type_list_append C7 (Au (K:=K) (pv 0) rfl) (Aa (A2 (Aa (Au (K:=K) (pv 0) rfl) (Aa (Ar Ab) (Aa (Ar Ab) Ab)))) Ab)))
      (Af (An (Ee (pv 0) d_Hand_bring (hr.mono (by decide)) (Aa (pv 5) (Aa (Ar (Aa (pv 1) Ab)) (Aa (Ar Ab) Ab)))))))))),?_⟩
    walk_at "w";refine ⟨_,_,_,_,_,rfl,hx,T.kd_Hand.cl,T.na_Hand_held,rfl,?_⟩;walk_at "w";refine ⟨_,_,_,rfl,hy,rfl,?_⟩;walk_at "w";refine ⟨y,d,rfl,DH,?_⟩;walk_at "w";refine ⟨v,d.td.length+1,rfl,tv.ty,λ hv=> ?_,λ hv=> ?_⟩
    case refine_2=>
      rcases hk with ⟨_,k⟩ | ⟨z,_⟩
      · exact k H (Same.refl _)
      · rw [hv] at z;cases z
    rcases hk with ⟨z,_⟩ | ⟨_,bad,k⟩
    · rw [hv] at z;cases z
    obtain ⟨e,rfl,h1,h2⟩:=CF hv;walk_at "w";refine ⟨_,_,_,_,_,rfl,hx,T.kd_Hand.cl,T.na_Hand_held,rfl,?_⟩;walk_at "w";refine ⟨_,_,_,_,_,rfl,hy,T.kd_Draft.cl,T.na_Draft_treading,rfl,?_⟩;walk_at "w";refine ⟨_,_,rfl,r3,λ H0 p0 s0 n0 g0=> ?_⟩;obtain ⟨_,us,ea,gu,lu,_⟩:=LLs.of g0;cases ea;have hu:=lu.len;walk_at "w";refine ⟨false,p0,us,e,w',rfl,SqL.of gu,h1,by omega,by omega,λ H1 p1 s1 n1 g1=> ?_⟩;have s01:=s0.trans s1;walk_at "w";refine ⟨_,_,_,_,_,rfl,s01 _ _ hx,T.kd_Hand.cl,T.na_Hand_held,rfl,?_⟩;walk_at "w";row_lines H1 x2;walk_at "w";have s02:=s01.trans s2;refine ⟨_,_,_,_,_,rfl,s02 _ _ hx,T.kd_Hand.cl,T.na_Hand_held,rfl,?_⟩;walk_at "w";refine ⟨_,_,_,_,_,rfl,s02 _ _ hy,T.kd_Draft.cl,T.na_Draft_weft,rfl,?_⟩;walk_at "w";refine ⟨true,a5,_,e,z,rfl,SqT.of (s02 _ _ e5),h1,by rw [Aa2];omega,by rw [Aa2];omega,λ Hw pw sw nw gw=> ?_⟩;walk_at "w";have gp:=sw _ _ g2;refine ⟨gp,[((.inr "treading":Key), .ref p1),(.inr "weft", .ref pw)],rfl,by simp,?_⟩;rw [RM];generalize eu:upd Hw p2 _=H3;have s3:=B3 eu (s01.free n2) (s02.trans sw);have g3:H3 p2=_:=(congrFun eu p2).symm.trans Ae;have k3:=CH eu gp;clear eu;have gt:=k3 _ _ (sw _ _ (s2 _ _ g1));have gf:=k3 _ _ gw;have L3:=(((lu.same s1).same s2).same sw).lsts k3;walk_at "w";have ll:∀ {α:Type} {xs:List α} {v:α},xs.length=d.td.length->(xs.take (e - 1)++v::xs.drop (e - 1)).length<=100000:=λ {α xs v} hl=>by
      rw [Ac7,Ac4,Ad1,Ag7];omega
    exact ⟨y,d,p2,_,rfl,DH.same s3,ok,g3, .inr ⟨RY ok gt (GF gt (ll hu) (HZ L3.thl (ThL.same s3 tw))) gf (Br gf (ll (by simp [fl])) (HZ (IQ ok.fc) (tz.same s3))) (OL hu gf h2 h1 (by rw [BD (ThL.th tw) s3];exact bad)),λ H' s'=>k H' (s3.trans s')⟩⟩
def Dy (c:Cs):Sp:=λ vs H Q E=>∃ x B lp d st,vs=[.ref x]/\HandAt c B H x lp d st/\((∃ st0 d0 r,st=st0++[(d0,r)]/\Told c B H x lp d0 st0 r Q)\/(st=[]/\E (.ref c.OutOfPlace) none H))
abbrev Fd:Stmt:=Aq (top 56) 13
theorem sc_Hand_undo:FnScope ["self","deed"] ["self"] (Ah Fd):=⟨rfl,rfl,rfl,by decide +kernel,rfl,by decide +kernel,by decide +kernel⟩
theorem Ks {f:Addr} {fd:FuncData} (F:Fun K "undo" "Hand.undo" Fd f fd) (T:Txt K mg c) (d_Hand_bring:Bm P w K mg base c.Hand "bring" 1 ["self","later","picks","ends"] (Bo c)):FnOk P w K mg base (CXE P w) 2 f fd ["self"] (Dy c):=by
  refine Fun.okE F sc_Hand_undo (λ vs H Q E h=> ?_) (λ cdv A outer s H vs Q E hr h=> ?_)
  · obtain ⟨x,B,lp,d,st,rfl,_⟩:=h;rfl
  · obtain ⟨x,B,lp,d,st',rfl,hA,hk⟩:=h;obtain ⟨dx,y,refs,hx,hl,D0,S0⟩:=hA.ex;refine ⟨_,(Ad (Bb (AE Bv (Am (CV (K:=K)) rfl (T.own _ (by decide)) boot_len (Aa (Au (K:=K) (pv 0) rfl) Ab)) Ac (AB _)) (Af (Cp T.g_OutOfPlace T.xi_OutOfPlace (Aa Al Ab))) A9)
      (Ad (Ap (i:=1) sc_Hand_undo.nd rfl (Or.inl rfl) (PP (K:=K) PySem.F.plainAttrs_list PySem.F.slot_list_pop PySem.F.type_list_pop Tn (Au (K:=K) (pv 0) rfl)))
      (Af (An (Ee (pv 0) d_Hand_bring hr (Aa (A7 (B5 (K:=K)) (pv 1) Ac (λ _ _=>rfl)) (Aa (A7 (B5 (K:=K)) (pv 1) Ac (λ _ _=>rfl)) (Aa (A7 (B5 (K:=K)) (pv 1) Ac (λ _ _=>rfl)) Ab)))))))),?_⟩
    walk_at "w";refine ⟨_,_,_,_,_,rfl,hx,T.kd_Hand.cl,T.na_Hand_past,rfl,?_⟩;walk_at "w";refine BU (SqL.of hl) ?_;walk_at "w";rcases hk with ⟨st,d0,r,rfl,k⟩ | ⟨rfl,k⟩
    case inr=>
      have lr:=S0.len;refine CJ (λ _=> ?_) (λ z=>absurd (by rw [lr];rfl) z);exact ⟨by decide,k⟩
    obtain ⟨us,u,rfl,S1,t,y0,p,q,rfl,ht,Dt,hp,hq⟩:=S0.last;refine CJ (λ z=>absurd z (by simp;omega)) (λ _=> ?_);walk_at "w";refine ⟨_,_,_,_,_,rfl,hx,T.kd_Hand.cl,T.na_Hand_past,rfl,?_⟩;refine tyL (SqL.of hl) ?_;refine ⟨lp,_, .ref t,rfl,rfl,hl,by simp,?_⟩;rw [List.dropLast_concat];have nlx:lp≠x:=Cg hl hx (by intro z;cases z);have sB1:Same B (upd H lp (HO.lst us)):=λ b o e=>by
      have n:b≠lp:=λ z=>by rw [z,hA.bl] at e;cases e
      rw [Ak n];exact hA.sB _ _ e
    have hx1:upd H lp (HO.lst us) x=_:=(Ak nlx.symm).trans hx;have hl1:upd H lp (HO.lst us) lp=_:=Ae;have bt:∀ b o,H b=some o->b≠lp->upd H lp (HO.lst us) b=some o:=λ b o e n=>by rw [Ak n];exact e
    generalize upd H lp (HO.lst us)=H1 at sB1 hx1 hl1 bt ⊢;walk_at "w";refine ⟨_,_,_,rfl,hx1,rfl,?_⟩;walk_at "w";refine Bw (SqT.of (sB1 _ _ ht)) (show atI _ 0=_ from rfl) ?_;walk_at "w";refine Bw (SqT.of (sB1 _ _ ht)) (show atI _ 1=_ from rfl) ?_;walk_at "w";refine Bw (SqT.of (sB1 _ _ ht)) (show atI _ 2=_ from rfl) ?_;walk_at "w";refine ⟨x,dx,lp,y,y0,p,q,_,_,rfl,hx1,sB1 _ _ hp,sB1 _ _ hq,λ H' p' l1 l2 np nl1 nl2 sH hp' hl1' hl2'=> ?_⟩;have fr:∀ b,H1 b=none->upd H1 x (HO.ins c.Hand dx [("held", .ref y0),("past", .ref lp)]) b=none:=λ b e=>by
      have n:b≠x:=λ z=>by rw [z,hx1] at e;cases e
      rw [Ak n];exact e
    refine k B _ H' p' l1 l2 (Same.refl _) Out.refl (λ b o e n1 n2=>by rw [Ak n1];exact bt _ _ e n2) ⟨⟨dx,y0,us,Ae,by rw [Ak nlx];exact hl1,Dt,S1⟩,λ b o e=> ?_,hA.bx,hA.bl⟩ (fr _ np) (fr _ nl1) (fr _ nl2) sH hp' hl1' hl2';have n:b≠x:=λ z=>by rw [z,hA.bx] at e;cases e
    rw [Ak n];exact sB1 _ _ e
def Hl (w:Bool):Str:=if w=true then "weft" else "warp"
theorem Sj {d:Dr} {w:Bool} {n:Nat} {z:Str}:Oq d (Dd.go d (.co w n z))=([],[]):=by
  cases w with
  | true=>exact Prod.ext (ED _) (ED _)
  | false=>exact Prod.ext (ED _) (ED _)
theorem FW {c:Bool} {ta tb:TE} {σ:L2.St} {H:Hp} {R:VK} (P:V->Hp->Prop) (h1:∀ v H',P v H'->R v H') (h2:∀ R':VK,(∀ v H',P v H'->R' v H')->if c=true then ta σ H R' else tb σ H R'):if c=true then ta σ H R else tb σ H R:=h2 R h1
theorem Xo {H:Hp} {d:Dr} {l:Addr} {w:Bool} {n:Nat} {z:Str} (g:H l=some (.lst (((if w=true then d.we else d.wa).set (n - 1) z).map V.str))):Turns H d [((.inr (Hl w):Key), .ref l)] (Dd.go d (.co w n z)):=by
  cases w with
  | true=>exact VT g
  | false=>exact Z3 g
theorem VS {H:Hp} {d:Dr} {q:Addr} {w:Bool} {ys:List V} (ok:DrOk d) (g:H q=some (.lst ys)) (t:ThL H 1 (.ref q)) (bad:ys.all EU=false):TurnsB H d [((.inr (Hl w):Key), .ref q)]:=by
  have b:∀ n:Int,BE H (.ref q) n=false:=λ n=>by
    unfold BE;rw [AG g];show (_&&ys.all EU)=false;rw [bad,Bool.and_false]
  cases w with
  | true=>exact Yn ok g t (b _)
  | false=>exact ZF ok g t (b _)
theorem O8 {d:Dr} {w:Bool} {n:Nat} {z:Str}:(Dd.go d (.co w n z)).th.length=d.th.length:=by cases w <;> rfl
theorem P3 {d:Dr} {w:Bool} {n:Nat} {z:Str}:(Dd.go d (.co w n z)).td.length=d.td.length:=by cases w <;> rfl
def CS (c:Cs):Sp:=λ vs H Q E=>∃ x B lp d st sv v z,vs=[.ref x,sv,v,z]/\HandAt c B H x lp d st/\DrOk d/\Th H sv/\Th H v/\Th H z/\
  (((sv≠ .str "warp"/\sv≠ .str "weft")/\∀ H',Same H H'->E (.ref c.OutOfPlace) none H')\/
   (∃ w,sv= .str (Hl w)/\(Ref c H E v (if w=true then d.td.length else d.th.length) (!EU z)\/
     ∃ n zc,v=nV n/\z= .str zc/\Dd.ok d (.co w n zc)/\st.length<=100/\Told c B H x lp (Dd.go d (.co w n zc)) (st++[(d,([],[]))]) ([],[]) Q)))
abbrev DG:Stmt:=Aq (top 56) 8
theorem sc_Hand_colour:FnScope ["self","side","number","colour","colours"] ["self","side","number","colour"] (Ah DG):=⟨rfl,rfl,rfl,by decide +kernel,rfl,by decide +kernel,by decide +kernel⟩
theorem Ia {f:Addr} {fd:FuncData} (F:Fun K "colour" "Hand.colour" DG f fd) (T:Txt K mg c) (c_need_place:BF P w K mg base "need_place" 3 ["thing","most"] (AT K c)) (d_Hand_alter:A4 P w K mg base c.Hand "alter" 9 ["self","changes"] (BJ c)) (c_replaced_at:Az P w K mg base "replaced_at" 1 ["members","place","thing"] (BM K)):FnOk P w K mg base (CXE P w) 10 f fd ["self","side","number","colour"] (CS c):=by
  refine Fun.okE F sc_Hand_colour (λ vs H Q E h=> ?_) (λ cdv A outer s H vs Q E hr h=> ?_)
  · obtain ⟨x,B,lp,d,st,sv,v,z,rfl,_⟩:=h;rfl
  · obtain ⟨x,B,lp,d,st,sv,v,z,rfl,hA,ok,ts,tv,tz,hk⟩:=h;obtain ⟨dx,y,refs,hx,hl,D0,S0⟩:=hA.ex;have DH:=D0.same hA.sB;obtain ⟨dy,v1,v2,v3,v4,v5,hy,r1,r2,r3,r4,r5⟩:=id DH;obtain ⟨a4,rfl,e4,_⟩:=EC r4;obtain ⟨a5,rfl,e5,_⟩:=EC r5;have h2':=ok.h2;have p2':=ok.p2;have wl:=ok.wl;have fl:=ok.fl;refine ⟨_,(Ad (Bb (PW.pt (Lu (DJ (A6 (Am (BY (K:=K)) rfl (T.own _ (by decide)) boot_isinstance (Aa (pv 1) (Aa (Ce rfl (T.own _ (by decide)) boot_str) Ab))))) (Je (AE (Qj (K:=K)) (pv 1) (A2 (Aa (Np T.k_WARP) (Aa (Np T.k_WEFT) Ab))) (by with_unfolding_all rfl))))) (Af (Cp T.g_OutOfPlace T.xi_OutOfPlace (Aa Al Ab))) A9)
      (Ad (Ap (i:=4) sc_Hand_colour.nd rfl (Or.inl rfl) (A1 (AE Bv (pv 1) (Np T.k_WARP) (AB _)) (Au (K:=K) (Au (K:=K) (pv 0) rfl) rfl) (Au (K:=K) (Au (K:=K) (pv 0) rfl) rfl)))
      (Ad (Av (Aw c_need_place (hr.mono (by decide)) AF (Aa (pv 2) (Aa (Am (CV (K:=K)) rfl (T.own _ (by decide)) boot_len (Aa (pv 4) Ab)) Ab))))
      (Af (An (AY (pv 0) d_Hand_alter hr AF (Aa (Du (BC (pv 1) (Ag c_replaced_at (hr.mono (by decide)) (Aa (pv 4) (Aa (pv 2) (Aa (pv 3) Ab)))) Dw) rfl rfl (by simp) (by decide)) Ab))))))),?_⟩
    walk_at "w";rcases hk with ⟨⟨q1,q2⟩,k⟩ | ⟨w',rfl,hk⟩
    case inl=>
      cases ts with
      | str s l=>
        refine AS (.str _) (kb (b:=true) (by decide +kernel)) ?_;walk_at "w";row_lines H x0;walk_at "w";refine ⟨p0,_,rfl, .inr (SqT.of g0),rfl,rfl,?_⟩;have ein:L2.inV (.str s) [.str "warp", .str "weft"]=false:=by
          simp only [L2.inV,List.any_cons,List.any_nil];have f1:L2.eqV (.str "warp") (.str s)=false:=decide_eq_false λ z=>q1 (by rw [z]);have f2:L2.eqV (.str "weft") (.str s)=false:=decide_eq_false λ z=>q2 (by rw [z]);simp [f1,f2]
        rw [if_pos rfl,ein];walk_at "w";exact ⟨by decide,k _ s0⟩
      | non=>
        refine AS .non (kb (b:=false) (by decide +kernel)) ?_;walk_at "w";exact ⟨by decide,k H (Same.refl _)⟩
      | bl b=>
        refine AS (.bl b) (kb (b:=false) (by decide +kernel)) ?_;walk_at "w";exact ⟨by decide,k H (Same.refl _)⟩
      | int i=>
        refine AS (.int i) (kb (b:=false) (by decide +kernel)) ?_;walk_at "w";exact ⟨by decide,k H (Same.refl _)⟩
      | lst e=>
        refine AS (.lst e) (kb (b:=false) (by decide +kernel)) ?_;walk_at "w";exact ⟨by decide,k H (Same.refl _)⟩
      | tup e=>
        refine AS (.tup e) (kb (b:=false) (by decide +kernel)) ?_;walk_at "w";exact ⟨by decide,k H (Same.refl _)⟩
      | dK e=>
        refine AS (.dK e) (kb (b:=false) (by decide +kernel)) ?_;walk_at "w";exact ⟨by decide,k H (Same.refl _)⟩
    refine AS (.str _) (kb (b:=true) (by decide +kernel)) ?_;walk_at "w";row_lines H x0;walk_at "w";refine ⟨p0,_,rfl, .inr (SqT.of g0),rfl,rfl,?_⟩;have ein:L2.inV (.str (Hl w')) [.str "warp", .str "weft"]=true:=by cases w' <;> decide +kernel
    rw [if_pos rfl,ein];walk_at "w";have hx0:=s0 _ _ hx;have hy0:=s0 _ _ hy;refine FW (λ v H'=>v= .ref (if w'=true then a5 else a4)/\H'=H0) ?_ (λ R key=> ?_)
    case refine_2=>
      cases w' with
      | true=>
        rw [show decide (Hl true="warp")=false by decide +kernel];refine Cm ?_;walk_at "w";refine ⟨_,_,_,_,_,rfl,hx0,T.kd_Hand.cl,T.na_Hand_held,rfl,?_⟩;walk_at "w";exact ⟨_,_,_,_,_,rfl,hy0,T.kd_Draft.cl,T.na_Draft_weft,rfl,key _ _ ⟨rfl,rfl⟩⟩
      | false=>
        rw [show decide (Hl false="warp")=true by decide +kernel];refine CI ?_;walk_at "w";refine ⟨_,_,_,_,_,rfl,hx0,T.kd_Hand.cl,T.na_Hand_held,rfl,?_⟩;walk_at "w";exact ⟨_,_,_,_,_,rfl,hy0,T.kd_Draft.cl,T.na_Draft_warp,rfl,key _ _ ⟨rfl,rfl⟩⟩
    rintro v' H' ⟨ev,eH⟩;rw [ev,eH];clear ev eH;obtain ⟨aq,eq,cs,ecs,gq,lq,cq⟩:∃ aq,(if w'=true then a5 else a4)=aq/\∃ cs:List Str,(if w'=true then d.we else d.wa)=cs/\H0 aq=some (.tup (cs.map V.str))/\cs.length=(if w'=true then d.td.length else d.th.length)/\∀ u∈cs,Fa u:=by
      cases w' with
      | true=>exact ⟨a5,rfl,d.we,rfl,s0 _ _ e5,fl,ok.fc⟩
      | false=>exact ⟨a4,rfl,d.wa,rfl,s0 _ _ e4,wl,ok.wc⟩
    rw [eq];have lc:cs.length<=60:=by rw [lq];split <;> omega
    walk_at "w";refine HS (SqT.of gq) ?_;walk_at "w";refine ⟨v,_,rfl,(tv.same s0).ty,λ hv=> ?_,λ hv=> ?_⟩
    case refine_2=>
      rw [Aa2,lq] at hv;rcases hk with (⟨_,k⟩ | ⟨z',_⟩) | ⟨n,zc,rfl,rfl,⟨h1,h2,h3⟩,_⟩
      · exact k H0 s0
      · rw [hv] at z';cases z'
      · exact absurd hv (by rw [Bool.not_eq_false];show (decide _&&decide _)=true;rw [decide_eq_true (by omega),decide_eq_true (by omega)];rfl)
    rw [Aa2] at hv;obtain ⟨n,rfl,h1,h2⟩:=CF hv;walk_at "w";refine AR ?_;walk_at "w";refine ⟨_,_,_,rfl,hx0,rfl,?_⟩;walk_at "w";row_lines H0 x1;walk_at "w";refine ⟨true,aq,_,n,z,rfl,SqT.of (s1 _ _ gq),h1,by rw [Aa2];exact h2,by rw [Aa2];omega,λ H2 p2 s2 n2 g2=> ?_⟩;walk_at "w";have gp:=s2 _ _ g1;refine ⟨gp,[((.inr (Hl w'):Key), .ref p2)],rfl,by simp,?_⟩;rw [is1];generalize eu:upd H2 p1 _=H3;have s3:=B3 eu (s0.free n1) (s0.trans (s1.trans s2));have g3:H3 p1=_:=(congrFun eu p1).symm.trans Ae;have k3:=CH eu gp;clear eu;walk_at "w";have g4:=k3 _ _ g2;refine ⟨x,B,lp,d,st,p1,_,rfl,hA.same s3,ok,g3,?_⟩;rcases hk with (⟨z',_⟩ | ⟨_,bad,k⟩) | ⟨n',zc,en,rfl,dk,ls,k⟩
    · rw [<-lq,hv] at z';cases z'
    · exact .inr ⟨VS ok g4 (Br g4 (by rw [List.length_set,Aa2];omega) (KJ (H:=H3) (IQ cq) (tz.same s3))) (HW (by rw [Aa2];omega) (by simpa using bad)),λ H' s'=>k H' (s3.trans s')⟩
    · obtain rfl:n=n':=by
        have en:V.int (n:Int)=V.int (n':Int):=en;injection en with en;omega
      subst ecs;rw [<-List.map_set] at g4;refine .inl ⟨_,ls,Xo g4,Dd.go_ok ok (.co w' n zc) dk,O8,P3,?_⟩;rw [Sj];exact k.same s3
def Cz (K:PySem.W.Frag) (c:Cs):Sp:=λ vs H Q _=>∃ (a:Addr) (v0 v1 v2 v3 v4 v5 v6:V) (d:Dr),vs=[.ref a]/\SqT K H a [v0,v1,v2,v3,v4,v5,v6]/\Parts H d [v0,v1,v2,v3,v4,v5,v6]/\DrOk d/\∀ H' x,Same H H'->H x=none->DrAt c.Draft H' x d->Q (.ref x) H'
abbrev Fc:Stmt:=top 66
theorem sc__law_made:FnScope ["_law_parts","_law_shafts","_law_treadles","_law_threading","_law_ties","_law_treading","_law_warp","_law_weft"] ["_law_parts"] (Ah Fc):=⟨rfl,rfl,rfl,by decide +kernel,rfl,by decide +kernel,by decide +kernel⟩
theorem KQ {f:Addr} {fd:FuncData} (F:Fun K "_law_made" "_law_made" Fc f fd) (T:Txt K mg c) (m_Draft:Ga P w K mg base "Draft" c.Draft 6 ["self","shafts","treadles","threading","ties","treading","warp","weft"] (Ba c)):FnOk P w K mg base (CXE P w) 8 f fd ["_law_parts"] (Cz K c):=by
  refine Fun.okE F sc__law_made (λ vs H Q E h=> ?_) (λ cdv A outer s H vs Q E hr h=> ?_)
  · obtain ⟨a,v0,v1,v2,v3,v4,v5,v6,d,rfl,_⟩:=h;rfl
  · obtain ⟨a,v0,v1,v2,v3,v4,v5,v6,d,rfl,ha,ps,ok,k⟩:=h;refine ⟨_,(Ad (Pu (pv 0) (Of (K:=K) rfl (Bt (Bf (i:=1) sc__law_made.nd rfl (Or.inl rfl)) (Bt (Bf (i:=2) sc__law_made.nd rfl (Or.inl rfl)) (Bt (Bf (i:=3) sc__law_made.nd rfl (Or.inl rfl)) (Bt (Bf (i:=4) sc__law_made.nd rfl (Or.inl rfl)) (Bt (Bf (i:=5) sc__law_made.nd rfl (Or.inl rfl)) (Bt (Bf (i:=6) sc__law_made.nd rfl (Or.inl rfl)) (Bt (Bf (i:=7) sc__law_made.nd rfl (Or.inl rfl)) K0)))))))))
      (Af (An (Eb m_Draft hr AF (Aa (pv 1) (Aa (pv 2) (Aa (pv 3) (Aa (pv 4) (Aa (pv 5) (Aa (pv 6) (Aa (pv 7) Ab))))))))))),?_⟩
    walk_at "w";refine ⟨a,_,rfl,ha,rfl,?_⟩;walk_at "w";refine Gz ?_;walk_at "w";exact Lq ps ok k
theorem Ct {i lo hi:Int} (h:i<lo\/hi<i):As (.int i) lo hi=false:=by
  show (decide (lo<=i)&&decide (i<=hi))=false;rw [Bool.and_eq_false_iff];rcases h with h | h
  · exact .inl (decide_eq_false (by omega))
  · exact .inr (decide_eq_false (by omega))
theorem R7:(10:Int) ^ (30:Int).toNat=1000000000000000000000000000000:=by decide
def DU:Sp:=λ vs H Q _=>∃ (n:Int) (m:Nat),vs=[.int n,nV m]/\m<=1000/\∀ H' v,Same H H'->Th H' v->As v 1 (m:Nat)=false->Q v H'
abbrev CM:Stmt:=top 67
theorem GV:FnScope ["_law_number","_law_most"] ["_law_number","_law_most"] (Ah CM):=⟨rfl,rfl,rfl,by decide +kernel,rfl,by decide +kernel,by decide +kernel⟩
theorem GQ {f:Addr} {fd:FuncData} (F:Fun K "_law_no_place" "_law_no_place" CM f fd) (T:Txt K mg c):FnOk P w K mg base CX0 1 f fd ["_law_number","_law_most"] DU:=by
  refine F.ok GV (λ vs H Q E h=> ?_) (λ cdv A outer s H vs Q E hr h=> ?_)
  · obtain ⟨n,m,rfl,_⟩:=h;rfl
  · obtain ⟨n,m,rfl,hm,k⟩:=h;refine ⟨_,(Af (An (A7 (Fg (K:=K)) (Ar (Aa Ac (Aa (Aj AU (pv 1) Ac) (Aa (RO OD Ac) (Aa Cr (Aa EN (Aa Al (Aa (Ar (Aa Ac Ab)) (Aa (Aj OJ Ac Ac) (Aa E3 (Aa (A2 (Aa Ac Ab)) Ab))))))))))) (Aj AH (pv 0) Ac) (λ _ _=>rfl)))),?_⟩;walk_at "w";row_lines H x1;walk_at "w";refine AD ⟨by decide,by decide,by decide⟩ ?_;walk_at "w";row_lines H1 x2;walk_at "w";row_lines H2 x3;walk_at "w";row_lines H3 x4;walk_at "w";refine AD (by decide) ?_;have h1:=s4 _ _ (s3 _ _ (s2 _ _ g1));have h2:=s4 _ _ (s3 _ _ g2);have h3:=s4 _ _ g3;have s04:=s1.trans (s2.trans (s3.trans s4));obtain ⟨r,hr,e⟩:∃ r:Nat,r<10/\n%10=(r:Nat):=⟨(n%10).toNat,by omega,by omega⟩;rw [e]
    match r,hr with
    | 0,_=>exact Ax (SqL.of g4) rfl (k H4 _ s04 (.int _) (Ct (.inl (by omega))))
    | 1,_=>exact Ax (SqL.of g4) rfl (k H4 _ s04 (.int _) (Ct (.inr (by omega))))
    | 2,_=>exact Ax (SqL.of g4) rfl (k H4 _ s04 (.int _) (Ct (.inl (by omega))))
    | 3,_=>exact Ax (SqL.of g4) rfl (k H4 _ s04 .non rfl)
    | 4,_=>exact Ax (SqL.of g4) rfl (k H4 _ s04 (.bl _) rfl)
    | 5,_=>exact Ax (SqL.of g4) rfl (k H4 _ s04 (.str _ (by decide +kernel)) rfl)
    | 6,_=>exact Ax (SqL.of g4) rfl (k H4 _ s04 (.lst h1) rfl)
    | 7,_=>exact Ax (SqL.of g4) rfl (k H4 _ s04 (.int _) (Ct (.inr (by rw [R7];omega))))
    | 8,_=>exact Ax (SqL.of g4) rfl (k H4 _ s04 (.dK h2) rfl)
    | 9,_=>exact Ax (SqL.of g4) rfl (k H4 _ s04 (.tup h3) rfl)
def DV:Sp:=λ vs H Q _=>∃ (n:Int) (m:Nat),vs=[.int n,nV m]/\m<=1000/\∀ H' v,Same H H'->Th H' v->As v 0 (m:Nat)=false->Q v H'
abbrev CP:Stmt:=top 68
theorem G6:FnScope ["_law_number","_law_most"] ["_law_number","_law_most"] (Ah CP):=⟨rfl,rfl,rfl,by decide +kernel,rfl,by decide +kernel,by decide +kernel⟩
theorem GY {f:Addr} {fd:FuncData} (F:Fun K "_law_no_shaft" "_law_no_shaft" CP f fd) (T:Txt K mg c):FnOk P w K mg base CX0 1 f fd ["_law_number","_law_most"] DV:=by
  refine F.ok G6 (λ vs H Q E h=> ?_) (λ cdv A outer s H vs Q E hr h=> ?_)
  · obtain ⟨n,m,rfl,_⟩:=h;rfl
  · obtain ⟨n,m,rfl,hm,k⟩:=h;refine ⟨_,(Af (An (A7 (Fg (K:=K)) (Ar (Aa (Aj AU (pv 1) Ac) (Aa (RO OD Ac) (Aa Cr (Aa EN (Aa Al (Aa (Ar (Aa Ac Ab)) (Aa (Aj OJ Ac Ac) (Aa E3 Ab))))))))) (Aj AH (pv 0) Ac) (λ _ _=>rfl)))),?_⟩;walk_at "w";row_lines H x1;walk_at "w";refine AD ⟨by decide,by decide,by decide⟩ ?_;walk_at "w";row_lines H1 x2;walk_at "w";row_lines H2 x4;walk_at "w";refine AD (by decide) ?_;have h1:=s4 _ _ (s2 _ _ g1);have h2:=s4 _ _ g2;have s04:=s1.trans (s2.trans s4);obtain ⟨r,hr,e⟩:∃ r:Nat,r<8/\n%8=(r:Nat):=⟨(n%8).toNat,by omega,by omega⟩;rw [e]
    match r,hr with
    | 0,_=>exact Ax (SqL.of g4) rfl (k H4 _ s04 (.int _) (Ct (.inr (by omega))))
    | 1,_=>exact Ax (SqL.of g4) rfl (k H4 _ s04 (.int _) (Ct (.inl (by omega))))
    | 2,_=>exact Ax (SqL.of g4) rfl (k H4 _ s04 .non rfl)
    | 3,_=>exact Ax (SqL.of g4) rfl (k H4 _ s04 (.bl _) rfl)
    | 4,_=>exact Ax (SqL.of g4) rfl (k H4 _ s04 (.str _ (by decide +kernel)) rfl)
    | 5,_=>exact Ax (SqL.of g4) rfl (k H4 _ s04 (.lst h1) rfl)
    | 6,_=>exact Ax (SqL.of g4) rfl (k H4 _ s04 (.int _) (Ct (.inr (by rw [R7];omega))))
    | 7,_=>exact Ax (SqL.of g4) rfl (k H4 _ s04 (.dK h2) rfl)
def Dx:Sp:=λ vs H Q _=>∃ n:Int,vs=[.int n]/\∀ H' v,Same H H'->Th H' v->EU v=false->Q v H'
abbrev Cq:Stmt:=top 70
theorem Gx:FnScope ["_law_number"] ["_law_number"] (Ah Cq):=⟨rfl,rfl,rfl,by decide +kernel,rfl,by decide +kernel,by decide +kernel⟩
theorem GB {f:Addr} {fd:FuncData} (F:Fun K "_law_no_colour" "_law_no_colour" Cq f fd) (T:Txt K mg c):FnOk P w K mg base CX0 1 f fd ["_law_number"] Dx:=by
  refine F.ok Gx (λ vs H Q E h=> ?_) (λ cdv A outer s H vs Q E hr h=> ?_)
  · obtain ⟨n,rfl,_⟩:=h;rfl
  · obtain ⟨n,rfl,k⟩:=h;refine ⟨_,(Af (An (A7 (Fg (K:=K)) (Ar (Aa Cr (Aa Al (Aa Al (Aa Al (Aa Ac (Aa (Ar (Aa Al Ab)) (Aa Al (Aa EN (Aa Al Ab)))))))))) (Aj AH (pv 0) Ac) (λ _ _=>rfl)))),?_⟩;walk_at "w";row_lines H x1;walk_at "w";row_lines H1 x4;walk_at "w";refine AD (by decide) ?_;have h1:=s4 _ _ g1;have s04:=s1.trans s4;obtain ⟨r,hr,e⟩:∃ r:Nat,r<9/\n%9=(r:Nat):=⟨(n%9).toNat,by omega,by omega⟩;rw [e]
    match r,hr with
    | 0,_=>exact Ax (SqL.of g4) rfl (k H4 _ s04 .non rfl)
    | 1,_=>exact Ax (SqL.of g4) rfl (k H4 _ s04 (.str _ (by decide +kernel)) (by decide +kernel))
    | 2,_=>exact Ax (SqL.of g4) rfl (k H4 _ s04 (.str _ (by decide +kernel)) (by decide +kernel))
    | 3,_=>exact Ax (SqL.of g4) rfl (k H4 _ s04 (.str _ (by decide +kernel)) (by decide +kernel))
    | 4,_=>exact Ax (SqL.of g4) rfl (k H4 _ s04 (.int _) rfl)
    | 5,_=>exact Ax (SqL.of g4) rfl (k H4 _ s04 (.lst h1) rfl)
    | 6,_=>exact Ax (SqL.of g4) rfl (k H4 _ s04 (.str _ (by decide +kernel)) (by decide +kernel))
    | 7,_=>exact Ax (SqL.of g4) rfl (k H4 _ s04 (.bl _) rfl)
    | 8,_=>exact Ax (SqL.of g4) rfl (k H4 _ s04 (.str _ (by decide +kernel)) (by decide +kernel))
theorem C3 {H:Hp} {a:Addr} {xs:List V} {m:Int} (g:H a=some (.lst xs)) (j:Nat) (hj:j<xs.length) (b:As (xs.getD j .non) (inV ((.int 0::xs).getD j .non)+1) m=false):Bi H (.ref a) m=false:=by
  unfold Bi;rw [AG g];refine List.all_eq_false.mpr ⟨j,Af1.mpr hj,?_⟩;rw [b];decide
theorem Im {H:Hp} {v:V} {m:Int} (e:BV H v=none):Bi H v m=false:=by
  unfold Bi;rw [e]
theorem Ij {H:Hp} {v:V} (t:Th H v) (e:BV H v=none):ThL H 1 v:=⟨t,λ xs z=>by rw [e] at z;cases z⟩
theorem Oo {H:Hp} {a:Addr} {x:V} (g:H a=some (.lst [x])) (t:Th H x):ThL H 1 (.ref a):=Br g (by decide:1<=100000) (λ y hy=>by cases List.mem_singleton.mp hy;exact t)
theorem L9 {H:Hp} {a:Addr} {xs:List V} (g:H a=some (.tup xs)):BV H (.ref a)=none:=by unfold BV;simp only [g]
theorem Nc {H:Hp} {a:Addr} {xs:List (Key × V)} (g:H a=some (.dK xs)):BV H (.ref a)=none:=by unfold BV;simp only [g]
def EQ:Sp:=λ vs H Q _=>∃ (n:Int) (m:Nat),vs=[.int n,nV m]/\m<=1000/\∀ H' v,Same H H'->ThL H' 1 v->Bi H' v (m:Nat)=false->Q v H'
abbrev Di:Stmt:=top 69
theorem sc__law_no_list:FnScope ["_law_number","_law_most","_law_some"] ["_law_number","_law_most"] (Ah Di):=⟨rfl,rfl,rfl,by decide +kernel,rfl,by decide +kernel,by decide +kernel⟩
theorem HJ {f:Addr} {fd:FuncData} (F:Fun K "_law_no_list" "_law_no_list" Di f fd) (T:Txt K mg c):FnOk P w K mg base CX0 1 f fd ["_law_number","_law_most"] EQ:=by
  refine F.ok sc__law_no_list (λ vs H Q E h=> ?_) (λ cdv A outer s H vs Q E hr h=> ?_)
  · obtain ⟨n,m,rfl,_⟩:=h;rfl
  · obtain ⟨n,m,rfl,hm,k⟩:=h;refine ⟨_,(Ad (Ap (i:=2) sc__law_no_list.nd rfl (Or.inl rfl) (Ar (Aa (Ar (Aa Ac Ab)) (Aa (Ar (Aa (Aj AU (pv 1) Ac) Ab)) (Aa (Ar (Aa Ac (Aa Ac Ab))) (Aa (Ar (Aa Ac (Aa Ac Ab))) (Aa Cr (Aa (A2 (Aa Ac Ab)) (Aa Al (Aa Ac (Aa (Ar (Aa EN Ab)) (Aa (Ar (Aa Cr Ab)) (Aa (Ar (Aa (Ar (Aa Ac Ab)) Ab)) (Aa E3 (Aa (Ar (Aa (pv 1) (Aa Ac (Aa (pv 1) Ab)))) Ab)))))))))))))))
      (Af (An (A7 (Fg (K:=K)) (pv 2) (Aj AH (pv 0) Ac) (λ _ _=>rfl))))),?_⟩
    walk_at "w";row_lines H x1;walk_at "w";row_lines H1 x2;walk_at "w";row_lines H2 x3;walk_at "w";row_lines H3 x4;walk_at "w";row_lines H4 x5;walk_at "w";row_lines H5 x6;walk_at "w";row_lines H6 x7;walk_at "w";row_lines H7 x8;walk_at "w";row_lines H8 x9;walk_at "w";row_lines H9 x10;walk_at "w";row_lines H10 x11;walk_at "w";row_lines H11 x12;walk_at "w";refine AD (by decide) ?_;have h1:=s12 _ _ (s11 _ _ (s10 _ _ (s9 _ _ (s8 _ _ (s7 _ _ (s6 _ _ (s5 _ _ (s4 _ _ (s3 _ _ (s2 _ _ g1))))))))));have h2:=s12 _ _ (s11 _ _ (s10 _ _ (s9 _ _ (s8 _ _ (s7 _ _ (s6 _ _ (s5 _ _ (s4 _ _ (s3 _ _ g2)))))))));have h3:=s12 _ _ (s11 _ _ (s10 _ _ (s9 _ _ (s8 _ _ (s7 _ _ (s6 _ _ (s5 _ _ (s4 _ _ g3))))))));have h4:=s12 _ _ (s11 _ _ (s10 _ _ (s9 _ _ (s8 _ _ (s7 _ _ (s6 _ _ (s5 _ _ g4)))))));have h5:=s12 _ _ (s11 _ _ (s10 _ _ (s9 _ _ (s8 _ _ (s7 _ _ (s6 _ _ g5))))));have h6:=s12 _ _ (s11 _ _ (s10 _ _ (s9 _ _ (s8 _ _ (s7 _ _ g6)))));have h7:=s12 _ _ (s11 _ _ (s10 _ _ (s9 _ _ (s8 _ _ g7))));have h8:=s12 _ _ (s11 _ _ (s10 _ _ (s9 _ _ g8)));have h9:=s12 _ _ (s11 _ _ (s10 _ _ g9));have h10:=s12 _ _ (s11 _ _ g10);have h11:=s12 _ _ g11;have s0:=s1.trans (s2.trans (s3.trans (s4.trans (s5.trans (s6.trans (s7.trans (s8.trans (s9.trans (s10.trans (s11.trans s12))))))))));obtain ⟨r,hr,e⟩:∃ r:Nat,r<13/\n%13=(r:Nat):=⟨(n%13).toNat,by omega,by omega⟩;have last:Bi H12 (.ref p11) (m:Nat)=false:=by
      by_cases z:m=0
      · refine C3 h11 0 (by decide:0<3) (Ct (.inl ?_));show ((m:Nat):Int)<0+1;omega
      · refine C3 h11 1 (by decide:1<3) (Ct (.inl ?_));show (1:Int)<((m:Nat):Int)+1;omega
    rw [e]
    match r,hr with
    | 0,_=>exact Ax (SqL.of g12) rfl (k H12 _ s0 (Oo h1 (.int _)) (C3 h1 0 (by decide:0<1) (Ct (.inl (by decide)))))
    | 1,_=>exact Ax (SqL.of g12) rfl (k H12 _ s0 (Oo h2 (.int _)) (C3 h2 0 (by decide:0<1) (Ct (.inr (by omega)))))
    | 2,_=>exact Ax (SqL.of g12) rfl (k H12 _ s0 (Br h3 (by decide:2<=100000) (λ y hy=>by simp at hy;cases hy;exact .int _)) (C3 h3 1 (by decide:1<2) (Ct (.inl (by decide)))))
    | 3,_=>exact Ax (SqL.of g12) rfl (k H12 _ s0 (Br h4 (by decide:2<=100000) (λ y hy=>by simp at hy;rcases hy with z | z <;> cases z <;> exact .int _)) (C3 h4 1 (by decide:1<2) (Ct (.inl (by decide)))))
    | 4,_=>exact Ax (SqL.of g12) rfl (k H12 _ s0 (Ij .non rfl) (Im rfl))
    | 5,_=>exact Ax (SqL.of g12) rfl (k H12 _ s0 (Ij (.tup h5) (L9 h5)) (Im (L9 h5)))
    | 6,_=>exact Ax (SqL.of g12) rfl (k H12 _ s0 (Ij (.str _ (by decide +kernel)) rfl) (Im rfl))
    | 7,_=>exact Ax (SqL.of g12) rfl (k H12 _ s0 (Ij (.int _) rfl) (Im rfl))
    | 8,_=>exact Ax (SqL.of g12) rfl (k H12 _ s0 (Oo h6 (.bl _)) (C3 h6 0 (by decide:0<1) rfl))
    | 9,_=>exact Ax (SqL.of g12) rfl (k H12 _ s0 (Oo h7 .non) (C3 h7 0 (by decide:0<1) rfl))
    | 10,_=>exact Ax (SqL.of g12) rfl (k H12 _ s0 (Oo h9 (.lst h8)) (C3 h9 0 (by decide:0<1) rfl))
    | 11,_=>exact Ax (SqL.of g12) rfl (k H12 _ s0 (Ij (.dK h10) (Nc h10)) (Im (Nc h10)))
    | 12,_=>exact Ax (SqL.of g12) rfl (k H12 _ s0 (Br h11 (by decide:3<=100000) (λ y hy=>by rcases Ab5.mp hy with z | hy;(rw [z];exact .int _);rcases Ab5.mp hy with z | hy;(rw [z];exact .int _);rw [List.mem_singleton.mp hy];exact .int _)) last)
theorem Iu {c:Cs} {H:Hp} {E:XK} {v:V} {m:Nat} {bad aw:Bool} (e:As v 1 (m:Nat)= !aw) (hb:aw=false->bad=true) (k1:aw=true->∀ H',Same H H'->E (.ref c.OutOfPlace) none H') (k2:aw=false->∀ H',Same H H'->E (.ref c.BadDraft) none H'):Ref c H E v m bad:=by
  cases aw with
  | true=>exact .inl ⟨e,k1 rfl⟩
  | false=>exact .inr ⟨e,hb rfl,k2 rfl⟩
theorem IJ {m:Nat} {q:Int} (h:1<=m):As (.int (1+q%(m:Nat))) 1 (m:Nat)=true:=by
  have h1:=Ae0 q (show ((m:Nat):Int)≠0 by omega);have h2:=Ae3 q (show (0:Int)<(m:Nat) by omega);show (decide _&&decide _)=true;rw [decide_eq_true (by omega),decide_eq_true (by omega)];rfl
theorem QX {c aw:Bool} {k:Nat} {σ:L2.St} {H:Hp} {D:L2.St->Hp->Prop} {Bp:Prop} (h:∀ wr:Bool,(aw=false->wr=true)->AO k (.bl wr) σ H D) (hb:AO k (.bl (!aw)) σ H D->Bp):if c=true then AO k (.bl true) σ H D else Bp:=by
  cases c with
  | true=>exact h true λ _=>rfl
  | false=>exact hb (h _ λ z=>by rw [z];rfl)
theorem Ua {a b c:Bool} {r:Int} (h1:r≠0->a=false) (h2:r≠1->b=false):(!(a&&(b&&c)))=true:=by
  by_cases z:r=1
  · rw [h1 (by omega)];rfl
  · rw [h2 z];cases a <;> rfl
theorem Ru {c:Cs} {H:Hp} {E:XK} {d:Dr} {ve vn vp vz:V} {aw:Bool} {o:Nat} {pl:Addr} {P:V->V->Prop} (ho:(aw=true/\o<6)\/(aw=false/\(o=6\/o=7))) (gl:H pl=some (.lst [.str "warp"])) (te:Th H ve) (tn:Th H vn) (tp:Th H vp)
  (ae:As ve 1 (d.th.length:Nat)= !aw) (an:As vn 1 (d.td.length:Nat)=false) (ap:As vp 1 (d.td.length:Nat)= !aw) (hb:aw=false->EU vz=false) (k1:aw=true->∀ H',Same H H'->E (.ref c.OutOfPlace) none H') (k2:aw=false->∀ H',Same H H'->E (.ref c.BadDraft) none H')
  : ∃ sv v,[V.str "warp", .str "weft", .str "Warp", .non, .int 5, .ref pl, .str "warp", .str "weft"][o]?=some sv/\[ve,vn, .int 1, .int 1, .int 1, .int 1,ve,vp][o]?=some v/\Th H sv/\Th H v/\(((sv≠ .str "warp"/\sv≠ .str "weft")/\∀ H',Same H H'->E (.ref c.OutOfPlace) none H')\/
   (∃ w,sv= .str (Hl w)/\(Ref c H E v (if w=true then d.td.length else d.th.length) (!EU vz)\/P sv v))):=by
  rcases ho with ⟨rfl,ho⟩ | ⟨rfl,rfl | rfl⟩
  · match o,ho with
    | 0,_=>exact ⟨_,_,rfl,rfl, .str _ (by decide +kernel),te, .inr ⟨false,rfl, .inl (.inl ⟨ae,k1 rfl⟩)⟩⟩
    | 1,_=>exact ⟨_,_,rfl,rfl, .str _ (by decide +kernel),tn, .inr ⟨true,rfl, .inl (.inl ⟨an,k1 rfl⟩)⟩⟩
    | 2,_=>exact ⟨_,_,rfl,rfl, .str _ (by decide +kernel), .int _, .inl ⟨⟨by decide +kernel,by decide +kernel⟩,k1 rfl⟩⟩
    | 3,_=>exact ⟨_,_,rfl,rfl, .non, .int _, .inl ⟨⟨by nofun,by nofun⟩,k1 rfl⟩⟩
    | 4,_=>exact ⟨_,_,rfl,rfl, .int _, .int _, .inl ⟨⟨by nofun,by nofun⟩,k1 rfl⟩⟩
    | 5,_=>exact ⟨_,_,rfl,rfl, .lst gl, .int _, .inl ⟨⟨by nofun,by nofun⟩,k1 rfl⟩⟩
  · exact ⟨_,_,rfl,rfl, .str _ (by decide +kernel),te, .inr ⟨false,rfl, .inl (.inr ⟨ae,by rw [hb rfl];rfl,k2 rfl⟩)⟩⟩
  · exact ⟨_,_,rfl,rfl, .str _ (by decide +kernel),tp, .inr ⟨true,rfl, .inl (.inr ⟨ap,by rw [hb rfl];rfl,k2 rfl⟩)⟩⟩
def Fj (K:PySem.W.Frag) (c:Cs):Sp:=λ vs H _ E=>∃ (x:Addr) (B:Hp) (lp:Addr) (d:Dr) (st:List (Dr × Bk)) (kd:Nat) (n:Int) (sz:Addr),vs=[.ref x,nV kd, .int n, .ref sz]/\HandAt c B H x lp d st/\DrOk d/\kd<8/\SqT K H sz [nV d.th.length,nV d.td.length,nV d.sh,nV d.tr]/\
  (decide (n%2=1)=true\/5<kd->∀ H',Same H H'->E (.ref c.OutOfPlace) none H')/\(decide (n%2=1)=false/\kd<=5->∀ H',Same H H'->E (.ref c.BadDraft) none H')
abbrev Ey:Stmt:=top 71
theorem sc__law_tried:FnScope ["_law_hand","_law_kind","_law_number","_law_sizes","_law_ends","_law_picks","_law_shafts","_law_treadles","_law_is_away","_law_more","_law_wrong","_law_end","_law_pick","_law_shaft","_law_feet","_law_treadle","_law_odd","_law_side","_law_place","_law_own"] ["_law_hand","_law_kind","_law_number","_law_sizes"] (Ah Ey):=⟨rfl,rfl,rfl,by decide +kernel,rfl,by decide +kernel,by decide +kernel⟩
theorem JR {f:Addr} {fd:FuncData} (F:Fun K "_law_tried" "_law_tried" Ey f fd) (T:Txt K mg c) (c__law_no_place:Az P w K mg base "_law_no_place" 1 ["_law_number","_law_most"] DU) (c__law_no_shaft:Az P w K mg base "_law_no_shaft" 1 ["_law_number","_law_most"] DV) (c__law_no_list:Az P w K mg base "_law_no_list" 1 ["_law_number","_law_most"] EQ) (c__law_no_colour:Az P w K mg base "_law_no_colour" 1 ["_law_number"] Dx) (d_Hand_thread:A4 P w K mg base c.Hand "thread" 10 ["self","end","shaft"] (EK c)) (d_Hand_tie:A4 P w K mg base c.Hand "tie" 10 ["self","treadle","shafts"] (GA c)) (d_Hand_tread:A4 P w K mg base c.Hand "tread" 10 ["self","pick","treadles"] (EX c)) (d_Hand_colour:A4 P w K mg base c.Hand "colour" 10 ["self","side","number","colour"] (CS c)) (d_Hand_put_end:A4 P w K mg base c.Hand "put_end" 9 ["self","end","shaft","colour"] (Cw c)) (d_Hand_put_pick:A4 P w K mg base c.Hand "put_pick" 9 ["self","pick","treadles","colour"] (B6 c)) (d_Hand_take_end:A4 P w K mg base c.Hand "take_end" 9 ["self","end"] (Cb c)) (d_Hand_take_pick:A4 P w K mg base c.Hand "take_pick" 9 ["self","pick"] (BX c)):FnOk P w K mg base (CXE P w) 11 f fd ["_law_hand","_law_kind","_law_number","_law_sizes"] (Fj K c):=by
  refine Fun.okE F sc__law_tried (λ vs H Q E h=> ?_) (λ cdv A outer s H vs Q E hr h=> ?_)
  · obtain ⟨x,B,lp,d,st,kd,n,sz,rfl,_⟩:=h;rfl
  · obtain ⟨x,B,lp,d,st,kd,n,sz,rfl,hA,ok,hkd,hz,k1,k2⟩:=h;obtain ⟨dx,y,refs,hx,hl,D0,S0⟩:=hA.ex;refine ⟨_,(Ad (Pu (pv 3) (Of (K:=K) rfl (Bt (Bf (i:=4) sc__law_tried.nd rfl (Or.inl rfl)) (Bt (Bf (i:=5) sc__law_tried.nd rfl (Or.inl rfl)) (Bt (Bf (i:=6) sc__law_tried.nd rfl (Or.inl rfl)) (Bt (Bf (i:=7) sc__law_tried.nd rfl (Or.inl rfl)) K0))))))
      (Ad (Ap (i:=8) sc__law_tried.nd rfl (Or.inl rfl) (BO Bv (Aj AH (pv 2) Ac) Ac (AB _)))
      (Ad (Ap (i:=9) sc__law_tried.nd rfl (Or.inl rfl) (Aj By (pv 2) Ac))
      (Ad (Ap (i:=10) sc__law_tried.nd rfl (Or.inl rfl) (Y0 (BO Nl (Aj AH (Aj By (pv 2) Ac) Ac) Ac (AB _)) (DI (Mf (pv 8)))))
      (Ad (Ap (i:=11) sc__law_tried.nd rfl (Or.inl rfl) (A1 (A6 (pv 8)) (Ag c__law_no_place (hr.mono (by decide)) (Aa (pv 9) (Aa (pv 4) Ab))) (Aj AU Ac (Aj AH (pv 9) (pv 4)))))
      (Ad (Ap (i:=12) sc__law_tried.nd rfl (Or.inl rfl) (A1 (A6 (pv 8)) (Ag c__law_no_place (hr.mono (by decide)) (Aa (pv 9) (Aa (pv 5) Ab))) (Aj AU Ac (Aj AH (pv 9) (pv 5)))))
      (Ad (Ap (i:=13) sc__law_tried.nd rfl (Or.inl rfl) (A1 (A6 (pv 10)) (Ag c__law_no_shaft (hr.mono (by decide)) (Aa (Aj By (pv 9) Ac) (Aa (pv 6) Ab))) Ac))
      (Ad (Ap (i:=14) sc__law_tried.nd rfl (Or.inl rfl) (A1 (A6 (pv 10)) (Ag c__law_no_list (hr.mono (by decide)) (Aa (Aj By (pv 9) Ac) (Aa (pv 7) Ab))) (Ar Ab)))
      (Af (Bb (AE Bv (pv 1) Ac (AB _)) (Af (Av (AY (pv 0) d_Hand_thread hr AF (Aa (pv 11) (Aa (pv 13) Ab))))) (Af (Bb (AE Bv (pv 1) Ac (AB _)) (Ad (Ap (i:=15) sc__law_tried.nd rfl (Or.inl rfl) (A1 (A6 (pv 8)) (Ag c__law_no_place (hr.mono (by decide)) (Aa (pv 9) (Aa (pv 7) Ab))) (Aj AU Ac (Aj AH (pv 9) (pv 7)))))
      (Af (Av (AY (pv 0) d_Hand_tie hr AF (Aa (pv 15) (Aa (A1 (A6 (pv 10)) (Ag c__law_no_list (hr.mono (by decide)) (Aa (Aj By (pv 9) Ac) (Aa (pv 6) Ab))) (Ar Ab)) Ab)))))) (Af (Bb (AE Bv (pv 1) Ac (AB _)) (Af (Av (AY (pv 0) d_Hand_tread hr AF (Aa (pv 12) (Aa (pv 14) Ab))))) (Af (Bb (AE Bv (pv 1) Ac (AB _)) (Ad (Ap (i:=16) sc__law_tried.nd rfl (Or.inl rfl) (A1 (A6 (pv 8)) (Aj AH (Aj By (pv 9) Ac) Ac) (Aj AU Ac (Aj AH (pv 9) Ac))))
      (Ad (Ap (i:=17) sc__law_tried.nd rfl (Or.inl rfl) (A7 (Fg (K:=K)) (Ar (Aa Al (Aa Al (Aa Al (Aa Cr (Aa Ac (Aa (Ar (Aa Al Ab)) (Aa Al (Aa Al Ab))))))))) (pv 16) (λ _ _=>rfl)))
      (Ad (Ap (i:=2) sc__law_tried.nd rfl (Or.inl rfl) (A7 (Fg (K:=K)) (Ar (Aa (pv 11) (Aa (Ag c__law_no_place (hr.mono (by decide)) (Aa (pv 9) (Aa (pv 5) Ab))) (Aa Ac (Aa Ac (Aa Ac (Aa Ac (Aa (pv 11) (Aa (pv 12) Ab))))))))) (pv 16) (λ _ _=>rfl)))
      (Af (Av (AY (pv 0) d_Hand_colour hr AF (Aa (pv 17) (Aa (pv 2) (Aa (A1 (A6 (pv 10)) (Ag c__law_no_colour (hr.mono (by decide)) (Aa (Aj By (pv 9) Ac) Ab)) Al) Ab))))))))) (Af (Bb (AE Bv (pv 1) Ac (AB _)) (Ad (Ap (i:=18) sc__law_tried.nd rfl (Or.inl rfl) (A1 (A6 (pv 8)) (Ag c__law_no_place (hr.mono (by decide)) (Aa (pv 9) (Aa (Aj AU (pv 4) Ac) Ab))) (Aj AU Ac (Aj AH (pv 9) (Aj AU (pv 4) Ac)))))
      (Ad (Ap (i:=19) sc__law_tried.nd rfl (Or.inl rfl) (A1 (AE Nl (Aj AH (pv 9) Ac) Ac (AB _)) (pv 13) Ac))
      (Af (Av (AY (pv 0) d_Hand_put_end (hr.mono (by decide)) AF (Aa (pv 18) (Aa (pv 19) (Aa (A1 (AE Bv (Aj AH (pv 9) Ac) Ac (AB _)) Al (Ag c__law_no_colour (hr.mono (by decide)) (Aa (Aj By (pv 9) Ac) Ab))) Ab)))))))) (Af (Bb (AE Bv (pv 1) Ac (AB _)) (Ad (Ap (i:=18) sc__law_tried.nd rfl (Or.inl rfl) (A1 (A6 (pv 8)) (Ag c__law_no_place (hr.mono (by decide)) (Aa (pv 9) (Aa (Aj AU (pv 5) Ac) Ab))) (Aj AU Ac (Aj AH (pv 9) (Aj AU (pv 5) Ac)))))
      (Ad (Ap (i:=19) sc__law_tried.nd rfl (Or.inl rfl) (A1 (AE Nl (Aj AH (pv 9) Ac) Ac (AB _)) (pv 14) (Ar Ab)))
      (Af (Av (AY (pv 0) d_Hand_put_pick (hr.mono (by decide)) AF (Aa (pv 18) (Aa (pv 19) (Aa (A1 (AE Bv (Aj AH (pv 9) Ac) Ac (AB _)) Al (Ag c__law_no_colour (hr.mono (by decide)) (Aa (Aj By (pv 9) Ac) Ab))) Ab)))))))) (Af (Bb (AE Bv (pv 1) Ac (AB _)) (Af (Av (AY (pv 0) d_Hand_take_end (hr.mono (by decide)) AF (Aa (Ag c__law_no_place (hr.mono (by decide)) (Aa (pv 9) (Aa (pv 4) Ab))) Ab)))) (Af (Av (AY (pv 0) d_Hand_take_pick (hr.mono (by decide)) AF (Aa (Ag c__law_no_place (hr.mono (by decide)) (Aa (pv 9) (Aa (pv 5) Ab))) Ab)))))))))))))))))))))))))),?_⟩
    walk_at "w";refine ⟨sz,_,rfl,hz,rfl,?_⟩;walk_at "w";refine AD (by decide) ?_;walk_at "w";refine AD ⟨by decide,by decide⟩ ?_;walk_at "w";refine AD ⟨by decide,by decide⟩ ?_;walk_at "w";refine AD (by decide) ?_;walk_at "w";generalize decide (n%2=1)=aw at k1 k2 ⊢;refine QX (aw:=aw) (λ wr hw=> ?_) (λ hh=> ?_)
    case refine_2=>
      exact ⟨_,rfl,_,rfl,hh⟩
    walk_at "w";have tl1:=ok.h1;have tl2:=ok.h2;have pl1:=ok.p1;have pl2:=ok.p2;have sl1:=ok.s1;have sl2:=ok.s2;have rl1:=ok.t1;have rl2:=ok.t2;refine FW (λ v H'=>Same H H'/\Th H' v/\As v 1 (d.th.length:Nat)= !aw) ?_ (λ R key=> ?_)
    case refine_2=>
      cases aw with
      | true=>
        refine CI ?_;walk_at "w";exact ⟨_,_,rfl,by omega,λ H' v s t a=>key _ _ ⟨s,t,a⟩⟩
      | false=>
        refine Cm ?_;walk_at "w";refine AD (by omega) ?_;walk_at "w";exact key _ _ ⟨Same.refl _, .int _,IJ (by omega)⟩
    rintro ve H1 ⟨s1,te,ae⟩;walk_at "w";refine FW (λ v H'=>Same H1 H'/\Th H' v/\As v 1 (d.td.length:Nat)= !aw) ?_ (λ R key=> ?_)
    case refine_2=>
      cases aw with
      | true=>
        refine CI ?_;walk_at "w";exact ⟨_,_,rfl,by omega,λ H' v s t a=>key _ _ ⟨s,t,a⟩⟩
      | false=>
        refine Cm ?_;walk_at "w";refine AD (by omega) ?_;walk_at "w";exact key _ _ ⟨Same.refl _, .int _,IJ (by omega)⟩
    rintro vp H2 ⟨s2,tp,ap⟩;walk_at "w";refine FW (λ v H'=>Same H2 H'/\Th H' v/\(wr=true->As v 0 (d.sh:Nat)=false)) ?_ (λ R key=> ?_)
    case refine_2=>
      cases wr with
      | true=>
        refine CI ?_;walk_at "w";refine AD ⟨by decide,by decide⟩ ?_;walk_at "w";exact ⟨_,_,rfl,by omega,λ H' v s t a=>key _ _ ⟨s,t,λ _=>a⟩⟩
      | false=>
        refine Cm ?_;walk_at "w";exact key _ _ ⟨Same.refl _, .int _,λ z=>by cases z⟩
    rintro vs' H3 ⟨s3,tsh,ash⟩;walk_at "w";refine FW (λ v H'=>Same H3 H'/\ThL H' 1 v/\(wr=true->Bi H' v (d.tr:Nat)=false)) ?_ (λ R key=> ?_)
    case refine_2=>
      cases wr with
      | true=>
        refine CI ?_;walk_at "w";refine AD ⟨by decide,by decide⟩ ?_;walk_at "w";exact ⟨_,_,rfl,by omega,λ H' v s t a=>key _ _ ⟨s,t,λ _=>a⟩⟩
      | false=>
        refine Cm ?_;walk_at "w";row_lines H3 x4;exact key _ _ ⟨s4,Br g4 (by decide:0<=100000) (λ _ z=>by cases z),λ z=>by cases z⟩
    rintro vf H4 ⟨s4,tf,af⟩;have s04:=s1.trans (s2.trans (s3.trans s4));have hx4:=s04 _ _ hx;walk_at "w";simp only [L2.start,Ac4,List.length_nil,Nat.reduceAdd,Nat.reduceSub,Ag3,List.map_nil,List.reduceReplicate,List.cons_append,List.nil_append,List.set_cons_succ,List.set_cons_zero,List.set];refine CJ (λ z=> ?_) (λ z=> ?_)
    · refine AR ?_;walk_at "w";refine ⟨_,_,_,rfl,hx4,rfl,?_⟩;walk_at "w";have kl:kd<=5:=by omega
      exact ⟨x,B,lp,d,st,ve,vs',rfl,hA.same s04,ok,te.same (s2.trans (s3.trans s4)),tsh.same s4,Iu ae (λ z=>by rw [ash (hw z)];rfl) (λ z H' s'=>k1 (.inl z) H' (s04.trans s')) (λ z H' s'=>k2 ⟨z,kl⟩ H' (s04.trans s'))⟩
    walk_at "w";refine CJ (λ z=> ?_) (λ z=> ?_)
    · have kl:kd<=5:=by omega
      walk_at "w";refine FW (λ v H'=>Same H4 H'/\Th H' v/\As v 1 (d.tr:Nat)= !aw) ?_ (λ R key=> ?_)
      case refine_2=>
        cases aw with
        | true=>
          refine CI ?_;walk_at "w";exact ⟨_,_,rfl,by omega,λ H' v s t a=>key _ _ ⟨s,t,a⟩⟩
        | false=>
          refine Cm ?_;walk_at "w";refine AD (by omega) ?_;walk_at "w";exact key _ _ ⟨Same.refl _, .int _,IJ (by omega)⟩
      rintro vt H5 ⟨s5,tt,at'⟩;walk_at "w";refine AR ?_;walk_at "w";have s05:=s04.trans s5;refine ⟨_,_,_,rfl,s05 _ _ hx,rfl,?_⟩;walk_at "w";refine FW (λ v H'=>Same H5 H'/\ThL H' 1 v/\(wr=true->Bi H' v (d.sh:Nat)=false)) ?_ (λ R key=> ?_)
      case refine_2=>
        cases wr with
        | true=>
          refine CI ?_;walk_at "w";refine AD ⟨by decide,by decide⟩ ?_;walk_at "w";exact ⟨_,_,rfl,by omega,λ H' v s t a=>key _ _ ⟨s,t,λ _=>a⟩⟩
        | false=>
          refine Cm ?_;walk_at "w";row_lines H5 xq;exact key _ _ ⟨sq,Br gq (by decide:0<=100000) (λ _ z=>by cases z),λ z=>by cases z⟩
      rintro vl H6 ⟨s6,tl,al⟩;have s06:=s05.trans s6;walk_at "w";exact ⟨x,B,lp,d,st,vt,vl,rfl,hA.same s06,ok,tt.same s6,tl,Iu at' (λ z=>by rw [al (hw z)];rfl) (λ z H' s'=>k1 (.inl z) H' (s06.trans s')) (λ z H' s'=>k2 ⟨z,kl⟩ H' (s06.trans s'))⟩
    walk_at "w";refine CJ (λ z=> ?_) (λ z=> ?_)
    · have kl:kd<=5:=by omega
      refine AR ?_;walk_at "w";refine ⟨_,_,_,rfl,hx4,rfl,?_⟩;walk_at "w";exact ⟨x,B,lp,d,st,vp,vf,rfl,hA.same s04,ok,tp.same (s3.trans s4),tf,Iu ap (λ z=>by rw [af (hw z)];rfl) (λ z H' s'=>k1 (.inl z) H' (s04.trans s')) (λ z H' s'=>k2 ⟨z,kl⟩ H' (s04.trans s'))⟩
    walk_at "w";refine CJ (λ z=> ?_) (λ z=> ?_)
    · have kl:kd<=5:=by omega
      walk_at "w";refine FW (λ v H'=>∃ o:Nat,v=nV o/\H'=H4/\((aw=true/\o<6)\/(aw=false/\(o=6\/o=7)))) ?_ (λ R key=> ?_)
      case refine_2=>
        cases aw with
        | true=>
          refine CI ?_;walk_at "w";refine AD ⟨by decide,by decide⟩ ?_;walk_at "w";refine AD (by decide) ?_;refine key _ _ ⟨(n / 2 / 7%6).toNat,?_,rfl, .inl ⟨rfl,by omega⟩⟩;show V.int _=V.int _;congr 1;omega
        | false=>
          refine Cm ?_;walk_at "w";refine AD (by decide) ?_;walk_at "w";refine key _ _ ⟨(6+n / 2%2).toNat,?_,rfl, .inr ⟨rfl,by omega⟩⟩;show V.int _=V.int _;congr 1;omega
      rintro vo H5 ⟨o,rfl,e5,ho⟩;rw [e5];clear e5;walk_at "w";row_lines H4 x6;walk_at "w";row_lines H6 x7;have lo:o<8:=by omega
      walk_at "w";refine Ax (SqL.of g7) (AW (Aa4 (by exact lo))) ?_;walk_at "w";refine ⟨_,_,rfl,by omega,λ H8 vn s8 tn an=> ?_⟩;walk_at "w";row_lines H8 x9;walk_at "w";refine Ax (SqL.of g9) (AW (Aa4 (by exact lo))) ?_;walk_at "w";refine AR ?_;walk_at "w";have s49:=s6.trans (s7.trans (s8.trans s9));have s09:=s04.trans s49;refine ⟨_,_,_,rfl,s09 _ _ hx,rfl,?_⟩;walk_at "w";refine FW (λ v H'=>Same H9 H'/\Th H' v/\(aw=false->EU v=false)) ?_ (λ R key=> ?_)
      case refine_2=>
        cases wr with
        | true=>
          refine CI ?_;walk_at "w";refine AD ⟨by decide,by decide⟩ ?_;walk_at "w";exact ⟨_,rfl,λ H' v s t a=>key _ _ ⟨s,t,λ _=>a⟩⟩
        | false=>
          refine Cm ?_;walk_at "w";exact key _ _ ⟨Same.refl _, .str _ (by decide +kernel),λ z=>by cases hw z⟩
      rintro vz H10 ⟨s10,tz,az⟩;have s010:=s09.trans s10;have s410:=s49.trans s10;walk_at "w";obtain ⟨sv,v,e1,e2,t1,t2,hk⟩:=Ru (c:=c) (E:=_) (P:=λ _ _=>False) ho (s10 _ _ (s9 _ _ (s8 _ _ (s7 _ _ g6)))) (te.same ((s2.trans (s3.trans s4)).trans s410)) (tn.same (s9.trans s10)) (tp.same ((s3.trans s4).trans s410)) ae an ap az (λ z H' s'=>k1 (.inl z) H' (s010.trans s')) (λ z H' s'=>k2 ⟨z,kl⟩ H' (s010.trans s'));have q1:=Ad8.inj ((Aa4 (by exact lo)).symm.trans e1);have q2:=Ad8.inj ((Aa4 (by exact lo)).symm.trans e2);exact ⟨x,B,lp,d,st,sv,v,vz,by rw [q1,q2],hA.same s010,ok,t1,t2,tz,hk.imp id λ ⟨w,e,h⟩=>⟨w,e,h.imp id False.elim⟩⟩
    walk_at "w";refine CJ (λ z=> ?_) (λ z=> ?_)
    · have kl:kd<=5:=by omega
      walk_at "w";refine FW (λ v H'=>Same H4 H'/\Th H' v/\As v 1 ((d.th.length+1:Nat):Int)= !aw) ?_ (λ R key=> ?_)
      case refine_2=>
        cases aw with
        | true=>
          refine CI ?_;walk_at "w";exact ⟨_,d.th.length+1,rfl,by omega,λ H' v s t a=>key _ _ ⟨s,t,a⟩⟩
        | false=>
          refine Cm ?_;walk_at "w";refine AD (by omega) ?_;walk_at "w";exact key _ _ ⟨Same.refl _, .int _,IJ (m:=d.th.length+1) (by omega)⟩
      rintro vt H5 ⟨s5,tt,at'⟩;walk_at "w";refine AD (by decide) ?_;walk_at "w";refine FW (λ v H'=>Same H5 H'/\Th H' v/\(aw=false->n / 2%3≠0->As v 0 (d.sh:Nat)=false)) ?_ (λ R key=> ?_)
      case refine_2=>
        refine CJ (λ zc=> ?_) (λ zc=> ?_)
        · walk_at "w";exact key _ _ ⟨Same.refl _,tsh.same (s4.trans s5),λ z _=>ash (hw z)⟩
        · walk_at "w";exact key _ _ ⟨Same.refl _, .int _,λ _ z=>by omega⟩
      rintro vo H6 ⟨s6,to,ao⟩;walk_at "w";refine AR ?_;walk_at "w";have s06:=s04.trans (s5.trans s6);refine ⟨_,_,_,rfl,s06 _ _ hx,rfl,?_⟩;walk_at "w";refine AD (by decide) ?_;walk_at "w";refine FW (λ v H'=>Same H6 H'/\Th H' v/\(n / 2%3≠1->EU v=false)) ?_ (λ R key=> ?_)
      case refine_2=>
        refine CJ (λ zc=> ?_) (λ zc=> ?_)
        · walk_at "w";exact key _ _ ⟨Same.refl _, .str _ (by decide +kernel),λ z=>absurd zc z⟩
        · walk_at "w";refine AD ⟨by decide,by decide⟩ ?_;walk_at "w";exact ⟨_,rfl,λ H' v s t a=>key _ _ ⟨s,t,λ _=>a⟩⟩
      rintro vz H7 ⟨s7,tz,az⟩;have s07:=s06.trans s7;walk_at "w";exact ⟨x,B,lp,d,st,vt,vo,vz,rfl,hA.same s07,ok,tt.same (s6.trans s7),to.same s7,tz,Iu at' (λ z=>Ua (ao z) az) (λ z H' s'=>k1 (.inl z) H' (s07.trans s')) (λ z H' s'=>k2 ⟨z,kl⟩ H' (s07.trans s'))⟩
    walk_at "w";refine CJ (λ z=> ?_) (λ z=> ?_)
    · have kl:kd<=5:=by omega
      walk_at "w";refine FW (λ v H'=>Same H4 H'/\Th H' v/\As v 1 ((d.td.length+1:Nat):Int)= !aw) ?_ (λ R key=> ?_)
      case refine_2=>
        cases aw with
        | true=>
          refine CI ?_;walk_at "w";exact ⟨_,d.td.length+1,rfl,by omega,λ H' v s t a=>key _ _ ⟨s,t,a⟩⟩
        | false=>
          refine Cm ?_;walk_at "w";refine AD (by omega) ?_;walk_at "w";exact key _ _ ⟨Same.refl _, .int _,IJ (m:=d.td.length+1) (by omega)⟩
      rintro vt H5 ⟨s5,tt,at'⟩;walk_at "w";refine AD (by decide) ?_;walk_at "w";refine FW (λ v H'=>Same H5 H'/\ThL H' 1 v/\(aw=false->n / 2%3≠0->Bi H' v (d.tr:Nat)=false)) ?_ (λ R key=> ?_)
      case refine_2=>
        refine CJ (λ zc=> ?_) (λ zc=> ?_)
        · walk_at "w";exact key _ _ ⟨Same.refl _,ThL.same s5 tf,λ z _=>(BD tf.th s5).trans (af (hw z))⟩
        · walk_at "w";row_lines H5 xq;exact key _ _ ⟨sq,Br gq (by decide:0<=100000) (λ _ z=>by cases z),λ _ z=>by omega⟩
      rintro vo H6 ⟨s6,to,ao⟩;walk_at "w";refine AR ?_;walk_at "w";have s06:=s04.trans (s5.trans s6);refine ⟨_,_,_,rfl,s06 _ _ hx,rfl,?_⟩;walk_at "w";refine AD (by decide) ?_;walk_at "w";refine FW (λ v H'=>Same H6 H'/\Th H' v/\(n / 2%3≠1->EU v=false)) ?_ (λ R key=> ?_)
      case refine_2=>
        refine CJ (λ zc=> ?_) (λ zc=> ?_)
        · walk_at "w";exact key _ _ ⟨Same.refl _, .str _ (by decide +kernel),λ z=>absurd zc z⟩
        · walk_at "w";refine AD ⟨by decide,by decide⟩ ?_;walk_at "w";exact ⟨_,rfl,λ H' v s t a=>key _ _ ⟨s,t,λ _=>a⟩⟩
      rintro vz H7 ⟨s7,tz,az⟩;have s07:=s06.trans s7;walk_at "w";exact ⟨x,B,lp,d,st,vt,vo,vz,rfl,hA.same s07,ok,tt.same (s6.trans s7),ThL.same s7 to,tz,Iu at' (λ z=>Ua (λ q=>(BD to.th s7).trans (ao z q)) az) (λ z H' s'=>k1 (.inl z) H' (s07.trans s')) (λ z H' s'=>k2 ⟨z,kl⟩ H' (s07.trans s'))⟩
    have kg:5<kd:=by omega
    walk_at "w";refine CJ (λ z=> ?_) (λ z=> ?_)
    · refine AR ?_;walk_at "w";refine ⟨_,_,_,rfl,hx4,rfl,?_⟩;walk_at "w";refine ⟨_,_,rfl,by omega,λ H5 v s5 t a=> ?_⟩;walk_at "w";exact ⟨x,B,lp,d,st,v,rfl,hA.same (s04.trans s5),ok,t, .inl ⟨a,λ H' s'=>k1 (.inr kg) H' ((s04.trans s5).trans s')⟩⟩
    · refine AR ?_;walk_at "w";refine ⟨_,_,_,rfl,hx4,rfl,?_⟩;walk_at "w";refine ⟨_,_,rfl,by omega,λ H5 v s5 t a=> ?_⟩;walk_at "w";exact ⟨x,B,lp,d,st,v,rfl,hA.same (s04.trans s5),ok,t, .inl ⟨a,λ H' s'=>k1 (.inr kg) H' ((s04.trans s5).trans s')⟩⟩
theorem Lw {c:Cs} (T:Txt K mg c):KindF K c c.BadDraft 5:=⟨by decide,T.xk_BadDraft,T.ki_BadDraft_BadRow,T.ki_BadDraft_BadWord,T.ki_BadDraft_TooMany,T.ki_BadDraft_NotPlain,T.ki_BadDraft_NotGrown,T.ki_BadDraft_BadDraft,T.ki_BadDraft_BadCloth,T.ki_BadDraft_OutOfPlace,T.ki_BadDraft_ValueError⟩
theorem Ly {c:Cs} (T:Txt K mg c):KindF K c c.OutOfPlace 7:=⟨by decide,T.xk_OutOfPlace,T.ki_OutOfPlace_BadRow,T.ki_OutOfPlace_BadWord,T.ki_OutOfPlace_TooMany,T.ki_OutOfPlace_NotPlain,T.ki_OutOfPlace_NotGrown,T.ki_OutOfPlace_BadDraft,T.ki_OutOfPlace_BadCloth,T.ki_OutOfPlace_OutOfPlace,T.ki_OutOfPlace_ValueError⟩
def ES (K:PySem.W.Frag) (c:Cs):Sp:=λ vs H Q _=>∃ (x:Addr) (B:Hp) (lp:Addr) (d:Dr) (st:List (Dr × Bk)) (kd:Nat) (n:Int) (sz:Addr),vs=[.ref x,nV kd, .int n, .ref sz]/\HandAt c B H x lp d st/\DrOk d/\kd<8/\SqT K H sz [nV d.th.length,nV d.td.length,nV d.sh,nV d.tr]/\
  ∀ H',Same H H'->Q (.str (nmK (if decide (n%2=1)=true\/5<kd then 7 else 5))) H'
abbrev Da:Stmt:=top 72
theorem sc__law_refused:FnScope ["_law_hand","_law_kind","_law_number","_law_sizes","_law_wrong","e","_law_found"] ["_law_hand","_law_kind","_law_number","_law_sizes"] (Ah Da):=⟨rfl,rfl,rfl,by decide +kernel,rfl,by decide +kernel,by decide +kernel⟩
theorem Hz {f:Addr} {fd:FuncData} (F:Fun K "_law_refused" "_law_refused" Da f fd) (T:Txt K mg c) (c__law_tried:BF P w K mg base "_law_tried" 11 ["_law_hand","_law_kind","_law_number","_law_sizes"] (Fj K c)) (c__law_kinds:Az P w K mg base "_law_kinds" 1 ["_law_error"] (DO K c)):FnOk P w K mg base CX0 12 f fd ["_law_hand","_law_kind","_law_number","_law_sizes"] (ES K c):=by
  refine F.ok sc__law_refused (λ vs H Q E h=> ?_) (λ cdv A outer s H vs Q E hr h=> ?_)
  · obtain ⟨x,B,lp,d,st,kd,n,sz,rfl,_⟩:=h;rfl
  · obtain ⟨x,B,lp,d,st,kd,n,sz,rfl,hA,ok,hkd,hz,k⟩:=h;have hu:=hr.units0;refine ⟨_,(Ad (Ap (i:=4) sc__law_refused.nd rfl (Or.inl rfl) Cr)
      (Ad (OQ (j:=5) rfl rfl T.g_LoomError sc__law_refused.nd rfl rfl (λ _ _ _ hp=>(Af (Av (Aw c__law_tried hr hp (Aa (pv 0) (Aa (pv 1) (Aa (pv 2) (Aa (pv 3) Ab)))))))) (λ _ _=>(Af (Ap (i:=4) sc__law_refused.nd rfl (Or.inl rfl) (pv 5)))))
      (Ad (Bb (AE OY (pv 4) Cr (AB _)) (Af (An Cr)) A9)
      (Ad (Ap (i:=6) sc__law_refused.nd rfl (Or.inl rfl) (Ag c__law_kinds (hr.mono (by decide)) (Aa (pv 4) Ab)))
      (Af (An (A1 (AE Bv (Am (CV (K:=K)) rfl (T.own _ (by decide)) boot_len (Aa (pv 6) Ab)) Ac (AB _)) (A7 (Fg (K:=K)) (pv 6) Ac (λ _ _=>rfl)) Cr))))))),?_⟩
    walk_at "w";refine OR ?_;generalize eE:Pk _ _ _ _ _ _=E';have fin:∀ H1 C j,Same H H1->KindF K c C j->PySem.W.exmOne K (.ref C) (.ref c.LoomError)=some true->(∀ H',Same H H'->Q (.str (nmK j)) H')->E' (.ref C) none H1:=λ H1 C j s1 kf xm k=>by
      rw [<-eE];refine ⟨_,rfl,xm,λ q σ hq hl=> ?_⟩;obtain ⟨x0,x1,x2,x3,x4,x5,x6,rfl⟩:∃ x0 x1 x2 x3 x4 x5 x6,σ=[x0,x1,x2,x3,x4,x5,x6]:=by
        match σ,hl with
        | [x0,x1,x2,x3,x4,x5,x6],_=>exact ⟨x0,x1,x2,x3,x4,x5,x6,rfl⟩
      have s2:=Ai (o:=Ie q C none) hq;walk_at "w";refine PU ?_;walk_at "w";refine ⟨rfl,?_⟩;walk_at "w";rw [show decide (V.ref q=V.non)=false from decide_eq_false (by intro y;cases y)];walk_at "w";refine ⟨q,C,none,j,rfl,Ae,kf,λ H2 l s3 hl2 g2=> ?_⟩;walk_at "w";refine BU (SqL.of g2) ?_;walk_at "w";refine CJ (λ _=> ?_) (λ z=>absurd rfl z);walk_at "w";refine Ax (SqL.of g2) (AW (j:=0) rfl) ?_;exact k _ (s1.trans (s2.trans s3))
    clear eE;walk_at "w";refine ⟨x,B,lp,d,st,kd,n,sz,rfl,hA,ok,hkd,hz,λ z H' s'=> ?_,λ z H' s'=> ?_⟩
    · rw [if_pos z] at k;exact fin H' _ 7 s' (Ly T) T.xm_OutOfPlace_LoomError k
    · rw [if_neg (by rw [z.1];intro y;rcases y with y | y;(cases y);omega)] at k;exact fin H' _ 5 s' (Lw T) T.xm_BadDraft_LoomError k
def O2 (w:Nat):Nat:=if w=0\/w=5 then 7 else 5
def Bq (c:Cs):Sp:=λ vs H Q _=>∃ (x:Addr) (B:Hp) (lp:Addr) (d:Dr) (st:List (Dr × Bk)) (w:Nat),vs=[.ref x,nV w]/\HandAt c B H x lp d st/\DrOk d/\w<6/\(w=0->st=[])/\(w=1->d.th.length=1)/\(w=2->d.td.length=1)/\(3<=w->d.th.length=60/\d.td.length=60)/\
  ∀ H' l,Same H H'->H l=none->H' l=some (.lst [.str (nmK (O2 w))])->Q (.ref l) H'
abbrev BW:Stmt:=top 73
theorem sc__law_end_refused:FnScope ["_law_hand","_law_which","_law_wrong","e"] ["_law_hand","_law_which"] (Ah BW):=⟨rfl,rfl,rfl,by decide +kernel,rfl,by decide +kernel,by decide +kernel⟩
theorem Fy {f:Addr} {fd:FuncData} (F:Fun K "_law_end_refused" "_law_end_refused" BW f fd) (T:Txt K mg c) (d_Hand_undo:A4 P w K mg base c.Hand "undo" 2 ["self"] (Dy c)) (d_Hand_take_end:A4 P w K mg base c.Hand "take_end" 9 ["self","end"] (Cb c)) (d_Hand_take_pick:A4 P w K mg base c.Hand "take_pick" 9 ["self","pick"] (BX c)) (d_Hand_put_end:A4 P w K mg base c.Hand "put_end" 9 ["self","end","shaft","colour"] (Cw c)) (d_Hand_put_pick:A4 P w K mg base c.Hand "put_pick" 9 ["self","pick","treadles","colour"] (B6 c)) (c__law_kinds:Az P w K mg base "_law_kinds" 1 ["_law_error"] (DO K c)):FnOk P w K mg base CX0 10 f fd ["_law_hand","_law_which"] (Bq c):=by
  refine F.ok sc__law_end_refused (λ vs H Q E h=> ?_) (λ cdv A outer s H vs Q E hr h=> ?_)
  · obtain ⟨x,B,lp,d,st,w,rfl,_⟩:=h;rfl
  · obtain ⟨x,B,lp,d,st,w,rfl,hA,ok,hw,w0,w1,w2,w3,k⟩:=h;obtain ⟨dx,y,refs,hx,hl,D0,S0⟩:=hA.ex;have hu:=hr.units0;refine ⟨_,(Ad (Ap (i:=2) sc__law_end_refused.nd rfl (Or.inl rfl) Cr)
      (Ad (OQ (j:=3) rfl rfl T.g_LoomError sc__law_end_refused.nd rfl rfl (λ _ _ _ hp=>(Af (Bb (AE Bv (pv 1) Ac (AB _)) (Af (Av (Ec (pv 0) d_Hand_undo (hr.mono (by decide)) hp))) (Af (Bb (AE Bv (pv 1) Ac (AB _)) (Af (Av (AY (pv 0) d_Hand_take_end hr hp (Aa Ac Ab)))) (Af (Bb (AE Bv (pv 1) Ac (AB _)) (Af (Av (AY (pv 0) d_Hand_take_pick hr hp (Aa Ac Ab)))) (Af (Bb (AE Bv (pv 1) Ac (AB _)) (Af (Av (AY (pv 0) d_Hand_put_end hr hp (Aa Ac (Aa Ac (Aa Al Ab)))))) (Af (Bb (AE Bv (pv 1) Ac (AB _)) (Af (Av (AY (pv 0) d_Hand_put_pick hr hp (Aa Ac (Aa (Ar Ab) (Aa Al Ab)))))) (Af (Av (AY (pv 0) d_Hand_put_end hr hp (Aa Ac (Aa Ac (Aa Al Ab))))))))))))))))) (λ _ _=>(Af (Ap (i:=2) sc__law_end_refused.nd rfl (Or.inl rfl) (pv 3)))))
      (Af (An (A1 (AE OY (pv 2) Cr (AB _)) Cr (Ag c__law_kinds (hr.mono (by decide)) (Aa (pv 2) Ab))))))),?_⟩
    walk_at "w";refine OR ?_;generalize eE:Pk _ _ _ _ _ _=E';have fin:∀ H1 C j,Same H H1->KindF K c C j->PySem.W.exmOne K (.ref C) (.ref c.LoomError)=some true->j=O2 w->E' (.ref C) none H1:=λ H1 C j s1 kf xm ej=>by
      rw [<-eE];subst ej;refine ⟨_,rfl,xm,λ q σ hq hl=> ?_⟩;obtain ⟨x0,x1,x2,x3,rfl⟩:∃ x0 x1 x2 x3,σ=[x0,x1,x2,x3]:=by
        match σ,hl with
        | [x0,x1,x2,x3],_=>exact ⟨x0,x1,x2,x3,rfl⟩
      have s2:=Ai (o:=Ie q C none) hq;walk_at "w";refine PU ?_;walk_at "w";refine ⟨rfl,?_⟩;walk_at "w";rw [show decide (V.ref q=V.non)=false from decide_eq_false (by intro y;cases y)];walk_at "w";refine ⟨q,C,none,_,rfl,Ae,kf,λ H2 l s3 hl2 g2=> ?_⟩;exact k H2 l (s1.trans (s2.trans s3)) (s1.free (s2.free hl2)) g2
    clear eE;have fp:O2 w=7->∀ H1,Same H H1->E' (.ref c.OutOfPlace) none H1:=λ e H1 s1=>fin H1 _ 7 s1 (Ly T) T.xm_OutOfPlace_LoomError e.symm;have fd:O2 w=5->∀ H1,Same H H1->E' (.ref c.BadDraft) none H1:=λ e H1 s1=>fin H1 _ 5 s1 (Lw T) T.xm_BadDraft_LoomError e.symm;have ta:∀ H1,Th H1 (.str "a"):=λ H1=> .str _ (by decide +kernel);walk_at "w";refine CJ (λ z=> ?_) (λ z=> ?_)
    · have e:w=0:=by omega
      refine AR ?_;walk_at "w";refine ⟨_,_,_,rfl,hx,rfl,?_⟩;walk_at "w";exact ⟨x,B,lp,d,st,rfl,hA, .inr ⟨w0 e,fp (by rw [e];rfl) H (Same.refl _)⟩⟩
    walk_at "w";refine CJ (λ z=> ?_) (λ z=> ?_)
    · have e:w=1:=by omega
      refine AR ?_;walk_at "w";refine ⟨_,_,_,rfl,hx,rfl,?_⟩;walk_at "w";have e1:=w1 e;exact ⟨x,B,lp,d,st, .int 1,rfl,hA,ok, .int _, .inr ⟨by rw [e1];rfl,by rw [e1];rfl,fd (by rw [e];rfl)⟩⟩
    walk_at "w";refine CJ (λ z=> ?_) (λ z=> ?_)
    · have e:w=2:=by omega
      refine AR ?_;walk_at "w";refine ⟨_,_,_,rfl,hx,rfl,?_⟩;walk_at "w";have e1:=w2 e;exact ⟨x,B,lp,d,st, .int 1,rfl,hA,ok, .int _, .inr ⟨by rw [e1];rfl,by rw [e1];rfl,fd (by rw [e];rfl)⟩⟩
    obtain ⟨e3,e4⟩:=w3 (by omega);walk_at "w";refine CJ (λ z=> ?_) (λ z=> ?_)
    · have e:w=3:=by omega
      refine AR ?_;walk_at "w";refine ⟨_,_,_,rfl,hx,rfl,?_⟩;walk_at "w";exact ⟨x,B,lp,d,st, .int 1, .int 0, .str "a",rfl,hA,ok, .int _, .int _,ta H, .inr ⟨by rw [e3];rfl,by rw [e3];simp,fd (by rw [e];rfl)⟩⟩
    walk_at "w";refine CJ (λ z=> ?_) (λ z=> ?_)
    · have e:w=4:=by omega
      refine AR ?_;walk_at "w";refine ⟨_,_,_,rfl,hx,rfl,?_⟩;walk_at "w";row_lines H xq;walk_at "w";exact ⟨x,B,lp,d,st, .int 61,_, .str "a",rfl,hA.same sq,ok, .int _,Br gq (by decide:0<=100000) (λ _ z=>by cases z),ta _, .inr ⟨by rw [e4];rfl,by rw [e4];simp,λ H' s'=>fd (by rw [e];rfl) H' (sq.trans s')⟩⟩
    · have e:w=5:=by omega
      refine AR ?_;walk_at "w";refine ⟨_,_,_,rfl,hx,rfl,?_⟩;walk_at "w";exact ⟨x,B,lp,d,st, .int 62, .int 0, .str "a",rfl,hA,ok, .int _, .int _,ta H, .inl ⟨by rw [e3];rfl,fp (by rw [e];rfl)⟩⟩
def Fz (d:Dr) (k:Nat):Dr:={ d with th:=Ab1 k (d.th.getD 0 0),td:=Ab1 k (d.td.getD 0 []),wa:=Ab1 k (d.wa.getD 0 ""),we:=Ab1 k (d.we.getD 0 "") }
theorem PQ {α:Type} {l:List α} {z:α} (h:1<=l.length):l.getD 0 z∈l:=by
  cases l with
  | nil=>cases h
  | cons a l=>exact Ad7
theorem RP {α:Type} {l:List α} (z:α) (h:1<=l.length):l.take 1=Ab1 1 (l.getD 0 z):=by
  cases l with
  | nil=>cases h
  | cons a l=>rfl
theorem Rf {α:Type} {l:List α} (z:α) (k:Nat) (h:1<=l.length):(Ab1 k (l.take 1)).flatten=Ab1 k (l.getD 0 z):=by
  rw [RP z h,List.flatten_replicate_replicate,Nat.mul_one]
theorem MR {d:Dr} {k:Nat} (ok:DrOk d) (h1:1<=k) (h2:k<=60):DrOk (Fz d k):=by
  have wl:=ok.wl;have fl:=ok.fl;have a1:=ok.h1;have a2:=ok.p1;refine ⟨ok.s1,ok.s2,ok.t1,ok.t2,?_,?_,λ n hn=> ?_,ok.il,ok.ir,?_,?_,λ n hn=> ?_,?_,λ n hn=> ?_,?_,λ n hn=> ?_⟩
  · show 1<=(Ab1 k _).length;rw [Ac9];exact h1
  · show (Ab1 k _).length<=60;rw [Ac9];exact h2
  · rw [Ae6 hn];exact ok.hs _ (PQ a1)
  · show 1<=(Ab1 k _).length;rw [Ac9];exact h1
  · show (Ab1 k _).length<=60;rw [Ac9];exact h2
  · rw [Ae6 hn];exact ok.pr _ (PQ a2)
  · show (Ab1 k _).length=(Ab1 k _).length;rw [Ac9,Ac9]
  · rw [Ae6 hn];exact ok.wc _ (PQ (by omega))
  · show (Ab1 k _).length=(Ab1 k _).length;rw [Ac9,Ac9]
  · rw [Ae6 hn];exact ok.fc _ (PQ (by omega))
theorem Ts {H:Hp} {F:Addr->Prop} {n k:Nat} {a:Addr} {v:V} {l:List Nat} (h:H a=some (.lst (Ab1 k v))) (f:F a) (b:k<=60) (r:Rp H F n v (dL l)):Rp H F (n+1) (.ref a) (dLL (Ab1 k l)):=by
  refine .lst h f (by rw [Ac9];omega) (by simp) λ i x u e1 e2=> ?_;rw [Ae6 (Af8 e1)];have:=Af8 e2;rw [List.map_replicate] at this;rw [Ae6 this];exact r
theorem MS {H:Hp} {d:Dr} {k:Nat} {p a2 b a5 a6:Addr} {v3 v:V} (ok:DrOk d) (hk:k<=60) (g:H p=some (.tup [nV d.sh,nV d.tr, .ref a2,v3, .ref b, .ref a5, .ref a6])) (g2:H a2=some (.lst (Ab1 k ((d.th.map nV).getD 0 .non)))) (q3:Rp H FT 2 v3 (dLL d.ti)) (g3:H b=some (.lst (Ab1 k v))) (rv:Rp H FT 1 v (dL (d.td.getD 0 [])))
    (g4:H a5=some (.lst (Ab1 k ((d.wa.map V.str).getD 0 .non)))) (g5:H a6=some (.lst (Ab1 k ((d.we.map V.str).getD 0 .non)))):Rp H FT 3 (.ref p) (dDr (Fz d k)):=by
  have h1:=ok.h1;have h2:=ok.p1;have wl:=ok.wl;have fl:=ok.fl;rw [AX nV d.th 0 .non 0 h1, <-List.map_replicate] at g2;rw [AX V.str d.wa 0 .non "" (by omega), <-List.map_replicate] at g4;rw [AX V.str d.we 0 .non "" (by omega), <-List.map_replicate] at g5;exact KB g (.int _) (.int _) (Gu g2 trivial (by simp [Fz];omega)) q3 (Ts g3 trivial hk rv) (OG g4 trivial (by simp [Fz];omega)) (OG g5 trivial (by simp [Fz];omega))
theorem MD {H:Hp} {F:Addr->Prop} {n:Nat} {v:V} {d:Dr} (r:Rp H F n v (dDr d)):∃ m a a2 v3 a4 vs4 a5 a6,n=m+2/\v= .ref a/\H a=some (.tup [nV d.sh,nV d.tr, .ref a2,v3, .ref a4, .ref a5, .ref a6])/\H a2=some (.lst (d.th.map nV))/\Rp H F (m+1) v3 (dLL d.ti)/\Rp H F (m+1) (.ref a4) (dLL d.td)/\H a4=some (.lst vs4)/\vs4.length=d.td.length/\(∀ i,i<d.td.length->Rp H F m (vs4.getD i .non) (dL (d.td.getD i [])))/\H a5=some (.lst (d.wa.map V.str))/\H a6=some (.lst (d.we.map V.str)):=by
  obtain ⟨m,a,v0,v1,v2,v3,v4,v5,v6,em,rfl,ha,q0,q1,q2,q3,q4,q5,q6⟩:=MZ r;cases q0;cases q1;obtain ⟨b2,rfl,e2,_,_⟩:=IC q2;obtain ⟨b5,rfl,e5,_,_⟩:=LE q5;obtain ⟨b6,rfl,e6,_,_⟩:=LE q6;obtain ⟨m4,a4,vs4,em4,rfl,h4,f4,l4,b4,el4⟩:=GO q4;subst em4;rw [Aa2] at l4 el4;exact ⟨m4,a,b2,v3,a4,vs4,b5,b6,em,rfl,ha,e2,q3,q4,h4,l4,λ i hi=>by
    have r:=el4 i hi;rw [AX dL d.td i .non [] hi] at r;exact r,e5,e6⟩
theorem KG {K:PySem.W.Frag} {c:Cs} {H:Hp} {F:Addr->Prop} {v:V} {d:Dr} {Q:VK} {E:XK} (r:Rp H F 3 v (dDr d)) (ok:DrOk d) (k:∀ H' x,Same H H'->H x=none->DrAt c.Draft H' x d->Q (.ref x) H'):Cz K c [v] H Q E:=by
  obtain ⟨m,a,a2,v3,a4,vs4,a5,a6,em,rfl,ha,e2,q3,q4,_,_,_,e5,e6⟩:=MD r;cases em;exact ⟨a,_,_,_,_,_,_,_,d,rfl,SqT.of ha,⟨a2,v3, .ref a4,a5,a6,rfl,e2,q3.any,q4.any,e5,e6⟩,ok,k⟩
theorem MG {c:Cs} {H:Hp} {R:Addr->Hp->Prop} {E:XK} {y:Addr} {d:Dr} (D0:DrAt c.Draft H y d) (ok:DrOk d) (h:∀ H' x lp B,Same H H'->H x=none->H lp=none->(∀ b o,H b=some o->(∀ us,o≠ .tup us)->B b=none)->HandAt c B H' x lp d []->R x H'):
    ∀ x dx,H x=none->H dx=none->dx≠x->BN c [.ref x, .ref y] (upd (upd H dx (.own x)) x (.ins c.Hand dx [])) (λ v H2=>v= .non/\R x H2) E:=by
  intro x dx hx hdx ne;have s0:=Gg (o:=HO.ins c.Hand dx []) (u:= .own x) hx hdx;exact ⟨x,dx,y,d,rfl,Ae,D0.same s0,ok,λ H' B lp kp hl hB hA=>⟨rfl,h H' x lp B (λ b o e=>kp b o (s0 b o e) (Ay e hx)) hx (s0.free hl) (λ b o e n=>hB b o (s0 _ _ e) n) hA⟩⟩
theorem J8 {c:Cs} {B H:Hp} {x lp:Addr} {d:Dr} {k w:Nat} {Q:VK} {E:XK} (hA:HandAt c B H x lp (Fz d k) []) (ok:DrOk (Fz d k)) (hw:(k=1/\w<3)\/(k=60/\3<=w/\w<6)) (h:∀ H' l,Same H H'->H' l=some (.lst [.str (nmK (O2 w))])->Q (.ref l) H'):Bq c [.ref x,nV w] H Q E:=by
  have e1:(Fz d k).th.length=k:=by simp [Fz]
  have e2:(Fz d k).td.length=k:=by simp [Fz]
  exact ⟨x,B,lp,Fz d k,[],w,rfl,hA,ok,by omega,λ _=>rfl,λ z=>by omega,λ z=>by omega,λ z=>by omega,λ H' l s _ g=>h H' l s g⟩
theorem OX {H:Hp} {a a0 a1 a2 a3 a4 a5:Addr} {z0 z1 z2 z3 z4 z5:Str} (g:H a=some (.lst [.ref a0, .ref a1, .ref a2, .ref a3, .ref a4, .ref a5])) (g0:H a0=some (.lst [.str z0])) (g1:H a1=some (.lst [.str z1])) (g2:H a2=some (.lst [.str z2])) (g3:H a3=some (.lst [.str z3])) (g4:H a4=some (.lst [.str z4])) (g5:H a5=some (.lst [.str z5])):Rp H FT 2 (.ref a) (.lst ([z0,z1,z2,z3,z4,z5].map λ z=>dS [z])):=by
  have r:∀ {b:Addr} {z:Str},H b=some (.lst [.str z])->Rp H FT 1 (.ref b) (dS [z]):=λ {b z} e=>OG (zs:=[z]) e trivial (by simp);refine .lst g trivial (by simp) rfl λ i v u h1 h2=> ?_
  match i with
  | 0=>cases h1;cases h2;exact r g0
  | 1=>cases h1;cases h2;exact r g1
  | 2=>cases h1;cases h2;exact r g2
  | 3=>cases h1;cases h2;exact r g3
  | 4=>cases h1;cases h2;exact r g4
  | 5=>cases h1;cases h2;exact r g5
  | i+6=>cases h1
def FO:Sp:=λ vs H Q _=>∃ v d F,vs=[v]/\Rp H F 3 v (dDr d)/\DrOk d/\∀ H',Same H H'->Q (.bl true) H'
abbrev Ek:Stmt:=top 74
theorem sc__law_edges:FnScope ["_law_parts","_law_one","_law_small","_law_colours","_law_many","_law_great","_law_found"] ["_law_parts"] (Ah Ek):=⟨rfl,rfl,rfl,by decide +kernel,rfl,by decide +kernel,by decide +kernel⟩
theorem Jq {f:Addr} {fd:FuncData} (F:Fun K "_law_edges" "_law_edges" Ek f fd) (T:Txt K mg c) (c__law_copied:Az P w K mg base "_law_copied" (4+1) ["_law_thing"] (BL 4)) (c__law_made:BF P w K mg base "_law_made" 8 ["_law_parts"] (Cz K c)) (m_Hand:Ga P w K mg base "Hand" c.Hand 9 ["self","draft"] (BN c)) (c__law_end_refused:Az P w K mg base "_law_end_refused" 10 ["_law_hand","_law_which"] (Bq c)) (d_Hand_draft:A4 P w K mg base c.Hand "draft" 9 ["self"] (DM c)) (d_Draft_told:Bm P w K mg base c.Draft "told" 1 ["self"] (Cy c)) (d_Hand_cloth:Bm P w K mg base c.Hand "cloth" 7 ["self"] (DE c)) (d_Cloth_ends:Bm P w K mg base c.Cloth "ends" 1 ["self"] (FF c)):FnOk P w K mg base (CXE P w) 11 f fd ["_law_parts"] FO:=by
  refine Fun.okE F sc__law_edges (λ vs H Q E h=> ?_) (λ cdv A outer s H vs Q E hr h=> ?_)
  · obtain ⟨v,d,F,rfl,_⟩:=h;rfl
  · obtain ⟨v,d,F',rfl,rv,ok,k⟩:=h;have hu:=hr.units0;obtain ⟨m,a,a2,v3,a4,vs4,a5,a6,em,rfl,ha,e2,q3,q4,e4,l4,el4,e5,e6⟩:=MD rv;cases em;refine ⟨_,(Ad (Ap (i:=1) sc__law_edges.nd rfl (Or.inl rfl) (Aj (Mh (K:=K)) (A0 (OW (K:=K)) (pv 0) Be (Bh Ac)) (A2 (Aa (A0 (FR (K:=K)) (A7 (B5 (K:=K)) (pv 0) Ac (λ _ _=>rfl)) Be (Bh Ac)) (Aa (A7 (B5 (K:=K)) (pv 0) Ac (λ _ _=>rfl)) (Aa (A0 (FR (K:=K)) (A7 (B5 (K:=K)) (pv 0) Ac (λ _ _=>rfl)) Be (Bh Ac)) (Aa (A0 (FR (K:=K)) (A7 (B5 (K:=K)) (pv 0) Ac (λ _ _=>rfl)) Be (Bh Ac)) (Aa (A0 (FR (K:=K)) (A7 (B5 (K:=K)) (pv 0) Ac (λ _ _=>rfl)) Be (Bh Ac)) Ab))))))))
      (Ad (Ap (i:=2) sc__law_edges.nd rfl (Or.inl rfl) (Eb m_Hand hr AF (Aa (Aw c__law_made (hr.mono (by decide)) AF (Aa (Ag c__law_copied (hr.mono (by decide)) (Aa (pv 1) Ab)) Ab)) Ab)))
      (Ad (Ap (i:=3) sc__law_edges.nd rfl (Or.inl rfl) (A2 (Aa (Aj II (A0 (FR (K:=K)) (A7 (B5 (K:=K)) (pv 0) Ac (λ _ _=>rfl)) Be (Bh Ac)) Ac) (Aa (Aj II (A0 (FR (K:=K)) (A7 (B5 (K:=K)) (pv 0) Ac (λ _ _=>rfl)) Be (Bh Ac)) Ac) Ab))))
      (Ad (Ap (i:=4) sc__law_edges.nd rfl (Or.inl rfl) (Aj (Mh (K:=K)) (Aj (Mh (K:=K)) (A0 (OW (K:=K)) (pv 0) Be (Bh Ac)) (A2 (Aa (Aj II (A0 (FR (K:=K)) (A7 (B5 (K:=K)) (pv 0) Ac (λ _ _=>rfl)) Be (Bh Ac)) Ac) (Aa (A7 (B5 (K:=K)) (pv 0) Ac (λ _ _=>rfl)) (Aa (Aj II (A0 (FR (K:=K)) (A7 (B5 (K:=K)) (pv 0) Ac (λ _ _=>rfl)) Be (Bh Ac)) Ac) Ab))))) (pv 3)))
      (Ad (Ap (i:=5) sc__law_edges.nd rfl (Or.inl rfl) (Eb m_Hand hr AF (Aa (Aw c__law_made (hr.mono (by decide)) AF (Aa (Ag c__law_copied (hr.mono (by decide)) (Aa (pv 4) Ab)) Ab)) Ab)))
      (Ad (Ap (i:=6) sc__law_edges.nd rfl (Or.inl rfl) (Ar (Aa (Ag c__law_end_refused hr (Aa (pv 2) (Aa Ac Ab))) (Aa (Ag c__law_end_refused hr (Aa (pv 2) (Aa Ac Ab))) (Aa (Ag c__law_end_refused hr (Aa (pv 2) (Aa Ac Ab))) Ab)))))
      (Ad (Ap (i:=6) sc__law_edges.nd rfl (Or.inl rfl) (Aj (Fi (K:=K)) (pv 6) (Ar (Aa (Ag c__law_end_refused hr (Aa (pv 5) (Aa Ac Ab))) (Aa (Ag c__law_end_refused hr (Aa (pv 5) (Aa Ac Ab))) (Aa (Ag c__law_end_refused hr (Aa (pv 5) (Aa Ac Ab))) Ab))))))
      (Ad (Bb (AE (Mg hr.units) (pv 6) (Ar (Aa (Ar (Aa Al Ab)) (Aa (Ar (Aa Al Ab)) (Aa (Ar (Aa Al Ab)) (Aa (Ar (Aa Al Ab)) (Aa (Ar (Aa Al Ab)) (Aa (Ar (Aa Al Ab)) Ab))))))) (AB _)) (Af (An EN)) A9)
      (Af (An (Dm (BO (P8 hr.units) (AQ (Ec (pv 2) d_Hand_draft (hr.mono (by decide)) AF) d_Draft_told (hr.mono (by decide))) (pv 1) (AB _)) (Dm (BO (P8 hr.units) (AQ (Ec (pv 5) d_Hand_draft (hr.mono (by decide)) AF) d_Draft_told (hr.mono (by decide))) (pv 4) (AB _)) (DI (BO Bv (AQ (AQ (pv 5) d_Hand_cloth (hr.mono (by decide))) d_Cloth_ends (hr.mono (by decide))) Ac (AB _))))))))))))))),?_⟩
    walk_at "w";refine OH (SqT.of ha) λ H1 p1 s1 g1=> ?_;rw [DP (by decide)] at g1;walk_at "w";refine Bw (SqT.of (s1 _ _ ha)) (AW (j:=2) rfl) ?_;walk_at "w";refine DC (SqL.of (s1 _ _ e2)) λ p2 n2=> ?_;wrow_has H1 x2;have s02:=s1.trans s2;walk_at "w";refine Bw (SqT.of (s02 _ _ ha)) (AW (j:=3) rfl) ?_;walk_at "w";refine Bw (SqT.of (s02 _ _ ha)) (AW (j:=4) rfl) ?_;walk_at "w";refine DC (SqL.of (s02 _ _ e4)) λ p3 n3=> ?_;wrow_has H2 x3;have s03:=s02.trans s3;walk_at "w";refine Bw (SqT.of (s03 _ _ ha)) (AW (j:=5) rfl) ?_;walk_at "w";refine DC (SqL.of (s03 _ _ e5)) λ p4 n4=> ?_;wrow_has H3 x4;have s04:=s03.trans s4;walk_at "w";refine Bw (SqT.of (s04 _ _ ha)) (AW (j:=6) rfl) ?_;walk_at "w";refine DC (SqL.of (s04 _ _ e6)) λ p5 n5=> ?_;wrow_has H4 x5;have s05:=s04.trans s5;walk_at "w";row_lines H5 x6;have s06:=s05.trans s6;walk_at "w";have s16:=s2.trans (s3.trans (s4.trans (s5.trans s6)));refine K7 (SqS.same (tp:=true) g1 s16) (SqT.of g6) (by intro z;cases z) (by intro z;cases z) (by show 7<=100000;decide) λ p7 n7=> ?_;wrow_has H6 x7;have s07:=s06.trans s7;have ok1:=MR (k:=1) ok (by decide) (by decide);have h1:=ok.h1;have h2:=ok.p1;have wl:=ok.wl;have fl:=ok.fl;have y1:1<=(d.th.map nV).length:=by rw [Aa2];exact h1
    have y2:1<=vs4.length:=by omega
    have y3:1<=(d.wa.map V.str).length:=by rw [Aa2];omega
    have y4:1<=(d.we.map V.str).length:=by rw [Aa2];omega
    rw [DP (by decide),show Int.toNat 1=1 from rfl,RP .non (by assumption)] at g2 g3 g4 g5;have r7:Rp H7 FT 3 (.ref p7) (dDr (Fz d 1)):=MS ok (by decide) g7 ((s3.trans (s4.trans (s5.trans (s6.trans s7)))) _ _ g2) ((q3.any).same s07) ((s4.trans (s5.trans (s6.trans s7))) _ _ g3) (((el4 0 (by omega)).any).same s07) ((s5.trans (s6.trans s7)) _ _ g4) ((s6.trans s7) _ _ g5);walk_at "w";refine Gz ?_;walk_at "w";refine ⟨_,_,rfl,r7,λ H8 v8 s8 r8=> ?_⟩;walk_at "w";refine KG r8 ok1 λ H9 y9 s9 n9 D9=> ?_;walk_at "w";refine MG (R:=λ x H'=>AO 2 (.ref x) _ H' _) D9 ok1 λ HA xA lA BA sA nxA nlA oA hA=> ?_;have s0A:=s07.trans (s8.trans (s9.trans sA));walk_at "w";refine Bw (SqT.of (s0A _ _ ha)) (AW (j:=5) rfl) ?_;walk_at "w";refine DC (SqL.of (s0A _ _ e5)) λ p5c n5c=> ?_;wrow_has HA x5c;rw [DP (by decide)] at g5c;walk_at "w";refine IL (k:=60) g5c (by decide) (by decide) (by rw [Ad1];exact Ab8 (Nat.min_le_left _ _) (by decide)) λ p5r n5r=> ?_;wrow_has H5c x5r;rw [show Int.toNat 60=60 from rfl,show Int.toNat 1=1 from rfl,Rf .non 60 (by assumption)] at g5r;have s05r:=s0A.trans (s5c.trans s5r);walk_at "w";refine Bw (SqT.of (s05r _ _ ha)) (AW (j:=6) rfl) ?_;walk_at "w";refine DC (SqL.of (s05r _ _ e6)) λ p6c n6c=> ?_;wrow_has H5r x6c;rw [DP (by decide)] at g6c;walk_at "w";refine IL (k:=60) g6c (by decide) (by decide) (by rw [Ad1];exact Ab8 (Nat.min_le_left _ _) (by decide)) λ p6r n6r=> ?_;wrow_has H6c x6r;rw [show Int.toNat 60=60 from rfl,show Int.toNat 1=1 from rfl,Rf .non 60 (by assumption)] at g6r;have s06r:=s05r.trans (s6c.trans s6r);walk_at "w";row_lines H6r xco;have s0co:=s06r.trans sco;walk_at "w";refine OH (SqT.of (s0co _ _ ha)) λ Hb pb sb gb=> ?_;rw [DP (by decide)] at gb;have s0b:=s0co.trans sb;walk_at "w";refine Bw (SqT.of (s0b _ _ ha)) (AW (j:=2) rfl) ?_;walk_at "w";refine DC (SqL.of (s0b _ _ e2)) λ p2c n2c=> ?_;wrow_has Hb x2c;rw [DP (by decide)] at g2c;walk_at "w";refine IL (k:=60) g2c (by decide) (by decide) (by rw [Ad1];exact Ab8 (Nat.min_le_left _ _) (by decide)) λ p2r n2r=> ?_;wrow_has H2c x2r;rw [show Int.toNat 60=60 from rfl,show Int.toNat 1=1 from rfl,Rf .non 60 (by assumption)] at g2r;have s02r:=s0b.trans (s2c.trans s2r);walk_at "w";refine Bw (SqT.of (s02r _ _ ha)) (AW (j:=3) rfl) ?_;walk_at "w";refine Bw (SqT.of (s02r _ _ ha)) (AW (j:=4) rfl) ?_;walk_at "w";refine DC (SqL.of (s02r _ _ e4)) λ p4c n4c=> ?_;wrow_has H2r x4c;rw [DP (by decide)] at g4c;walk_at "w";refine IL (k:=60) g4c (by decide) (by decide) (by rw [Ad1];exact Ab8 (Nat.min_le_left _ _) (by decide)) λ p4r n4r=> ?_;wrow_has H4c x4r;rw [show Int.toNat 60=60 from rfl,show Int.toNat 1=1 from rfl,Rf .non 60 (by assumption)] at g4r;have s04r:=s02r.trans (s4c.trans s4r);walk_at "w";row_lines H4r xd;have s0d:=s04r.trans sd;walk_at "w";have sbd:=s2c.trans (s2r.trans (s4c.trans (s4r.trans sd)));refine K7 (SqS.same (tp:=true) gb sbd) (SqT.of gd) (by intro z;cases z) (by intro z;cases z) (by show 5<=100000;decide) λ pe ne=> ?_;wrow_has Hd xe;have s0e:=s0d.trans se;walk_at "w";have sce:=sb.trans (sbd.trans se);refine K7 (SqT.of ge) (SqT.of (sce _ _ gco)) (by intro z;cases z) (by intro z;cases z) (by show 7<=100000;decide) λ pm nm=> ?_;wrow_has He xm;have s0m:=s0e.trans sm;have ok60:=MR (k:=60) ok (by decide) (by decide);have rm:Rp Hm FT 3 (.ref pm) (dDr (Fz d 60)):=MS ok (by decide) gm ((s4c.trans (s4r.trans (sd.trans (se.trans sm)))) _ _ g2r) ((q3.any).same s0m) ((sd.trans (se.trans sm)) _ _ g4r) (((el4 0 (by omega)).any).same s0m) ((s6c.trans (s6r.trans (sco.trans (sce.trans sm)))) _ _ g5r) ((sco.trans (sce.trans sm)) _ _ g6r);walk_at "w";refine Gz ?_;walk_at "w";refine ⟨_,_,rfl,rm,λ Hn vn sn rn=> ?_⟩;walk_at "w";refine KG rn ok60 λ Ho yo so no Do=> ?_;walk_at "w";refine MG (R:=λ x H'=>AO 5 (.ref x) _ H' _) Do ok60 λ HG xG lG BG sG nxG nlG oG hG=> ?_;walk_at "w";have sAG:Same HA HG:=s5c.trans (s5r.trans (s6c.trans (s6r.trans (sco.trans (sce.trans (sm.trans (sn.trans (so.trans sG))))))));have hA1:=hA.same sAG;refine J8 (w:=0) hA1 ok1 (.inl ⟨rfl,by decide⟩) λ Hf0 l0 sf0 gf0=> ?_;walk_at "w";refine J8 (w:=1) (hA1.same sf0) ok1 (.inl ⟨rfl,by decide⟩) λ Hf1 l1 sf1 gf1=> ?_;walk_at "w";refine J8 (w:=2) (hA1.same (sf0.trans sf1)) ok1 (.inl ⟨rfl,by decide⟩) λ Hf2 l2 sf2 gf2=> ?_;walk_at "w";row_lines Hf2 xfa;have sGa:=sf0.trans (sf1.trans (sf2.trans sfa));walk_at "w";refine J8 (w:=3) (hG.same sGa) ok60 (.inr ⟨rfl,by decide⟩) λ Hf3 l3 sf3 gf3=> ?_;walk_at "w";refine J8 (w:=4) (hG.same (sGa.trans sf3)) ok60 (.inr ⟨rfl,by decide⟩) λ Hf4 l4 sf4 gf4=> ?_;walk_at "w";refine J8 (w:=5) (hG.same (sGa.trans (sf3.trans sf4))) ok60 (.inr ⟨rfl,by decide⟩) λ Hf5 l5 sf5 gf5=> ?_;walk_at "w";row_lines Hf5 xfb;have sab:=sf3.trans (sf4.trans (sf5.trans sfb));walk_at "w";refine Dn (SqL.of (sab _ _ gfa)) (SqL.of gfb) (by show 6<=16777216;decide) λ pfc nfc=> ?_;wrow_has Hfb xfc;have sac:=sab.trans sfc;walk_at "w";row_lines Hfc xu0;walk_at "w";row_lines Hu0 xu1;walk_at "w";row_lines Hu1 xu2;walk_at "w";row_lines Hu2 xu3;walk_at "w";row_lines Hu3 xu4;walk_at "w";row_lines Hu4 xu5;walk_at "w";row_lines Hu5 xu6;have su:=su0.trans (su1.trans (su2.trans (su3.trans (su4.trans (su5.trans su6)))));have scu:=sfc.trans su;walk_at "w";refine ⟨2, .lst ([("place":Str),("draft":Str),("draft":Str),("draft":Str),("draft":Str),("place":Str)].map λ z=>dS [z]), .lst ([("place":Str),("draft":Str),("draft":Str),("draft":Str),("draft":Str),("place":Str)].map λ z=>dS [z]),by decide,?_,?_,rfl,?_⟩
    · exact OX (su _ _ gfc) ((sf1.trans (sf2.trans (sfa.trans (sab.trans scu)))) _ _ gf0) ((sf2.trans (sfa.trans (sab.trans scu))) _ _ gf1) ((sfa.trans (sab.trans scu)) _ _ gf2) ((sf4.trans (sf5.trans (sfb.trans scu))) _ _ gf3) ((sf5.trans (sfb.trans scu)) _ _ gf4) ((sfb.trans scu) _ _ gf5)
    · exact OX gu6 ((su1.trans (su2.trans (su3.trans (su4.trans (su5.trans su6))))) _ _ gu0) ((su2.trans (su3.trans (su4.trans (su5.trans su6)))) _ _ gu1) ((su3.trans (su4.trans (su5.trans su6))) _ _ gu2) ((su4.trans (su5.trans su6)) _ _ gu3) ((su5.trans su6) _ _ gu4) (su6 _ _ gu5)
    rw [CD];walk_at "w";rw [if_pos rfl];refine Ou ?_;walk_at "w";have sGu:=sGa.trans (sab.trans scu);have sAu:=sAG.trans sGu;have hAu:=hA.same sAu;have hGu:=hG.same sGu;obtain ⟨_,_,_,hax,_,_,_⟩:=hAu.ex;obtain ⟨_,_,_,hbx0,_,_,_⟩:=hGu.ex;refine AR ?_;walk_at "w";refine ⟨_,_,_,rfl,hax,rfl,?_⟩;walk_at "w";refine ⟨xA,BA,lA,_,[],rfl,hAu,ok1,λ Hva yva sva nva Dva=> ?_⟩;obtain ⟨dva,_,_,_,_,_,hva,_⟩:=id Dva;walk_at "w";refine ⟨_,_,_,rfl,hva,rfl,?_⟩;walk_at "w";refine ⟨_,_,rfl,Dva,λ Hwa pwa swa nwa rwa=> ?_⟩;walk_at "w";refine ⟨3,_,_,by decide,rwa.any,(r7.same (s8.trans (s9.trans (sA.trans sAu)))).same (sva.trans swa),rfl,?_⟩;rw [CD];walk_at "w";rw [if_pos (show (if false=true then !true else true)=true from rfl)];walk_at "w";have sa2:=sva.trans swa;have hGv:=hGu.same sa2;have hbx:=sa2 _ _ hbx0;refine AR ?_;walk_at "w";refine ⟨_,_,_,rfl,hbx,rfl,?_⟩;walk_at "w";refine ⟨xG,BG,lG,_,[],rfl,hGv,ok60,λ Hvb yvb svb nvb Dvb=> ?_⟩;obtain ⟨dvb,_,_,_,_,_,hvb,_⟩:=id Dvb;walk_at "w";refine ⟨_,_,_,rfl,hvb,rfl,?_⟩;walk_at "w";refine ⟨_,_,rfl,Dvb,λ Hwb pwb swb nwb rwb=> ?_⟩;walk_at "w";refine ⟨3,_,_,by decide,rwb.any,((rm.same (sn.trans (so.trans (sG.trans sGu)))).same sa2).same (svb.trans swb),rfl,?_⟩;rw [CD];walk_at "w";rw [if_pos (show (if false=true then !true else true)=true from rfl)];walk_at "w";have sb2:=svb.trans swb;have hGw:=hGv.same sb2;refine ⟨_,_,_,rfl,sb2 _ _ hbx,rfl,?_⟩;walk_at "w";refine ⟨xG,BG,lG,_,[],rfl,hGw,ok60,λ Hx yx sx nx Cx=> ?_⟩;obtain ⟨dx,v,hx,hv⟩:=id Cx;walk_at "w";refine ⟨_,_,_,rfl,hx,rfl,?_⟩;walk_at "w";refine ⟨_,_,_,rfl,Cx,?_⟩;walk_at "w";rw [show (Fz d 60).th.length=60 by simp [Fz]];exact k Hx (s0A.trans (sAu.trans (sa2.trans (sb2.trans sx))))
theorem Qn {d:Dr} (ok:DrOk d):Dd.go d (.co false 1 (d.wa.getD 0 ""))=d:=by
  have wl:=ok.wl;have h1:=ok.h1;show { d with wa:=d.wa.set 0 (d.wa.getD 0 "") }=d;have e:d.wa.set 0 (d.wa.getD 0 "")=d.wa:=by
    match e:d.wa with
    | []=>rw [e] at wl;simp at wl;omega
    | z::zs=>rfl
  rw [e]
theorem Qw {d:Dr}:(Hs d).length=d.td.length:=by
  simp [Hs,OC]
theorem R9 {H:Hp} {F:Addr->Prop} {n:Nat} {p l:Addr} {rs:List Nat} (hp:H p=some (.tup [nV n, .ref l])) (hl:H l=some (.lst (rs.map nV))) (f:F l) (b:rs.length<=100000):Rp H F 2 (.ref p) (.tup [dN n,dL rs]):=K4 hp (.int _) (Gu hl f b)
def zg (x y:Addr) (H:Hp):Hp:=λ b=>if b=x\/b=y then none else H b
theorem Rq {x y:Addr} {H:Hp}:Same (zg x y H) H:=λ b o e=>by
  unfold zg at e;split at e
  · cases e
  · exact e
theorem Nh {x y b:Addr} {H:Hp} {o:HO} (e:H b=some o) (n1:b≠x) (n2:b≠y):zg x y H b=some o:=by
  unfold zg;rw [if_neg (by rintro (z | z);exact n1 z;exact n2 z)];exact e
theorem Oy {x y:Addr} {Z H H':Hp} (s:Same Z H) (zx:Z x=none) (zy:Z y=none) (b:But2 x y H H'):Same Z H':=λ c o e=>b c o (s _ _ e) (Ay e zx) (Ay e zy)
abbrev Ol:Stmt:=top 75
theorem sc_law:FnScope ["_law_script","_law_parts","_law_hand","_law_sizes","_law_before","_law_cell","_law_kind","_law_number","_law_due","_law_turn"] ["_law_script"] (Ah Ol):=⟨rfl,rfl,rfl,by decide +kernel,rfl,by decide +kernel,by decide +kernel⟩
theorem SD {f:Addr} {fd:FuncData} (F:Fun K "law" "law" Ol f fd) (T:Txt K mg c) (c__law_draft:Az P w K mg base "_law_draft" 2 ["_law_script","_law_most"] (FP K)) (c__law_copied:Az P w K mg base "_law_copied" (4+1) ["_law_thing"] (BL 4)) (c__law_made:BF P w K mg base "_law_made" 8 ["_law_parts"] (Cz K c)) (m_Hand:Ga P w K mg base "Hand" c.Hand 9 ["self","draft"] (BN c)) (d_Hand_cloth:Bm P w K mg base c.Hand "cloth" 7 ["self"] (DE c)) (d_Cloth_told:Bm P w K mg base c.Cloth "told" 1 ["self"] (FK c)) (c__law_refused:Az P w K mg base "_law_refused" 12 ["_law_hand","_law_kind","_law_number","_law_sizes"] (ES K c)) (c__law_same:Az P w K mg base "_law_same" (4+1) ["_law_found","_law_due"] (CZ 4)) (d_Hand_draft:A4 P w K mg base c.Hand "draft" 9 ["self"] (DM c)) (d_Draft_told:Bm P w K mg base c.Draft "told" 1 ["self"] (Cy c)) (d_Hand_colour:A4 P w K mg base c.Hand "colour" 10 ["self","side","number","colour"] (CS c)) (d_Hand_undo:A4 P w K mg base c.Hand "undo" 2 ["self"] (Dy c)) (c__law_end_refused:Az P w K mg base "_law_end_refused" 10 ["_law_hand","_law_which"] (Bq c)) (c__law_edges:BF P w K mg base "_law_edges" 11 ["_law_parts"] FO):FnOk P w K mg base CX0 13 f fd ["_law_script"] (MW K):=by
  refine F.ok sc_law (λ vs H Q E h=> ?_) (λ cdv A outer s H vs Q E hr h=> ?_)
  · obtain ⟨a,ns,rfl,_⟩:=h;rfl
  · obtain ⟨a,ns,rfl,sa,hl,k⟩:=h;have hu:=hr.units0;refine ⟨_,(Ad (Ap (i:=1) sc_law.nd rfl (Or.inl rfl) (Ag c__law_draft (hr.mono (by decide)) (Aa (A0 (FR (K:=K)) (pv 0) Be (Bh Ac)) (Aa Ac Ab))))
      (Ad (Ap (i:=2) sc_law.nd rfl (Or.inl rfl) (Eb m_Hand (hr.mono (by decide)) IE (Aa (Aw c__law_made (hr.mono (by decide)) IE (Aa (Ag c__law_copied (hr.mono (by decide)) (Aa (pv 1) Ab)) Ab)) Ab)))
      (Ad (Ap (i:=3) sc_law.nd rfl (Or.inl rfl) (A2 (Aa (Am (CV (K:=K)) rfl (T.own _ (by decide)) boot_len (Aa (A7 (B5 (K:=K)) (pv 1) Ac (λ _ _=>rfl)) Ab)) (Aa (Am (CV (K:=K)) rfl (T.own _ (by decide)) boot_len (Aa (A7 (B5 (K:=K)) (pv 1) Ac (λ _ _=>rfl)) Ab)) (Aa (A7 (B5 (K:=K)) (pv 1) Ac (λ _ _=>rfl)) (Aa (A7 (B5 (K:=K)) (pv 1) Ac (λ _ _=>rfl)) Ab))))))
      (Ad (Ap (i:=4) sc_law.nd rfl (Or.inl rfl) (AQ (AQ (pv 2) d_Hand_cloth (hr.mono (by decide))) d_Cloth_told (hr.mono (by decide))))
      (Ad (Hc PassesOwn.never rfl (CG (K:=K) (pv 0)) (Bf (i:=5) sc_law.nd rfl (Or.inl rfl)) (Ad (Ap (i:=6) sc_law.nd rfl (Or.inl rfl) (Aj AH (pv 5) Ac))
      (Ad (Ap (i:=7) sc_law.nd rfl (Or.inl rfl) (Aj By (pv 5) Ac))
      (Ad (Ap (i:=8) sc_law.nd rfl (Or.inl rfl) (A1 (PW.pt (Lu (AE Bv (Aj AH (pv 7) Ac) Ac (AB _)) (Je (AE Nl (pv 6) Ac (AB _))))) Al Al))
      (Ad (Hc PassesOwn.never rfl (Fs rfl (T.own _ (by decide)) (Aa Ac Ab)) (Bf (i:=9) sc_law.nd rfl (Or.inl rfl)) (Af (Bb (AE Lt (Ag c__law_refused hr (Aa (pv 2) (Aa (pv 6) (Aa (pv 7) (Aa (pv 3) Ab))))) (pv 8) (AB _)) (Af (An EN)) A9)))
      (Ad (Bb (PW.pt (Lu (DJ (A6 (Ag c__law_same (hr.mono (by decide)) (Aa (AQ (Ec (pv 2) d_Hand_draft (hr.mono (by decide)) IE) d_Draft_told (hr.mono (by decide))) (Aa (pv 1) Ab))))) (Je (AE (Mg hr.units) (AQ (AQ (pv 2) d_Hand_cloth (hr.mono (by decide))) d_Cloth_told (hr.mono (by decide))) (pv 4) (AB _))))) (Af (An EN)) A9)
      (Af (Av (AY (pv 2) d_Hand_colour (hr.mono (by decide)) IE (Aa Al (Aa Ac (Aa (A7 (Fg (K:=K)) (A7 (B5 (K:=K)) (pv 1) Ac (λ _ _=>rfl)) Ac (λ _ _=>rfl)) Ab))))))))))))
      (Ad (Hc PassesOwn.never rfl (Fs rfl (T.own _ (by decide)) (Aa (Am (CV (K:=K)) rfl (T.own _ (by decide)) boot_len (Aa (pv 0) Ab)) Ab)) (Bf (i:=9) sc_law.nd rfl (Or.inl rfl)) (Af (Bb (AE (Mg hr.units) (Ec (pv 2) d_Hand_undo (hr.mono (by decide)) IE) (A2 (Aa (Ar Ab) (Aa (Ar Ab) Ab))) (AB _)) (Af (An EN)) A9)))
      (Af (An (Dm (BO (Sa hu (K:=K)) (Ag c__law_end_refused (hr.mono (by decide)) (Aa (pv 2) (Aa Ac Ab))) (Ar (Aa Al Ab)) (AB _)) (DI (Aw c__law_edges (hr.mono (by decide)) IE (Aa (pv 1) Ab)))))))))))),?_⟩
    walk_at "w";refine DC sa λ p0 n0=> ?_;wrow_has H x0;rw [DP (by decide)] at g0;walk_at "w";refine ⟨p0,ns.take 9,8,rfl,?_,?_,by decide,by decide,λ H1 p1 d s1 n1 r1 ok=> ?_⟩
    · rw [List.map_take];exact SqL.of g0
    · rw [Ad1];omega
    have s01:=s0.trans s1;obtain ⟨m,q1,a2,v3,a4,vs4,a5,a6,em,eq1,ht,e2,q3,q4,e4,l4,_,e5,e6⟩:=MD r1;cases em;cases eq1;have wl:=ok.wl;have h1:=ok.h1;have h2:=ok.h2;have p1':=ok.p1;have p2':=ok.p2;walk_at "w";refine ⟨_,_,rfl,r1.any,λ H2 v2 s2 r2=> ?_⟩;walk_at "w";refine KG r2 ok λ H3 y3 s3 n3 D3=> ?_;walk_at "w";refine MG (R:=λ x H'=>AO 2 (.ref x) _ H' _) D3 ok λ H4 x lp B s4 nx nlp oB hA=> ?_;have s14:=s2.trans (s3.trans s4);walk_at "w";refine Bw (SqT.of (s14 _ _ ht)) (AW (j:=2) rfl) ?_;walk_at "w";refine BU (SqL.of (s14 _ _ e2)) ?_;rw [Aa2];walk_at "w";refine Bw (SqT.of (s14 _ _ ht)) (AW (j:=4) rfl) ?_;walk_at "w";refine BU (SqL.of (s14 _ _ e4)) ?_;rw [l4];walk_at "w";refine Bw (SqT.of (s14 _ _ ht)) (AW (j:=0) rfl) ?_;walk_at "w";refine Bw (SqT.of (s14 _ _ ht)) (AW (j:=1) rfl) ?_;walk_at "w";row_lines H4 x5;have hA5:=hA.same s5;obtain ⟨_,_,_,hx5,hl5,_,_⟩:=hA5.ex;walk_at "w";refine ⟨_,_,_,rfl,hx5,rfl,?_⟩;walk_at "w";refine ⟨x,B,lp,d,[],rfl,hA5,ok,λ H6 y6 s6 n6 C6=> ?_⟩;obtain ⟨_,_,hc6,_⟩:=id C6;walk_at "w";refine ⟨_,_,_,rfl,hc6,rfl,?_⟩;walk_at "w";refine ⟨_,_,_,rfl,C6,λ H7 pb lb s7 nb nlb gb glb=> ?_⟩;have s57:=s6.trans s7;have s17:=s14.trans (s5.trans s57);have s13:=s2.trans s3;have lw:(Hs d).length<=100000:=by
      have:=Qw (d:=d);omega
    have sZ3:Same H3 (zg x lp H7):=λ b o e=>Nh ((s4.trans (s5.trans s57)) _ _ e) (Ay e nx) (Ay e nlp);have zt:Same H1 (zg x lp H7):=s13.trans sZ3;have wa0:(d.wa.map V.str)[0]?=some (.str (d.wa.getD 0 "")):=by
      match e:d.wa with
      | []=>rw [e] at wl;simp at wl;omega
      | z::zs=>rfl
    have cw:Fa (d.wa.getD 0 ""):=ok.wc _ (PQ (by omega));have zx:zg x lp H7 x=none:=if_pos (.inl rfl);have zl:zg x lp H7 lp=none:=if_pos (.inr rfl);have rp:Rp (zg x lp H7) FT 3 (.ref p1) (dDr d):=(r1.any).same (s13.trans sZ3);have zs:zg x lp H7 p5=some (.tup [nV d.th.length,nV d.td.length,nV d.sh,nV d.tr]):=Nh (s57 _ _ g5) (Cg g5 hx5 (by intro z;cases z)) (Cg g5 hl5 (by intro z;cases z));have hx7:=s57 _ _ hx5;have hl7:=s57 _ _ hl5;have zb:zg x lp H7 pb=some (.tup [nV d.th.length, .ref lb]):=Nh gb (Cg gb hx7 (by intro z;cases z)) (Cg gb hl7 (by intro z;cases z));have zlb:zg x lp H7 lb=some (.lst ((Hs d).map nV)):=Nh glb (Cg glb hx7 (by intro z;cases z)) (λ z=>by rw [z,s6 _ _ hl5] at nlb;cases nlb);walk_at "w";refine ⟨a,rfl,⟨_,(s01.trans s17).seq sa⟩,Lg (H0:=zg x lp H7) (M3 ((s01.trans (s13.trans sZ3)).seq sa)) (λ i σ H'=>∃ B y5 y6 y7 y8 y9,σ=[some (.ref a),some (.ref p1),some (.ref x),some (.ref p5),some (.ref pb),y5,y6,y7,y8,y9]/\Same (zg x lp H7) H'/\HandAt c B H' x lp d (Ab1 i (d,([],[])))) ⟨B,_,_,_,_,_,rfl,Rq,hA5.same s57⟩ (λ i σ H' ⟨_,_,_,_,_,_,_,s,_⟩=>s) ?_ ?_⟩
    · rintro i σ G H8 hi ⟨B,y5,y6,y7,y8,y9,rfl,sG,hB⟩ s8;replace hB:=hB.same s8;have sZ:=sG.trans s8;have hi':i<ns.length:=by simpa using hi
      rw [Df hi];walk_at "w";refine AD (by decide) ?_;walk_at "w";refine AD ⟨by decide,by decide⟩ ?_;obtain ⟨kd,hkd,ekd⟩:∃ kd:Nat,kd<8/\ns.getD i 0%8=(kd:Nat):=⟨(ns.getD i 0%8).toNat,by omega,by omega⟩;generalize ns.getD i 0 / 8=n;rw [ekd]
      with_reducible refine Kt ?_
      with_reducible refine Px ?_
      with_reducible refine OA ?_
      refine teJ (λ v H'=>H'=H8/\v= .str (nmK (if decide (n%2=1)=true\/5<kd then 7 else 5))) ?_ (λ R key=> ?_)
      case refine_2=>
        walk_at "w";refine AD (by decide) ?_;walk_at "w";refine CJ (λ z=> ?_) (λ z=> ?_)
        · walk_at "w";exact key _ _ ⟨rfl,by rw [if_pos (.inl (decide_eq_true z))];rfl⟩
        · walk_at "w";refine CJ (λ z'=> ?_) (λ z'=> ?_)
          · walk_at "w";exact key _ _ ⟨rfl,by rw [if_pos (.inr (by omega))];rfl⟩
          · walk_at "w";exact key _ _ ⟨rfl,by rw [if_neg (by rw [decide_eq_false z];rintro (y | y);(cases y);omega)];rfl⟩
      rintro _ H8' ⟨eH,rfl⟩;rw [eH];clear eH;generalize eD:nmK (if decide (n%2=1)=true\/5<kd then 7 else 5)=due;walk_at "w";refine ⟨_,rfl,by decide,by decide,HV (Kl (n:=2)) (λ j σ H'=>∃ w9,σ=[some (.ref a),some (.ref p1),some (.ref x),some (.ref p5),some (.ref pb),some (.int (ns.getD i 0)),some (nV kd),some (.int n),some (.str due),w9]/\Same H8 H') ⟨_,rfl,Same.refl _⟩ (λ j σ H' ⟨_,_,s⟩=>s) ?_ ?_⟩
      · rintro j σ G H9 hj ⟨w9,rfl,s9⟩ s9';have s9:=s9.trans s9';walk_at "w";refine ⟨x,B,lp,d,_,kd,n,p5,rfl,hB.same s9,ok,hkd,SqT.of ((sZ.trans s9) _ _ zs),λ H10 s10=> ?_⟩;rw [eD];walk_at "w";rw [show (!decide (due=due))=false by rw [decide_eq_true rfl];rfl];walk_at "w";exact ⟨_,rfl,s9.trans s10⟩
      rintro _ H9 ⟨w9,rfl,s9⟩;replace hB:=hB.same s9;replace sZ:=sZ.trans s9;obtain ⟨_,_,_,hx9,hl9,_,_⟩:=hB.ex;walk_at "w";refine ⟨_,_,_,rfl,hx9,rfl,?_⟩;walk_at "w";refine ⟨x,B,lp,d,_,rfl,hB,ok,λ H10 y10 s10 n10 D10=> ?_⟩;obtain ⟨_,_,_,_,_,_,hd10,_⟩:=id D10;walk_at "w";refine ⟨_,_,_,rfl,hd10,rfl,?_⟩;walk_at "w";refine ⟨_,_,rfl,D10,λ H11 p11 s11 n11 r11=> ?_⟩;have s911:=s10.trans s11;walk_at "w";refine ⟨_,_,_,rfl,r11.any,rp.same (sZ.trans s911),λ H12 s12=> ?_⟩;have s912:=s911.trans s12;walk_at "w";refine ⟨_,_,_,rfl,s912 _ _ hx9,rfl,?_⟩;walk_at "w";refine ⟨x,B,lp,d,_,rfl,hB.same s912,ok,λ H13 y13 s13' n13 C13=> ?_⟩;obtain ⟨_,_,hc13,_⟩:=id C13;walk_at "w";refine ⟨_,_,_,rfl,hc13,rfl,?_⟩;walk_at "w";refine ⟨_,_,_,rfl,C13,λ H14 p14 l14 s14' n14 nl14 g14 gl14=> ?_⟩;have s914:=s912.trans (s13'.trans s14');replace hB:=hB.same s914;replace sZ:=sZ.trans s914;walk_at "w";refine ⟨2, .tup [dN d.th.length,dL (Hs d)], .tup [dN d.th.length,dL (Hs d)],by decide,R9 g14 gl14 trivial lw,R9 (sZ _ _ zb) (sZ _ _ zlb) trivial lw,rfl,?_⟩;rw [CD];walk_at "w";rw [if_pos rfl];refine Ou ?_;walk_at "w";refine ⟨_,_,_,rfl,s914 _ _ hx9,rfl,?_⟩;walk_at "w";refine Bw (SqT.of (sZ _ _ (zt _ _ ht))) (AW (j:=5) rfl) ?_;walk_at "w";refine Ax (v:= .str (d.wa.getD 0 "")) (SqL.of (sZ _ _ (zt _ _ e5))) (AW (j:=0) wa0) ?_;walk_at "w";refine ⟨x,B,lp,d,_, .str "warp",nV 1, .str (d.wa.getD 0 ""),rfl,hB,ok, .str _ (by decide +kernel), .int _, .str _ (by have:=cw.1;omega), .inr ⟨false,rfl, .inr ⟨1,_,rfl,rfl,⟨Aa7 _,h1,cw⟩,by rw [Ac9];omega,?_⟩⟩⟩;rw [Qn ok, <-List.replicate_succ'];exact λ B1 H15 H16 p l1 l2 _ _ b2 hA1 _ _ _ s16 _ _ _=>⟨B1,_,_,_,_,_,rfl,(Oy sZ zx zl b2).trans s16,hA1.same s16⟩
    · rintro _ H8 ⟨B,y5,y6,y7,y8,y9,rfl,sZ,hB⟩;rw [Aa2] at hB;walk_at "w";refine BU (sZ.seq ((s01.trans zt).seq sa)) ?_;rw [Aa2];refine ⟨_,rfl,by omega,by omega,Lg (H0:=zg x lp H7) (Kl (n:=ns.length)) (λ j σ H'=>∃ B w9,σ=[some (.ref a),some (.ref p1),some (.ref x),some (.ref p5),some (.ref pb),y5,y6,y7,y8,w9]/\Same (zg x lp H7) H'/\HandAt c B H' x lp d (Ab1 (ns.length - j) (d,([],[])))) ⟨B,_,rfl,sZ,hB⟩ (λ j σ H' ⟨_,_,_,s,_⟩=>s) ?_ ?_⟩
      · rintro j σ G H9 hj ⟨B,w9,rfl,sG,hB⟩ s9;replace hB:=hB.same s9;have sZ:=sG.trans s9;obtain ⟨_,_,_,hx9,hl9,_,_⟩:=hB.ex;walk_at "w";refine ⟨_,_,_,rfl,hx9,rfl,?_⟩;walk_at "w";refine ⟨x,B,lp,d,_,rfl,hB, .inl ⟨Ab1 (ns.length - (j+1)) (d,([],[])),d,([],[]),by rw [<-List.replicate_succ',show ns.length - (j+1)+1=ns.length - j by omega],?_⟩⟩;refine λ B1 H10 H11 p l1 l2 _ _ b2 hA1 _ _ _ s11 gp g1 g2=> ?_;have sZ':=(Oy sZ zx zl b2).trans s11;walk_at "w";row_lines H11 xu;walk_at "w";row_lines Hu xv;walk_at "w";row_lines Hv xw;have s1c:=su.trans (sv.trans sw);walk_at "w";refine ⟨2, .tup [dL [],dL []], .tup [dL [],dL []],by decide,K4 (s1c _ _ gp) (Gu (ns:=[]) (s1c _ _ g1) trivial (by decide)) (Gu (ns:=[]) (s1c _ _ g2) trivial (by decide)),K4 gw (Gu (ns:=[]) ((sv.trans sw) _ _ gu) trivial (by decide)) (Gu (ns:=[]) (sw _ _ gv) trivial (by decide)),rfl,?_⟩;rw [CD];walk_at "w";exact ⟨B1,_,rfl,sZ'.trans s1c,hA1.same (s11.trans s1c)⟩
      · rintro _ H9 ⟨B,w9,rfl,sZ,hB⟩;rw [Nat.sub_self] at hB;walk_at "w";refine ⟨x,B,lp,d,[],0,rfl,hB,ok,by decide,λ _=>rfl,λ z=>(by cases z),λ z=>(by cases z),λ z=>(by cases z),λ H10 l s10 _ g10=> ?_⟩;walk_at "w";row_lines H10 xu;refine Rr (as:=["place"]) (bs:=["place"]) (SqL.of (su _ _ g10)) (SqL.of gu) ?_;refine ⟨_,rfl,?_⟩;refine CJ (λ _=> ?_) (λ z=>absurd rfl z);walk_at "w";exact ⟨_,d,FT,rfl,rp.same (sZ.trans (s10.trans su)),ok,λ H11 s11=>k _⟩
end
end K33
namespace K33
open PySem L2 PySem.Spec PyProof.Rows
theorem all_mk {l:PySem.W.OpenLaw} {w:World} {K:PySem.W.Frag} {h:Heap} {mg:Str->Option Value} {fa:Addr} (X:K.In h) (G:h.Ns mainGlobals mg) (hfa:mg "law"=some (.ref fa))
    {C_Draft C_Cloth C_Hand C_LoomError C_BadRow C_BadWord C_TooMany C_NotPlain C_NotGrown C_BadDraft C_BadCloth C_OutOfPlace C_PARTS f0 f1 f2 f3 f4 f5 f6 f7 f8 f9 f10 f11 f12 f13 f14 f15 f16 f17 f18 f19 f20 f21 f22 f23 f24 f25 f26 f27 f28 f29 f30 f31 f32 f33 f34 f35 f36 f37 f38 f39 f40 f41 f42 f43 f44 f45 f46 f47 f48 f49 f50 f51 f52 f53 f54 f55 f56 f57 f58 f59 f60 f61 f62 f63 f64 f65 f66:Addr} {d0 d1 d2 d3 d4 d5 d6 d7 d8 d9 d10 d11 d12 d13 d14 d15 d16 d17 d18 d19 d20 d21 d22 d23 d24 d25 d26 d27 d28 d29 d30 d31 d32 d33 d34 d35 d36 d37 d38 d39 d40 d41 d42 d43 d44 d45 d46 d47 d48 d49 d50 d51 d52 d53 d54 d55 d56 d57 d58 d59 d60 d61 d62 d63 d64 d65 d66:FuncData}
    {u_PARTS_0 u_PARTS_1 u_PARTS_2 u_PARTS_3 u_PARTS_4 u_PARTS_5 u_PARTS_6:Tok} {n_PARTS:Nat} {od_PARTS:Option Addr} {sl_PARTS:Array (Option Value)}
    (T0:(∀ H:Hp,SqT K H C_PARTS [.str "shafts", .str "treadles", .str "threading", .str "ties", .str "treading", .str "warp", .str "weft"])->Txt K mg ⟨C_Draft,C_Cloth,C_Hand,C_LoomError,C_BadRow,C_BadWord,C_TooMany,C_NotPlain,C_NotGrown,C_BadDraft,C_BadCloth,C_OutOfPlace,C_PARTS⟩)
    (D0:DefAt K mg "_law_same" Dv ["_law_found","_law_due"] f0 d0)
    (D1:DefAt K mg "bit_of" IM ["number"] f1 d1)
    (D2:DefAt K mg "mask_of" G5 ["numbers"] f2 d2)
    (D3:DefAt K mg "mask_to" G7 ["most"] f3 d3)
    (D4:DefAt K mg "has_number" EI ["mask","number"] f4 d4)
    (D5:DefAt K mg "numbers_of" EA ["mask"] f5 d5)
    (D6:DefAt K mg "union_of" FX ["masks"] f6 d6)
    (D7:DefAt K mg "is_whole" F2 ["thing"] f7 d7)
    (D8:DefAt K mg "is_among" FU ["thing","least","most"] f8 d8)
    (D9:DefAt K mg "need_cloth" EH ["ends","rows"] f9 d9)
    (j10:Mk K C_Cloth f10)
    (D10:FnA K "__init__" "Cloth.__init__" Cu ["self","ends","rows"] f10 d10)
    (j11:Meth K C_Cloth "told" f11)
    (D11:FnA K "told" "Cloth.told" Eg ["self"] f11 d11)
    (j12:Meth K C_Cloth "ends" f12)
    (D12:FnA K "ends" "Cloth.ends" Eo ["self"] f12 d12)
    (j13:Meth K C_Draft "told" f13)
    (D13:FnA K "told" "Draft.told" Ex ["self"] f13 d13)
    (j14:Meth K C_Draft "ends" f14)
    (D14:FnA K "ends" "Draft.ends" EB ["self"] f14 d14)
    (D15:DefAt K mg "is_colour" Fo ["thing"] f15 d15)
    (D16:DefAt K mg "need" MC ["holds","words"] f16 d16)
    (D17:DefAt K mg "is_list" GW ["thing","least","most"] f17 d17)
    (D18:DefAt K mg "is_rising" EY ["thing","most"] f18 d18)
    (D19:DefAt K mg "are_rising" Er ["thing","most"] f19 d19)
    (D20:DefAt K mg "are_colours" Dz ["thing","many"] f20 d20)
    (D21:DefAt K mg "need_draft" EG ["shafts","treadles","threading","ties","treading","warp","weft"] f21 d21)
    (j22:Mk K C_Draft f22)
    (D22:FnA K "__init__" "Draft.__init__" Ci ["self","shafts","treadles","threading","ties","treading","warp","weft"] f22 d22)
    (D23:DefAt K mg "lift_by" GT ["ties","treadles"] f23 d23)
    (D24:DefAt K mg "lifts_of" F6 ["draft"] f24 d24)
    (D25:DefAt K mg "ends_through" De ["threading","shaft"] f25 d25)
    (D26:DefAt K mg "shaft_ends" El ["threading","shafts"] f26 d26)
    (D27:DefAt K mg "row_by" Iw ["carried","lift"] f27 d27)
    (D28:DefAt K mg "woven" Kw ["draft"] f28 d28)
    (D29:DefAt K mg "_law_kinds" EJ ["_law_error"] f29 d29)
    (D30:DefAt K mg "_law_mixed" Ep ["_law_cell","_law_k"] f30 d30)
    (D31:DefAt K mg "_law_cells" Et ["_law_script","_law_first"] f31 d31)
    (D32:DefAt K mg "_law_numbers" Dh ["_law_mask","_law_most"] f32 d32)
    (D33:DefAt K mg "_law_copied" CA ["_law_thing"] f33 d33)
    (D34:DefAt K mg "_law_draft" EF ["_law_script","_law_most"] f34 d34)
    (D35:DefAt K mg "changed_draft" CK ["draft","changes"] f35 d35)
    (D36:DefAt K mg "need_place" Eh ["thing","most"] f36 d36)
    (D37:DefAt K mg "lists_of" FZ ["tuples"] f37 d37)
    (D38:DefAt K mg "replaced_at" DL ["members","place","thing"] f38 d38)
    (D39:DefAt K mg "put_at" IS ["members","place","thing"] f39 d39)
    (D40:DefAt K mg "taken_at" FY ["members","place"] f40 d40)
    (D41:DefAt K mg "other_places" Dg ["members","later"] f41 d41)
    (j42:Mk K C_Hand f42)
    (D42:FnA K "__init__" "Hand.__init__" CQ ["self","draft"] f42 d42)
    (j43:Meth K C_Hand "draft" f43)
    (D43:FnA K "draft" "Hand.draft" Ew ["self"] f43 d43)
    (j44:Meth K C_Hand "cloth" f44)
    (D44:FnA K "cloth" "Hand.cloth" Ez ["self"] f44 d44)
    (j45:Meth K C_Hand "bring" f45)
    (D45:FnA K "bring" "Hand.bring" Es ["self","later","picks","ends"] f45 d45)
    (j46:Meth K C_Hand "alter" f46)
    (D46:FnA K "alter" "Hand.alter" EE ["self","changes"] f46 d46)
    (j47:Meth K C_Hand "thread" f47)
    (D47:FnA K "thread" "Hand.thread" DF ["self","end","shaft"] f47 d47)
    (j48:Meth K C_Draft "picks" f48)
    (D48:FnA K "picks" "Draft.picks" DN ["self"] f48 d48)
    (j49:Meth K C_Hand "tie" f49)
    (D49:FnA K "tie" "Hand.tie" F7 ["self","treadle","shafts"] f49 d49)
    (j50:Meth K C_Hand "tread" f50)
    (D50:FnA K "tread" "Hand.tread" Em ["self","pick","treadles"] f50 d50)
    (j51:Meth K C_Hand "take_end" f51)
    (D51:FnA K "take_end" "Hand.take_end" CT ["self","end"] f51 d51)
    (j52:Meth K C_Hand "put_end" f52)
    (D52:FnA K "put_end" "Hand.put_end" Dp ["self","end","shaft","colour"] f52 d52)
    (j53:Meth K C_Hand "take_pick" f53)
    (D53:FnA K "take_pick" "Hand.take_pick" Cj ["self","pick"] f53 d53)
    (j54:Meth K C_Hand "put_pick" f54)
    (D54:FnA K "put_pick" "Hand.put_pick" CU ["self","pick","treadles","colour"] f54 d54)
    (j55:Meth K C_Hand "undo" f55)
    (D55:FnA K "undo" "Hand.undo" Fd ["self"] f55 d55)
    (j56:Meth K C_Hand "colour" f56)
    (D56:FnA K "colour" "Hand.colour" DG ["self","side","number","colour"] f56 d56)
    (D57:DefAt K mg "_law_made" Fc ["_law_parts"] f57 d57)
    (D58:DefAt K mg "_law_no_place" CM ["_law_number","_law_most"] f58 d58)
    (D59:DefAt K mg "_law_no_shaft" CP ["_law_number","_law_most"] f59 d59)
    (D60:DefAt K mg "_law_no_colour" Cq ["_law_number"] f60 d60)
    (D61:DefAt K mg "_law_no_list" Di ["_law_number","_law_most"] f61 d61)
    (D62:DefAt K mg "_law_tried" Ey ["_law_hand","_law_kind","_law_number","_law_sizes"] f62 d62)
    (D63:DefAt K mg "_law_refused" Da ["_law_hand","_law_kind","_law_number","_law_sizes"] f63 d63)
    (D64:DefAt K mg "_law_end_refused" BW ["_law_hand","_law_which"] f64 d64)
    (D65:DefAt K mg "_law_edges" Ek ["_law_parts"] f65 d65)
    (D66:DefAt K mg "law" Ol ["_law_script"] f66 d66)
    (lk_PARTS:K.lookup C_PARTS=some ⟨.type "tuple",od_PARTS, .seq #[.str "shafts" u_PARTS_0, .str "treadles" u_PARTS_1, .str "threading" u_PARTS_2, .str "ties" u_PARTS_3, .str "treading" u_PARTS_4, .str "warp" u_PARTS_5, .str "weft" u_PARTS_6] n_PARTS,sl_PARTS⟩)
    (hlb:∀ (s:Shared) (u:Value),BindsTo s d66 ⟨[u],[]⟩ [("_law_script",u)])
    : ∃ fd:FuncData,(∀ (s:Shared) (v:Value),BindsTo s fd ⟨[v],[]⟩ [("_law_script",v)])/\∀ base:Heap,K.In base->base.Ns mainGlobals mg->FnOk l.prog w K mg base CX0 13 fa fd ["_law_script"] (MW K):=by
  cases hfa.symm.trans D66.at';have T:=T0 (λ H=> .inr ⟨_,_,_,lk_PARTS,rfl,rfl,by simp [sizeLine_eq], .cons ⟨_,rfl⟩ (.cons ⟨_,rfl⟩ (.cons ⟨_,rfl⟩ (.cons ⟨_,rfl⟩ (.cons ⟨_,rfl⟩ (.cons ⟨_,rfl⟩ (.cons ⟨_,rfl⟩ (.nil)))))))⟩);exact ⟨_,hlb,λ base _ _=>by
    have c_bit_of:=D1.call (Oc (P:=l.prog) (w:=w) (base:=base) D1.fn T);have c_mask_of:=D2.call (Mv (P:=l.prog) (w:=w) (base:=base) D2.fn T c_bit_of);have c_mask_to:=D3.call (MJ (P:=l.prog) (w:=w) (base:=base) D3.fn T);have c_has_number:=D4.call (JE (P:=l.prog) (w:=w) (base:=base) D4.fn T c_bit_of);have c_numbers_of:=D5.call (Jj (P:=l.prog) (w:=w) (base:=base) D5.fn T c_has_number);have c_union_of:=D6.call (LP (P:=l.prog) (w:=w) (base:=base) D6.fn T);have c_is_whole:=D7.call (LF (P:=l.prog) (w:=w) (base:=base) D7.fn T);have c_is_among:=D8.call (Li (P:=l.prog) (w:=w) (base:=base) D8.fn T c_is_whole);have c_need_cloth:=D9.callE (JP (P:=l.prog) (w:=w) (base:=base) D9.fn T c_is_among c_mask_to);have m_Cloth:Ga l.prog w K mg base "Cloth" C_Cloth 4 ["self","ends","rows"] _:=⟨_,_,T.g_Cloth,j10,Gs (P:=l.prog) (w:=w) (base:=base) D10.fn T c_need_cloth,D10.bi⟩;have d_Cloth_told:Bm l.prog w K mg base C_Cloth "told" 1 ["self"] _:=⟨_,_,T.kd_Cloth.cl,j11,JQ (P:=l.prog) (w:=w) (base:=base) D11.fn T,D11.bi⟩;have d_Cloth_ends:Bm l.prog w K mg base C_Cloth "ends" 1 ["self"] _:=⟨_,_,T.kd_Cloth.cl,j12,JM (P:=l.prog) (w:=w) (base:=base) D12.fn T,D12.bi⟩;have d_Draft_told:Bm l.prog w K mg base C_Draft "told" 1 ["self"] _:=⟨_,_,T.kd_Draft.cl,j13,Js (P:=l.prog) (w:=w) (base:=base) D13.fn T,D13.bi⟩;have d_Draft_ends:Bm l.prog w K mg base C_Draft "ends" 1 ["self"] _:=⟨_,_,T.kd_Draft.cl,j14,JV (P:=l.prog) (w:=w) (base:=base) D14.fn T,D14.bi⟩;have c_is_colour:=D15.call (KL (P:=l.prog) (w:=w) (base:=base) D15.fn T);have c_need:=D16.callE (QR (P:=l.prog) (w:=w) (base:=base) D16.fn T);have c_is_list:=D17.call (Mm (P:=l.prog) (w:=w) (base:=base) D17.fn T c_is_among);have c_is_rising:=D18.call (KM (P:=l.prog) (w:=w) (base:=base) D18.fn T c_is_among);have c_are_rising:=D19.call (Jr (P:=l.prog) (w:=w) (base:=base) D19.fn T c_is_rising);have c_are_colours:=D20.call (ID (P:=l.prog) (w:=w) (base:=base) D20.fn T c_is_list c_is_colour);have c_need_draft:=D21.callE (Jp (P:=l.prog) (w:=w) (base:=base) D21.fn T c_need c_is_among c_is_list c_are_rising c_are_colours);have m_Draft:Ga l.prog w K mg base "Draft" C_Draft 6 ["self","shafts","treadles","threading","ties","treading","warp","weft"] _:=⟨_,_,T.g_Draft,j22,GG (P:=l.prog) (w:=w) (base:=base) D22.fn T c_need_draft,D22.bi⟩;have c_lift_by:=D23.call (Mx (P:=l.prog) (w:=w) (base:=base) D23.fn T c_union_of);have c_lifts_of:=D24.call (LS (P:=l.prog) (w:=w) (base:=base) D24.fn T c_mask_of c_lift_by);have c_ends_through:=D25.call (HN (P:=l.prog) (w:=w) (base:=base) D25.fn T c_mask_of);have c_shaft_ends:=D26.call (JO (P:=l.prog) (w:=w) (base:=base) D26.fn T c_ends_through);have c_row_by:=D27.call (NG (P:=l.prog) (w:=w) (base:=base) D27.fn T c_numbers_of c_union_of);have c_woven:=D28.call (Qe (P:=l.prog) (w:=w) (base:=base) D28.fn T c_shaft_ends d_Draft_ends c_row_by c_lifts_of m_Cloth);have c__law_kinds:=D29.call (JW (P:=l.prog) (w:=w) (base:=base) D29.fn T);have c__law_mixed:=D30.call (JS (P:=l.prog) (w:=w) (base:=base) D30.fn T);have c__law_cells:=D31.call (JC (P:=l.prog) (w:=w) (base:=base) D31.fn T);have c__law_numbers:=D32.call (HL (P:=l.prog) (w:=w) (base:=base) D32.fn T);have c__law_draft:=D34.call (Jz (P:=l.prog) (w:=w) (base:=base) D34.fn T c__law_mixed c__law_cells c__law_numbers);have c_changed_draft:=D35.callE (G1 (P:=l.prog) (w:=w) (base:=base) D35.fn T d_Draft_told m_Draft);have c_need_place:=D36.callE (JK (P:=l.prog) (w:=w) (base:=base) D36.fn T c_is_among);have c_lists_of:=D37.call (LJ (P:=l.prog) (w:=w) (base:=base) D37.fn T);have c_replaced_at:=D38.call (Ir (P:=l.prog) (w:=w) (base:=base) D38.fn T);have c_put_at:=D39.call (Nv (P:=l.prog) (w:=w) (base:=base) D39.fn T);have c_taken_at:=D40.call (LO (P:=l.prog) (w:=w) (base:=base) D40.fn T);have c_other_places:=D41.call (HI (P:=l.prog) (w:=w) (base:=base) D41.fn T);have m_Hand:Ga l.prog w K mg base "Hand" C_Hand 9 ["self","draft"] _:=⟨_,_,T.g_Hand,j42,GK (P:=l.prog) (w:=w) (base:=base) D42.fn T c_changed_draft,D42.bi⟩;have d_Hand_draft:A4 l.prog w K mg base C_Hand "draft" 9 ["self"] _:=⟨_,_,T.kd_Hand.cl,j43,JN (P:=l.prog) (w:=w) (base:=base) D43.fn T c_changed_draft,D43.bi⟩;have d_Hand_cloth:Bm l.prog w K mg base C_Hand "cloth" 7 ["self"] _:=⟨_,_,T.kd_Hand.cl,j44,JY (P:=l.prog) (w:=w) (base:=base) D44.fn T c_woven,D44.bi⟩;have d_Hand_bring:Bm l.prog w K mg base C_Hand "bring" 1 ["self","later","picks","ends"] _:=⟨_,_,T.kd_Hand.cl,j45,JX (P:=l.prog) (w:=w) (base:=base) D45.fn T,D45.bi⟩;have d_Hand_alter:A4 l.prog w K mg base C_Hand "alter" 9 ["self","changes"] _:=⟨_,_,T.kd_Hand.cl,j46,Ji (P:=l.prog) (w:=w) (base:=base) D46.fn T c_changed_draft c_other_places c_lifts_of d_Hand_bring,D46.bi⟩;have d_Hand_thread:A4 l.prog w K mg base C_Hand "thread" 10 ["self","end","shaft"] _:=⟨_,_,T.kd_Hand.cl,j47,Jf (P:=l.prog) (w:=w) (base:=base) D47.fn T c_need_place d_Draft_ends d_Hand_alter c_replaced_at,D47.bi⟩;have d_Draft_picks:Bm l.prog w K mg base C_Draft "picks" 1 ["self"] _:=⟨_,_,T.kd_Draft.cl,j48,IZ (P:=l.prog) (w:=w) (base:=base) D48.fn T,D48.bi⟩;have d_Hand_tie:A4 l.prog w K mg base C_Hand "tie" 10 ["self","treadle","shafts"] _:=⟨_,_,T.kd_Hand.cl,j49,Ls (P:=l.prog) (w:=w) (base:=base) D49.fn T c_need_place c_lists_of d_Hand_alter c_replaced_at,D49.bi⟩;have d_Hand_tread:A4 l.prog w K mg base C_Hand "tread" 10 ["self","pick","treadles"] _:=⟨_,_,T.kd_Hand.cl,j50,Jy (P:=l.prog) (w:=w) (base:=base) D50.fn T c_need_place d_Draft_picks c_lists_of d_Hand_alter c_replaced_at,D50.bi⟩;have d_Hand_take_end:A4 l.prog w K mg base C_Hand "take_end" 9 ["self","end"] _:=⟨_,_,T.kd_Hand.cl,j51,GN (P:=l.prog) (w:=w) (base:=base) D51.fn T c_need_place d_Draft_ends c_taken_at c_changed_draft d_Hand_bring,D51.bi⟩;have d_Hand_put_end:A4 l.prog w K mg base C_Hand "put_end" 9 ["self","end","shaft","colour"] _:=⟨_,_,T.kd_Hand.cl,j52,Hy (P:=l.prog) (w:=w) (base:=base) D52.fn T c_need_place d_Draft_ends c_put_at c_changed_draft d_Hand_bring,D52.bi⟩;have d_Hand_take_pick:A4 l.prog w K mg base C_Hand "take_pick" 9 ["self","pick"] _:=⟨_,_,T.kd_Hand.cl,j53,GE (P:=l.prog) (w:=w) (base:=base) D53.fn T c_need_place d_Draft_picks c_lists_of c_taken_at c_changed_draft d_Hand_bring,D53.bi⟩;have d_Hand_put_pick:A4 l.prog w K mg base C_Hand "put_pick" 9 ["self","pick","treadles","colour"] _:=⟨_,_,T.kd_Hand.cl,j54,GZ (P:=l.prog) (w:=w) (base:=base) D54.fn T c_need_place d_Draft_picks c_lists_of c_put_at c_changed_draft d_Hand_bring,D54.bi⟩;have d_Hand_undo:A4 l.prog w K mg base C_Hand "undo" 2 ["self"] _:=⟨_,_,T.kd_Hand.cl,j55,Ks (P:=l.prog) (w:=w) (base:=base) D55.fn T d_Hand_bring,D55.bi⟩;have d_Hand_colour:A4 l.prog w K mg base C_Hand "colour" 10 ["self","side","number","colour"] _:=⟨_,_,T.kd_Hand.cl,j56,Ia (P:=l.prog) (w:=w) (base:=base) D56.fn T c_need_place d_Hand_alter c_replaced_at,D56.bi⟩;have c__law_made:=D57.callE (KQ (P:=l.prog) (w:=w) (base:=base) D57.fn T m_Draft);have c__law_no_place:=D58.call (GQ (P:=l.prog) (w:=w) (base:=base) D58.fn T);have c__law_no_shaft:=D59.call (GY (P:=l.prog) (w:=w) (base:=base) D59.fn T);have c__law_no_colour:=D60.call (GB (P:=l.prog) (w:=w) (base:=base) D60.fn T);have c__law_no_list:=D61.call (HJ (P:=l.prog) (w:=w) (base:=base) D61.fn T);have c__law_tried:=D62.callE (JR (P:=l.prog) (w:=w) (base:=base) D62.fn T c__law_no_place c__law_no_shaft c__law_no_list c__law_no_colour d_Hand_thread d_Hand_tie d_Hand_tread d_Hand_colour d_Hand_put_end d_Hand_put_pick d_Hand_take_end d_Hand_take_pick);have c__law_refused:=D63.call (Hz (P:=l.prog) (w:=w) (base:=base) D63.fn T c__law_tried c__law_kinds);have c__law_end_refused:=D64.call (Fy (P:=l.prog) (w:=w) (base:=base) D64.fn T d_Hand_undo d_Hand_take_end d_Hand_take_pick d_Hand_put_end d_Hand_put_pick c__law_kinds);have c__law_edges:=D65.callE (Jq (P:=l.prog) (w:=w) (base:=base) D65.fn T (D33.call (C8 (P:=l.prog) (w:=w) (base:=base) D33 T 4)) c__law_made m_Hand c__law_end_refused d_Hand_draft d_Draft_told d_Hand_cloth d_Cloth_ends);exact SD D66.fn T c__law_draft (D33.call (C8 (P:=l.prog) (w:=w) (base:=base) D33 T 4)) c__law_made m_Hand d_Hand_cloth d_Cloth_told c__law_refused (D0.call (Gq (P:=l.prog) (w:=w) (base:=base) D0 T 4)) d_Hand_draft d_Draft_told d_Hand_colour d_Hand_undo c__law_end_refused c__law_edges
    ⟩
theorem walk {l:PySem.W.OpenLaw} {q:Program} {loose:List Str} {XP:(Str->Option Value)->Heap->Prop} {YP:World->Heap->Prop} {d:DefRec} {K:Params->PySem.W.Frag} (hn:l.most=some 63) (hdf:d.params.defaults=[])
    (hY:∀ (w:World) (h:Heap),YP w h->(K w.params).In h)
    (F:∀ (w:World) (mg:Str->Option Value) (fa:Addr) (h:Heap),(K w.params).In h->h.Ns mainGlobals mg->mg d.name=some (.ref fa)->
      ∃ fd:FuncData,(∀ (s:Shared) (v:Value),BindsTo s fd ⟨[v],[]⟩ [("_law_script",v)])/\∀ base:Heap,(K w.params).In base->base.Ns mainGlobals mg->FnOk l.prog w (K w.params) mg base CX0 13 fa fd ["_law_script"] (MW (K w.params))):
    PySem.W.WalkO q loose XP YP l.row.toRowW d [] (λ f vs=>PySem.call f vs):=
  L2.walk_of (n:=63) (k:=13) (x:="_law_script") (CX:=λ _=>CX0) (sp:=λ w=>MW (K w.params)) hn (by decide) hdf ⟨rfl,by decide,by decide⟩ hY F (λ _ _ a ns hl _ hS=>⟨a,ns,rfl,hS,hl,λ _=>rfl⟩) λ _ _ _ _ _ z=>z
end K33
open PySem PySem.W PyProof.Rows
set_option maxRecDepth 100000 in
set_option maxHeartbeats 0 in
theorem PySem.Challenge.cw_loomwright_k33_deeds_refused_holds : PySem.Challenge.rw_loomwright_k33_deeds_refused.Holds := by
  w_on
  refine PySem.W.holds_law K33.wsaid λ said=> ?_;refine PySem.W.holds_open (q:=K33.view) (loose:=[]) (Xt:=K33.Xt) (XP:=PySem.W.XL K33.view []) (Yf:=(PySem.W.kHook K33.frag K33.addrs K33.addrs_eq).obs) (Ya:=(PySem.W.kHook K33.frag K33.addrs K33.addrs_eq).val) (YP:=(PySem.W.kHook K33.frag K33.addrs K33.addrs_eq).says) (N:=K33.fuel) K33.left (PySem.W.kHook K33.frag K33.addrs K33.addrs_eq).of (PySem.W.kHook K33.frag K33.addrs K33.addrs_eq).keeps (λ s e=>PySem.W.xl_of s (Bool.and_eq_true_iff.mp e).1) PySem.W.XL.keeps (by rfl) (by rfl) (by rfl) (λ s e=>PySem.W.recFacts_of (Bool.and_eq_true_iff.mp e).2) (by rfl) (by first | assumption | decide +kernel) (by first | k_qdec | decide +kernel) ⟨rfl,rfl,rfl,rfl,rfl,by decide +kernel⟩ ?hw ?hc
  (case hw=>w_witness2)
  k_fill
  refine K33.walk (l:=PySem.Challenge.rw_loomwright_k33_deeds_refused) rfl rfl (λ w h Y=>PySem.W.kIn_of Y) ?F
  case F=>
    intro w mg fa h KX G hmg;refine' K33.all_mk KX G hmg ?T ?_ ?_ ?_ ?_ ?_ ?_ ?_ ?_ ?_ ?_ ?_ ?_ ?_ ?_ ?_ ?_ ?_ ?_ ?_ ?_ ?_ ?_ ?_ ?_ ?_ ?_ ?_ ?_ ?_ ?_ ?_ ?_ ?_ ?_ ?_ ?_ ?_ ?_ ?_ ?_ ?_ ?_ ?_ ?_ ?_ ?_ ?_ ?_ ?_ ?_ ?_ ?_ ?_ ?_ ?_ ?_ ?_ ?_ ?_ ?_ ?_ ?_ ?_ ?_ ?_ ?_ ?_ ?_ ?_ ?_ ?_ ?_ ?_ ?_ ?_ ?_ ?_ ?_ ?_ ?_ ?_ ?_ ?_ ?_ ?_ ?_ ?_ ?_ ?_ ?_
    case T=>
      intros
      constructor
      all_goals try dsimp only
      all_goals try ((with_reducible refine' PySem.W.mg_of KX G ?_);k_is)
      all_goals first
        | ((with_reducible refine' L2.own_cons (PySem.W.mg_none_of KX G ?_) ?_) <;> (repeat' first | (with_reducible exact L2.own_nil) | (with_reducible refine' L2.own_cons (PySem.W.mg_none_of KX G ?_) ?_) | k_is))
        | ((with_reducible first | refine' L2.ci_mk (PySem.W.mg_of KX G ?_) | refine' L2.cs_mk (PySem.W.mg_of KX G ?_)) <;> first | k_is | skip)
        | with_reducible assumption
        | (refine' ⟨⟨?_,?_,?_,?_⟩,?_,?_,?_,?_⟩ <;> k_is)
        | ((with_reducible refine' L2.exc_mk ?_ ?_ ?_ ?_ ?_ ?_ ?_ ?_) <;> k_is)
        | (refine' ⟨?_,?_,?_⟩ <;> first | k_is | kernel_rfl)
        | (unfold L2.NoAttr;k_is)
        | k_is | k_exc | kts_exm | kit_is
    all_goals first
      | (refine' L2.def_mk (PySem.W.mg_of KX G ?_) (L2.fun_mk ?_ ?_ ?_) ?_ <;> first | k_is | exact L2.arg1 λ _=>rfl | exact L2.arg2 λ _ _=>rfl | exact L2.arg3 λ _ _ _=>rfl | exact L2.arg4 λ _ _ _ _=>rfl | exact L2.arg5 λ _ _ _ _ _=>rfl | exact L2.arg6 λ _ _ _ _ _ _=>rfl | exact L2.arg7 λ _ _ _ _ _ _ _=>rfl | exact L2.arg8 λ _ _ _ _ _ _ _ _=>rfl | exact L2.arg9 λ _ _ _ _ _ _ _ _ _=>rfl | skip)
      | (refine' L2.fnA_mk (L2.fun_mk ?_ ?_ ?_) ?_ <;> first | k_is | exact L2.arg1 λ _=>rfl | exact L2.arg2 λ _ _=>rfl | exact L2.arg3 λ _ _ _=>rfl | exact L2.arg4 λ _ _ _ _=>rfl | exact L2.arg5 λ _ _ _ _ _=>rfl | exact L2.arg6 λ _ _ _ _ _ _=>rfl | exact L2.arg7 λ _ _ _ _ _ _ _=>rfl | exact L2.arg8 λ _ _ _ _ _ _ _ _=>rfl | exact L2.arg9 λ _ _ _ _ _ _ _ _ _=>rfl | skip)
      | (refine' ⟨?_,?_,?_,?_⟩;all_goals first | k_is | kernel_rfl | skip)
      | (refine' ⟨?_,?_,?_⟩;all_goals first | k_is | kernel_rfl | skip)
      | k_is
      | exact λ s u=> .of_eq rfl
      | rfl | kernel_rfl | exact Ad7 | decide | skip
