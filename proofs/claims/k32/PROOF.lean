import PyProof.Rows.All
import Wide.All
import OpenK.AllK
import Wide.FinOn
import Lean
import PyProof.EqAt
import PyProof.EqKinds
import PyProof.TupleCall
import KE.KIntText
import PyProof.EnumFor
import PyProof.EnumMake
import PyProof.ZipIter
import PyProof.LayNew
import KE.KTurns
import PyProof.Rows.Range3
import KE.KRevSl
import KE.KDictList
import PyProof.Draws
import PyProof.Rows.RuleM_int
import PyProof.Rows.BitMore
import PyProof.NeKinds
import KE.KRevIter
import PyProof.JoinWalk
import KE.KDictSum
import KE.KSortTup
import KE.KTryMore
import PyProof.ExcArgs
import OpenK.KOwn
import PyProof.ExcBaseAll.ValueError
import KE.KLam
import KE.KNestM
import PyProof.Rows.SetFrom
import PyProof.AttrMissHeap
import KE.KDictOf
import PyProof.TupleKey
import PyProof.DictRoadsH
import PyProof.MeetsDict
import KE.KItemsList
import KE.KUnpack
import PySem.Challenge.RW_loomwright_k32_whole_woven_afresh
set_option Elab.async false
set_option linter.all false
set_option maxRecDepth 100000
set_option genSizeOf false
set_option bootstrap.genMatcherCode false
set_option compiler.extract_closed false
set_option maxHeartbeats 4000000
noncomputable section
open PySem renaming wpAny_bind → Aa0, wpAny_pure → Aa5, wpAny_callSpecial?_slot → Ab4, wpAny_field → Ab8, wpAny_call_entry → Ab9, wpAny_setField_rec → Ac1, wpAny_holding → Ad5, wpAny_seqItems → Ad8, wpAny_newObj_type → Ae3, wpAny_mono → Af1, wpAny_attempt → Af7, wpAny_truthy_bool → Ag8, wpAny_updateSeq_pair → Ah3, wpAny_ite_split → Ah5, wpAny_isInstance → Ah8, wpAny_Call_Name_kw → Ah9
open List renaming length_map → Aa1, getD_eq_getElem?_getD → Aa2, getElem?_eq_getElem → Aa4, range → Aa9, size_toArray → Ab0, mem_cons → Ab2, replicate → Ab5, length_append → Ac0, mem_map → Ac3, getElem?_map → Ac4, length_cons → Ac6, not_mem_nil → Ac7, mem_append_right → Ac8, mem_cons_of_mem → Ac9, mem_cons_self → Ad1, getElem?_eq_some_iff → Ad4, length_range → Ad6, map_append → Ae0, map_map → Ae1, getElem?_append_right → Ae8, mem_range → Ae9, getElem?_append_left → Af0, eraseIdx_eq_take_drop_succ → Af3, take_of_length_le → Af5, length_take → Af6, length_filter_le → Af9, mem_filter → Ag0, range_succ → Ag2, filter_append → Ag3, length_eraseIdx → Ag4, lookup_cons → Ag5, getElem_mem → Ag6, map_cons → Ag9, forIn_cons → Ah1, ext_getElem → Ah7, forIn_nil → Ai0
open PySem.Heap renaming get?_push_of_some → Aa3, get?_push_size → Aa6, lt_size → Aa8, size_push → Ad7, get?_update_self → Af2, get?_update_other → Af4, get?_push_cases → Ah2
open Nat renaming le_refl → Aa7, lt_of_lt_of_le → Ab3, ne_of_lt → Ab6, le_trans → Ac5, zero_le → Ad3, testBit_lt_two_pow → Ae6, pow_le_pow_right → Ae7, ne_of_gt → Ah0, lt_or_ge → Ah4
open Bool renaming false_ne_true → Ab1, eq_iff_iff → Ad0, and_eq_true → Ad9, false_eq_true → Ag1
open Array renaming getElem?_eq_getElem → Ab7, length_toList → Ad2, getElem?_toList → Af8, getElem?_eq_none → Ag7
open Int renaming toNat_natCast → Ac2, emod_nonneg → Ae4, emod_lt_of_pos → Ae5
open Option renaming some → Ae2, map_eq_some_iff → Ah6
namespace L2
open PySem
def Aw (s:Stmt) (j:Nat):Stmt:=match s with
  | .ClassDef _ _ _ body _ _ _ _ _ _ _=>body.getD j (.Pass ⟨0,0,0,0⟩)
  | _=> .Pass ⟨0,0,0,0⟩
def Gf (s:Stmt):Arguments:=match s with
  | .FunctionDef _ a _ _ _ _ _ _ _ _=>a
  | _=>{ posonlyargs:=[],args:=[],vararg:=none,kwonlyargs:=[],kw_defaults:=[],kwarg:=none,defaults:=[] }
def E7 (s:Stmt):List Stmt:=match s with
  | .FunctionDef _ _ b _ _ _ _ _ _ _=>b
  | _=>[]
def Ah (s:Stmt):Scope:=match s with
  | .FunctionDef _ _ _ _ _ _ sc _ _ _=>sc
  | _=>{ kind:= .function,names:=[],isGenerator:=false,isCoroutine:=false }
end L2
namespace K32
open PySem
def top (i:Nat):Stmt:=PySem.Challenge.pw_loomwright_k32_whole_woven_afresh.main.body.getD i (.Pass ⟨0,0,0,0⟩)
end K32
namespace HX
open PySem PySem.W PySem.Calls PyProof.Rows
def topT (tb:String->Option Builtin) (p:Program) (w:World) (n₀:Nat) (ann:Option Value):Nat->SharedT->Thread->Option SharedT
  | 0,_,_=>none
  | n+1,s,t=>match through t with
    | true=>some s
    | false=>match stepOk n₀ ann t with
      | false=>none
      | true=>match stepT (denote tb) p w s t with
        | some (s',t')=>topT tb p w n₀ ann n s' t'
        | none=>none
theorem topT_of {tb:String->Option Builtin} {p:Program} {w:World} {n₀:Nat} {ann:Option Value}:∀ {n:Nat} {s s':SharedT} {t:Thread},topT tb p w n₀ ann n s t=some s'->topRun tb p w n₀ ann n s.abs t=some s'.abs
  | 0,_,_,_,h=>by cases h
  | n+1,s,s',t,h=>by
    unfold topT at h;unfold topRun;cases ht:through t with
    | true=>rw [ht] at h;cases h;rfl
    | false=>
      rw [ht] at h;cases hk:stepOk n₀ ann t with
      | false=>rw [hk] at h;cases h
      | true=>
        rw [hk] at h;cases hs:stepT (denote tb) p w s t with
        | none=>rw [hs] at h;cases h
        | some x=>
          obtain ⟨s2,t2⟩:=x;rw [hs] at h;dsimp only;rw [stepT_spec hs];exact topT_of h
def ofL:List Obj->Nat->BT->BT
  | [],_,t=>t
  | o::r,i,t=>ofL r (i+1) (t.ins i o)
def bootT (P:Params):BT:=ofL (boot_heap P).objs.toList 0 .nil
def fn0 (name qual:Str) (a:Arguments) (b:List Stmt) (sc:Scope):FuncData:=
  { name,qualname:=qual,params:=a,body:= .stmts b,scope:=sc,globals:=0,closure:=[],defaults:= .none,kwdefaults:= .none }
theorem left_run {p q:Program} {loose:List Str} {Xt:Shared->Bool} {α:Type} {Yf:Shared->α} {Ya:World->α} {N:Nat} {g0:Bool}
    (e:opening p=plainProg p.main.scope.names) (hN:Nat.ble 600 N=true) (f:∀ s,fenceModules? p s=some s)
    (hb:∀ P:Params,(absHeap (bootT P) 11 {},boot_drawn,(boot_heap P).isNs mainGlobals,(boot_heap P).objs.size,(boot_heap P).nsMap mainGlobals "__annotations__")=(boot_heap P,boot_drawn,true,11,some (.ref 6)))
    (run:∀ (w:World) (os:OsState),∃ s:Shared,topRun treeTable p w 11 (some (.ref 6)) N (⟨bootT w.params,11,{},Array.mk [],boot_drawn,boot_toks,os⟩:SharedT).abs (topStub p)=some s/\((staticsOk (importedModules p.main.body) (boot_heap w.params) s.heap&&namesBound p s.heap&&gensDone s&&laidKept (boot_heap w.params) s.heap),openSeen q loose (importedModules p.main.body) Xt g0 s,Yf s)=(true,openGood q loose,Ya w)):LeftO p q loose Xt Yf Ya N g0:=λ w=>by
  obtain ⟨⟨h,gs,d,k,os⟩,e1,e'⟩:=Ah6.mp (boot_open (p:=p) (N:=N) e hN f w);obtain ⟨rfl,rfl,rfl,rfl⟩:h=boot_heap w.params/\gs=Array.mk []/\d=boot_drawn/\k=boot_toks:=by simpa using e'
  have hb':=hb w.params;simp only [Prod.mk.injEq] at hb';obtain ⟨b1,_,b2,b3,b4⟩:=hb';obtain ⟨s,r,l⟩:=run w os;obtain ⟨l1,l2,l3⟩:_/\_/\_:=by simpa only [Prod.mk.injEq] using l
  have b0:(⟨bootT w.params,11,{},Array.mk [],boot_drawn,boot_toks,os⟩:SharedT).abs=⟨boot_heap w.params,Array.mk [],boot_drawn,boot_toks,os⟩:=by
    show (⟨absHeap (bootT w.params) 11 {},_,_,_,_⟩:Shared)=_;rw [b1]
  rw [b0] at r;have t:topFrom treeTable p w N ⟨boot_heap w.params,Array.mk [],boot_drawn,boot_toks,os⟩=some s:=by
    unfold topFrom;dsimp only;rw [b2,b3,b4];show Option.bind (topRun treeTable p w 11 (some (.ref 6)) N ⟨boot_heap w.params,Array.mk [],boot_drawn,boot_toks,os⟩ (topStub p)) _=_;rw [r];show (match staticsOk (importedModules p.main.body) (boot_heap w.params) s.heap&&namesBound p s.heap&&gensDone s&&laidKept (boot_heap w.params) s.heap with | true=>_ | false=>_)=_;rw [l1]
  unfold openEnds;rw [e1];show (topFrom treeTable p w N _).map _=_;rw [t];exact congrArg some (Prod.ext l2 l3)
theorem three {α β γ:Type} {a a':α} {b b':β} {c c':γ} (h:(a,c)=(a',c')) (k:b=b'):(a,b,c)=(a',b',c'):=by
  cases h;cases k;rfl
theorem hb (P:Params):(absHeap (bootT P) 11 {},boot_drawn,(boot_heap P).isNs mainGlobals,(boot_heap P).objs.size,(boot_heap P).nsMap mainGlobals "__annotations__")=(boot_heap P,boot_drawn,true,11,some (.ref 6)):=by kernel_rfl
end HX
namespace K32
open PySem L2 PySem.W PySem.Calls PyProof.Rows
abbrev Ob:=Params->Obj
abbrev dE (P:Params) (s:Str) (t:Tok) (v:Value):DictEntry:=⟨PyData.keyHash P s, .str s t,v⟩
abbrev dR (P:Params) (s:Str) (t:Tok) (a:Addr):DictEntry:=⟨PyData.keyHash P s, .str s t, .ref a⟩
abbrev tu (xs:Array Value):Obj:=⟨.type "tuple",none, .seq xs 0, #[]⟩
abbrev di (es:Array DictEntry) (n:Nat):Obj:=⟨.type "dict",none, .dict es n, #[]⟩
abbrev f0 (n q:Str) (st:Stmt):FuncData:=HX.fn0 n q (Gf st) (E7 st) (Ah st)
abbrev fo (n q:Str) (st:Stmt) (m:Str) (t:Tok) (c:Addr):Obj:=⟨.type "function",none, .func (fnOf n q (Gf st) (E7 st) (Ah st) .none .none .none (.str m t) none (.ref c) .none), #[]⟩
abbrev co (n q:Str) (t:Tok) (l ac nl:Int) (a:Addr) (b:Bool) (r:Addr) (c d e:Value) (k:Int) (t4:Tok):Obj:=⟨.type "code",none, .fields #[.str n t, .str q (t+1), .str "/claim/cut.py" (t+2), .int l 0, .int ac 0, .int 0 0, .int 0 0, .int nl 0, .ref a, .bool b, .int 181 0, .ref r, .none,c,d,e, .int k 0, .int l 0, .str "/claim/cut.py" t4], #[]⟩
def o3:Ob:=λ P=>di #[dE P "__name__" 165 (.str "law_loomwright_k32_whole_woven_afresh" 792),dE P "__doc__" 166 .none,dE P "__package__" 167 .none,dE P "__loader__" 168 (.builtin "__main__.__loader__#opaque"),dE P "__spec__" 169 .none,dR P "__annotations__" 170 6,dR P "__builtins__" 171 4,dE P "__file__" 173 (.str "/claim/cut.py" 172),dE P "__cached__" 174 .none,dR P "_wall" 193 21,dE P "MOST_SHAFTS" 195 (.int 16 194),dE P "MOST_TREADLES" 197 (.int 16 196),dE P "MOST_ENDS" 199 (.int 60 198),dE P "MOST_PICKS" 201 (.int 60 200),dR P "LoomError" 221 31,dR P "BadDraft" 237 44,dR P "BadCloth" 253 56,dR P "OutOfPlace" 269 68,dE P "COLOURS" 273 (.str "abcdefghijklmnopqrstuvwxyz" 272),dR P "is_whole" 280 77,dR P "is_among" 289 84,dR P "is_colour" 296 91,dR P "PARTS" 306 92,dR P "need" 314 99,dR P "is_list" 323 106,dR P "is_rising" 333 113,dR P "are_rising" 339 118,dR P "are_colours" 345 123,dR P "need_draft" 351 128,dR P "Draft" 404 162,dR P "changed_draft" 413 173,dR P "bit_of" 422 180,dR P "mask_of" 431 187,dR P "mask_to" 438 194,dR P "has_number" 446 201,dR P "numbers_of" 452 206,dR P "union_of" 461 213,dR P "need_cloth" 469 218,dR P "Cloth" 546 277,dR P "lift_by" 554 286,dR P "lifts_of" 560 291,dR P "ends_through" 566 296,dR P "shaft_ends" 572 301,dR P "row_by" 578 306,dR P "woven" 584 311,dE P "WARP" 588 (.str "warp" 587),dE P "WEFT" 590 (.str "weft" 589),dR P "need_place" 598 318,dR P "lists_of" 604 323,dR P "replaced_at" 613 330,dR P "put_at" 622 337,dR P "taken_at" 630 344,dR P "other_places" 636 349,dR P "Hand" 791 457,dR P "_law_mixed" 801 468,dR P "_law_same" 807 473,dR P "_law_cells" 813 478,dR P "_law_numbers" 819 483,dR P "_law_draft" 825 488,dR P "_law_copied" 831 493,dR P "_law_spoilt" 839 500,dR P "_law_made" 853 507,dR P "_law_lifts" 864 514,dR P "_law_woven" 870 519,dR P "_law_deed" 887 526,dR P "_law_behind" 893 531,dR P "_law_done" 902 538,dR P "_law_stands" 910 545,dR P "law" 931 552] 69
def o15:Ob:=λ P=>tu #[]
def o17:Ob:=λ P=>tu #[(.str "k" 190)]
def o18:Ob:=λ P=>tu #[]
def o20:Ob:=λ P=>co "_wall" "_wall" 187 1 1 3 15 true 16 (.ref 17) (.ref 18) (.ref 19) 191 192
def o21:Ob:=λ P=>fo "_wall" "_wall" (top 0) "__main__" 164 20
def o22:Ob:=λ P=>tu #[(.type "ValueError")]
def o29:Ob:=λ P=>tu #[]
def o30:Ob:=λ P=>di #[dE P "__module__" 211 (.str "loomwright.errors" 202),dE P "__firstlineno__" 215 (.int 9 214),dR P "__static_attributes__" 216 29,dR P "__weakref__" 218 32,dE P "__doc__" 219 .none] 3
def o31:Ob:=λ P=>⟨(.type "type"),none,(.cls ⟨"LoomError",[(.type "ValueError")],[(.ref 31),(.type "ValueError"),(.type "Exception"),(.type "BaseException"),(.type "object")],30,"LoomError",true,[],[(.ref 44),(.ref 56),(.ref 68)],false,none,false⟩), #[(some (.ref 22)),none,(some (.str "LoomError" 204)),(some (.str "LoomError" 212)),(some (.builtin "ValueError.__new__")),(some (.bool true))]⟩
def o32:Ob:=λ P=>⟨(.type "getset_descriptor"),none,(.fields #[(.str "__weakref__" 217),(.ref 31),(.builtin "ExceptionGroup.__weakref__"), .none]), #[]⟩
def o35:Ob:=λ P=>tu #[(.ref 31)]
def o42:Ob:=λ P=>tu #[]
def o43:Ob:=λ P=>di #[dE P "__module__" 229 (.str "loomwright.errors" 202),dE P "__firstlineno__" 233 (.int 11 232),dR P "__static_attributes__" 234 42,dE P "__doc__" 235 .none] 2
def o44:Ob:=λ P=>⟨(.type "type"),none,(.cls ⟨"BadDraft",[(.ref 31)],[(.ref 44),(.ref 31),(.type "ValueError"),(.type "Exception"),(.type "BaseException"),(.type "object")],43,"BadDraft",true,[],[],false,none,false⟩), #[(some (.ref 35)),none,(some (.str "BadDraft" 222)),(some (.str "BadDraft" 230)),(some (.builtin "ValueError.__new__")),(some (.bool true))]⟩
def o47:Ob:=λ P=>tu #[(.ref 31)]
def o54:Ob:=λ P=>tu #[]
def o55:Ob:=λ P=>di #[dE P "__module__" 245 (.str "loomwright.errors" 202),dE P "__firstlineno__" 249 (.int 13 248),dR P "__static_attributes__" 250 54,dE P "__doc__" 251 .none] 2
def o56:Ob:=λ P=>⟨(.type "type"),none,(.cls ⟨"BadCloth",[(.ref 31)],[(.ref 56),(.ref 31),(.type "ValueError"),(.type "Exception"),(.type "BaseException"),(.type "object")],55,"BadCloth",true,[],[],false,none,false⟩), #[(some (.ref 47)),none,(some (.str "BadCloth" 238)),(some (.str "BadCloth" 246)),(some (.builtin "ValueError.__new__")),(some (.bool true))]⟩
def o59:Ob:=λ P=>tu #[(.ref 31)]
def o66:Ob:=λ P=>tu #[]
def o67:Ob:=λ P=>di #[dE P "__module__" 261 (.str "loomwright.errors" 202),dE P "__firstlineno__" 265 (.int 15 264),dR P "__static_attributes__" 266 66,dE P "__doc__" 267 .none] 2
def o68:Ob:=λ P=>⟨(.type "type"),none,(.cls ⟨"OutOfPlace",[(.ref 31)],[(.ref 68),(.ref 31),(.type "ValueError"),(.type "Exception"),(.type "BaseException"),(.type "object")],67,"OutOfPlace",true,[],[],false,none,false⟩), #[(some (.ref 59)),none,(some (.str "OutOfPlace" 254)),(some (.str "OutOfPlace" 262)),(some (.builtin "ValueError.__new__")),(some (.bool true))]⟩
def o71:Ob:=λ P=>tu #[]
def o73:Ob:=λ P=>tu #[(.str "thing" 277)]
def o74:Ob:=λ P=>tu #[]
def o76:Ob:=λ P=>co "is_whole" "is_whole" 274 19 1 3 71 true 72 (.ref 73) (.ref 74) (.ref 75) 278 279
def o77:Ob:=λ P=>fo "is_whole" "is_whole" (top 12) "loomwright.words" 270 76
def o78:Ob:=λ P=>tu #[]
def o80:Ob:=λ P=>tu #[(.str "thing" 284),(.str "least" 285),(.str "most" 286)]
def o81:Ob:=λ P=>tu #[]
def o83:Ob:=λ P=>co "is_among" "is_among" 281 21 3 3 78 true 79 (.ref 80) (.ref 81) (.ref 82) 287 288
def o84:Ob:=λ P=>fo "is_among" "is_among" (top 13) "loomwright.words" 270 83
def o85:Ob:=λ P=>tu #[]
def o87:Ob:=λ P=>tu #[(.str "thing" 293)]
def o88:Ob:=λ P=>tu #[]
def o90:Ob:=λ P=>co "is_colour" "is_colour" 290 23 1 3 85 true 86 (.ref 87) (.ref 88) (.ref 89) 294 295
def o91:Ob:=λ P=>fo "is_colour" "is_colour" (top 14) "loomwright.words" 270 90
def o92:Ob:=λ P=>tu #[(.str "shafts" 299),(.str "treadles" 300),(.str "threading" 301),(.str "ties" 302),(.str "treading" 303),(.str "warp" 304),(.str "weft" 305)]
def o93:Ob:=λ P=>tu #[]
def o95:Ob:=λ P=>tu #[(.str "holds" 310),(.str "words" 311)]
def o96:Ob:=λ P=>tu #[]
def o98:Ob:=λ P=>co "need" "need" 307 27 2 3 93 true 94 (.ref 95) (.ref 96) (.ref 97) 312 313
def o99:Ob:=λ P=>fo "need" "need" (top 17) "loomwright.draft" 297 98
def UL:Ob:=λ P=>tu #[]
def Zp:Ob:=λ P=>tu #[(.str "thing" 318),(.str "least" 319),(.str "most" 320)]
def WX:Ob:=λ P=>tu #[]
def Zu:Ob:=λ P=>co "is_list" "is_list" 315 30 3 3 100 true 101 (.ref 102) (.ref 103) (.ref 104) 321 322
def Uu:Ob:=λ P=>fo "is_list" "is_list" (top 18) "loomwright.draft" 297 105
def Wn:Ob:=λ P=>tu #[]
def Ut:Ob:=λ P=>tu #[(.str "thing" 327),(.str "most" 328),(.str "last" 329),(.str "number" 330)]
def VF:Ob:=λ P=>tu #[]
def Vh:Ob:=λ P=>co "is_rising" "is_rising" 324 32 2 3 107 true 108 (.ref 109) (.ref 110) (.ref 111) 331 332
def YJ:Ob:=λ P=>fo "is_rising" "is_rising" (top 19) "loomwright.draft" 297 112
def W6:Ob:=λ P=>tu #[]
def Yl:Ob:=λ P=>co "are_rising" "are_rising" 334 41 2 3 114 true 115 .none .none (.ref 116) 337 338
def Xm:Ob:=λ P=>fo "are_rising" "are_rising" (top 20) "loomwright.draft" 297 117
def UH:Ob:=λ P=>tu #[]
def UV:Ob:=λ P=>co "are_colours" "are_colours" 340 43 2 3 119 true 120 .none .none (.ref 121) 343 344
def UR:Ob:=λ P=>fo "are_colours" "are_colours" (top 21) "loomwright.draft" 297 122
def UZ:Ob:=λ P=>tu #[]
def X8:Ob:=λ P=>co "need_draft" "need_draft" 346 45 7 3 124 true 125 .none .none (.ref 126) 349 350
def U0:Ob:=λ P=>fo "need_draft" "need_draft" (top 22) "loomwright.draft" 297 127
def Wc:Ob:=λ P=>tu #[]
def U3:Ob:=λ P=>co "__init__" "Draft.__init__" 364 58 8 3 136 true 137 .none .none (.ref 138) 367 368
def W0:Ob:=λ P=>fo "__init__" "Draft.__init__" (Aw (top 23) 0) "loomwright.draft" 297 139
def Yv:Ob:=λ P=>tu #[]
def Wh:Ob:=λ P=>co "told" "Draft.told" 370 68 1 3 141 true 142 .none .none (.ref 143) 373 374
def XH:Ob:=λ P=>fo "told" "Draft.told" (Aw (top 23) 1) "loomwright.draft" 297 144
def Yo:Ob:=λ P=>tu #[]
def ZV:Ob:=λ P=>tu #[(.str "self" 379)]
def Yi:Ob:=λ P=>tu #[]
def Xz:Ob:=λ P=>co "ends" "Draft.ends" 376 71 1 3 146 true 147 (.ref 148) (.ref 149) (.ref 150) 380 381
def Uz:Ob:=λ P=>fo "ends" "Draft.ends" (Aw (top 23) 2) "loomwright.draft" 297 151
def Xj:Ob:=λ P=>tu #[]
def TZ:Ob:=λ P=>tu #[(.str "self" 386)]
def Uo:Ob:=λ P=>tu #[]
def ZY:Ob:=λ P=>co "picks" "Draft.picks" 383 74 1 3 153 true 154 (.ref 155) (.ref 156) (.ref 157) 387 388
def Ug:Ob:=λ P=>fo "picks" "Draft.picks" (Aw (top 23) 3) "loomwright.draft" 297 158
def UY:Ob:=λ P=>tu #[(.str "shafts" 390),(.str "threading" 391),(.str "ties" 392),(.str "treading" 393),(.str "treadles" 394),(.str "warp" 395),(.str "weft" 396)]
def X0:Ob:=λ P=>di #[dE P "__module__" 359 (.str "loomwright.draft" 297),dE P "__firstlineno__" 363 (.int 56 362),dR P "__init__" 369 140,dR P "told" 375 145,dR P "ends" 382 152,dR P "picks" 389 159,dR P "__static_attributes__" 397 160,dR P "__dict__" 399 163,dR P "__weakref__" 401 164,dE P "__doc__" 402 .none] 4
def UB:Ob:=λ P=>⟨(.type "type"),none,(.cls ⟨"Draft",[(.type "object")],[(.ref 162),(.type "object")],161,"Draft",true,[],[],false,none,false⟩), #[none,none,(some (.str "Draft" 352)),(some (.str "Draft" 360)),(some (.builtin "object.__new__")),(some (.bool true))]⟩
def Vc:Ob:=λ P=>⟨(.type "getset_descriptor"),none,(.fields #[(.str "__dict__" 398),(.ref 162),(.builtin "function.__dict__"),(.builtin "function.__dict__#set")]), #[]⟩
def XF:Ob:=λ P=>⟨(.type "getset_descriptor"),none,(.fields #[(.str "__weakref__" 400),(.ref 162),(.builtin "ExceptionGroup.__weakref__"), .none]), #[]⟩
def Vo:Ob:=λ P=>tu #[]
def U6:Ob:=λ P=>tu #[(.str "draft" 408),(.str "changes" 409),(.str "parts" 410)]
def ZJ:Ob:=λ P=>tu #[]
def UC:Ob:=λ P=>co "changed_draft" "changed_draft" 405 76 2 3 167 true 168 (.ref 169) (.ref 170) (.ref 171) 411 412
def YL:Ob:=λ P=>fo "changed_draft" "changed_draft" (top 24) "loomwright.draft" 297 172
def Vj:Ob:=λ P=>tu #[]
def TV:Ob:=λ P=>tu #[(.str "number" 419)]
def Zs:Ob:=λ P=>tu #[]
def Y3:Ob:=λ P=>co "bit_of" "bit_of" 416 81 1 3 174 true 175 (.ref 176) (.ref 177) (.ref 178) 420 421
def WJ:Ob:=λ P=>fo "bit_of" "bit_of" (top 26) "loomwright.masks" 414 179
def Y7:Ob:=λ P=>tu #[]
def WP:Ob:=λ P=>tu #[(.str "numbers" 426),(.str "mask" 427),(.str "number" 428)]
def Vq:Ob:=λ P=>tu #[]
def Yy:Ob:=λ P=>co "mask_of" "mask_of" 423 83 1 3 181 true 182 (.ref 183) (.ref 184) (.ref 185) 429 430
def Xb:Ob:=λ P=>fo "mask_of" "mask_of" (top 27) "loomwright.masks" 414 186
def Xr:Ob:=λ P=>tu #[]
def VE:Ob:=λ P=>tu #[(.str "most" 435)]
def WE:Ob:=λ P=>tu #[]
def Z4:Ob:=λ P=>co "mask_to" "mask_to" 432 88 1 3 188 true 189 (.ref 190) (.ref 191) (.ref 192) 436 437
def WC:Ob:=λ P=>fo "mask_to" "mask_to" (top 28) "loomwright.masks" 414 193
def ZK:Ob:=λ P=>tu #[]
def VX:Ob:=λ P=>tu #[(.str "mask" 442),(.str "number" 443)]
def Zy:Ob:=λ P=>tu #[]
def VN:Ob:=λ P=>co "has_number" "has_number" 439 90 2 3 195 true 196 (.ref 197) (.ref 198) (.ref 199) 444 445
def Z6:Ob:=λ P=>fo "has_number" "has_number" (top 29) "loomwright.masks" 414 200
def Uh:Ob:=λ P=>tu #[]
def Us:Ob:=λ P=>co "numbers_of" "numbers_of" 447 92 1 3 202 true 203 .none .none (.ref 204) 450 451
def Zd:Ob:=λ P=>fo "numbers_of" "numbers_of" (top 30) "loomwright.masks" 414 205
def Wt:Ob:=λ P=>tu #[]
def Z1:Ob:=λ P=>tu #[(.str "masks" 456),(.str "union" 457),(.str "mask" 458)]
def VO:Ob:=λ P=>tu #[]
def TR:Ob:=λ P=>co "union_of" "union_of" 453 94 1 3 207 true 208 (.ref 209) (.ref 210) (.ref 211) 459 460
def Yt:Ob:=λ P=>fo "union_of" "union_of" (top 31) "loomwright.masks" 414 212
def XJ:Ob:=λ P=>tu #[]
def Yb:Ob:=λ P=>co "need_cloth" "need_cloth" 464 100 2 3 214 true 215 .none .none (.ref 216) 467 468
def XW:Ob:=λ P=>fo "need_cloth" "need_cloth" (top 33) "loomwright.cloth" 462 217
def Zn:Ob:=λ P=>tu #[]
def Zo:Ob:=λ P=>tu #[(.str "self" 485),(.str "ends" 486),(.str "rows" 487)]
def VT:Ob:=λ P=>tu #[]
def Yw:Ob:=λ P=>co "__init__" "Cloth.__init__" 482 109 3 3 226 true 227 (.ref 228) (.ref 229) (.ref 230) 488 489
def ZP:Ob:=λ P=>fo "__init__" "Cloth.__init__" (Aw (top 34) 0) "loomwright.cloth" 462 231
def Ux:Ob:=λ P=>tu #[]
def V5:Ob:=λ P=>tu #[(.str "self" 494)]
def Xf:Ob:=λ P=>tu #[]
def Wb:Ob:=λ P=>co "told" "Cloth.told" 491 114 1 3 233 true 234 (.ref 235) (.ref 236) (.ref 237) 495 496
def Uj:Ob:=λ P=>fo "told" "Cloth.told" (Aw (top 34) 1) "loomwright.cloth" 462 238
def U8:Ob:=λ P=>tu #[]
def YA:Ob:=λ P=>tu #[(.str "self" 501)]
def Y4:Ob:=λ P=>tu #[]
def Xu:Ob:=λ P=>co "ends" "Cloth.ends" 498 117 1 3 240 true 241 (.ref 242) (.ref 243) (.ref 244) 502 503
def Zq:Ob:=λ P=>fo "ends" "Cloth.ends" (Aw (top 34) 2) "loomwright.cloth" 462 245
def ZQ:Ob:=λ P=>tu #[]
def Zg:Ob:=λ P=>tu #[(.str "self" 508)]
def YR:Ob:=λ P=>tu #[]
def ZH:Ob:=λ P=>co "picks" "Cloth.picks" 505 120 1 3 247 true 248 (.ref 249) (.ref 250) (.ref 251) 509 510
def Zl:Ob:=λ P=>fo "picks" "Cloth.picks" (Aw (top 34) 3) "loomwright.cloth" 462 252
def Xw:Ob:=λ P=>tu #[]
def Ze:Ob:=λ P=>tu #[(.str "self" 515),(.str "pick" 516)]
def Wf:Ob:=λ P=>tu #[]
def YT:Ob:=λ P=>co "row_at" "Cloth.row_at" 512 123 2 3 254 true 255 (.ref 256) (.ref 257) (.ref 258) 517 518
def Y0:Ob:=λ P=>fo "row_at" "Cloth.row_at" (Aw (top 34) 4) "loomwright.cloth" 462 259
def YM:Ob:=λ P=>tu #[]
def X7:Ob:=λ P=>tu #[(.str "self" 523),(.str "end" 524)]
def Wl:Ob:=λ P=>tu #[]
def UF:Ob:=λ P=>co "column_at" "Cloth.column_at" 520 126 2 3 261 true 262 (.ref 263) (.ref 264) (.ref 265) 525 526
def Zk:Ob:=λ P=>fo "column_at" "Cloth.column_at" (Aw (top 34) 5) "loomwright.cloth" 462 266
def Um:Ob:=λ P=>tu #[]
def YU:Ob:=λ P=>tu #[(.str "self" 531),(.str "end" 532),(.str "pick" 533)]
def VC:Ob:=λ P=>tu #[]
def XZ:Ob:=λ P=>co "is_up" "Cloth.is_up" 528 129 3 3 268 true 269 (.ref 270) (.ref 271) (.ref 272) 534 535
def Zw:Ob:=λ P=>fo "is_up" "Cloth.is_up" (Aw (top 34) 6) "loomwright.cloth" 462 273
def Yn:Ob:=λ P=>tu #[(.str "rows" 537),(.str "width" 538)]
def VH:Ob:=λ P=>di #[dE P "__module__" 477 (.str "loomwright.cloth" 462),dE P "__firstlineno__" 481 (.int 107 480),dR P "__init__" 490 232,dR P "told" 497 239,dR P "ends" 504 246,dR P "picks" 511 253,dR P "row_at" 519 260,dR P "column_at" 527 267,dR P "is_up" 536 274,dR P "__static_attributes__" 539 275,dR P "__dict__" 541 278,dR P "__weakref__" 543 279,dE P "__doc__" 544 .none] 4
def WI:Ob:=λ P=>⟨(.type "type"),none,(.cls ⟨"Cloth",[(.type "object")],[(.ref 277),(.type "object")],276,"Cloth",true,[],[],false,none,false⟩), #[none,none,(some (.str "Cloth" 470)),(some (.str "Cloth" 478)),(some (.builtin "object.__new__")),(some (.bool true))]⟩
def ZX:Ob:=λ P=>⟨(.type "getset_descriptor"),none,(.fields #[(.str "__dict__" 540),(.ref 277),(.builtin "function.__dict__"),(.builtin "function.__dict__#set")]), #[]⟩
def Zc:Ob:=λ P=>⟨(.type "getset_descriptor"),none,(.fields #[(.str "__weakref__" 542),(.ref 277),(.builtin "ExceptionGroup.__weakref__"), .none]), #[]⟩
def WM:Ob:=λ P=>tu #[]
def Wv:Ob:=λ P=>co "lift_by" "lift_by" 549 132 2 3 282 true 283 .none .none (.ref 284) 552 553
def YD:Ob:=λ P=>fo "lift_by" "lift_by" (top 36) "loomwright.weaving" 547 285
def V8:Ob:=λ P=>tu #[]
def VW:Ob:=λ P=>co "lifts_of" "lifts_of" 555 134 1 3 287 true 288 .none .none (.ref 289) 558 559
def UP:Ob:=λ P=>fo "lifts_of" "lifts_of" (top 37) "loomwright.weaving" 547 290
def X1:Ob:=λ P=>tu #[]
def Xl:Ob:=λ P=>co "ends_through" "ends_through" 561 137 2 3 292 true 293 .none .none (.ref 294) 564 565
def Z2:Ob:=λ P=>fo "ends_through" "ends_through" (top 38) "loomwright.weaving" 547 295
def Vt:Ob:=λ P=>tu #[]
def ZF:Ob:=λ P=>co "shaft_ends" "shaft_ends" 567 139 2 3 297 true 298 .none .none (.ref 299) 570 571
def Yc:Ob:=λ P=>fo "shaft_ends" "shaft_ends" (top 39) "loomwright.weaving" 547 300
def Y9:Ob:=λ P=>tu #[]
def Xg:Ob:=λ P=>co "row_by" "row_by" 573 141 2 3 302 true 303 .none .none (.ref 304) 576 577
def ZT:Ob:=λ P=>fo "row_by" "row_by" (top 40) "loomwright.weaving" 547 305
def YZ:Ob:=λ P=>tu #[]
def XG:Ob:=λ P=>co "woven" "woven" 579 143 1 3 307 true 308 .none .none (.ref 309) 582 583
def Wi:Ob:=λ P=>fo "woven" "woven" (top 41) "loomwright.weaving" 547 310
def Zz:Ob:=λ P=>tu #[]
def UG:Ob:=λ P=>tu #[(.str "thing" 594),(.str "most" 595)]
def TY:Ob:=λ P=>tu #[]
def Wr:Ob:=λ P=>co "need_place" "need_place" 591 149 2 3 312 true 313 (.ref 314) (.ref 315) (.ref 316) 596 597
def Vf:Ob:=λ P=>fo "need_place" "need_place" (top 45) "loomwright.hand" 585 317
def YF:Ob:=λ P=>tu #[]
def VG:Ob:=λ P=>co "lists_of" "lists_of" 599 152 1 3 319 true 320 .none .none (.ref 321) 602 603
def Ve:Ob:=λ P=>fo "lists_of" "lists_of" (top 46) "loomwright.hand" 585 322
def XU:Ob:=λ P=>tu #[]
def UT:Ob:=λ P=>tu #[(.str "members" 608),(.str "place" 609),(.str "thing" 610)]
def XM:Ob:=λ P=>tu #[]
def Xo:Ob:=λ P=>co "replaced_at" "replaced_at" 605 154 3 3 324 true 325 (.ref 326) (.ref 327) (.ref 328) 611 612
def Xa:Ob:=λ P=>fo "replaced_at" "replaced_at" (top 47) "loomwright.hand" 585 329
def Vw:Ob:=λ P=>tu #[]
def WK:Ob:=λ P=>tu #[(.str "members" 617),(.str "place" 618),(.str "thing" 619)]
def ZR:Ob:=λ P=>tu #[]
def Zi:Ob:=λ P=>co "put_at" "put_at" 614 156 3 3 331 true 332 (.ref 333) (.ref 334) (.ref 335) 620 621
def Zf:Ob:=λ P=>fo "put_at" "put_at" (top 48) "loomwright.hand" 585 336
def U5:Ob:=λ P=>tu #[]
def T4:Ob:=λ P=>tu #[(.str "members" 626),(.str "place" 627)]
def Vs:Ob:=λ P=>tu #[]
def UQ:Ob:=λ P=>co "taken_at" "taken_at" 623 158 2 3 338 true 339 (.ref 340) (.ref 341) (.ref 342) 628 629
def XS:Ob:=λ P=>fo "taken_at" "taken_at" (top 49) "loomwright.hand" 585 343
def WN:Ob:=λ P=>tu #[]
def ZA:Ob:=λ P=>co "other_places" "other_places" 631 160 2 3 345 true 346 .none .none (.ref 347) 634 635
def WT:Ob:=λ P=>fo "other_places" "other_places" (top 50) "loomwright.hand" 585 348
def VQ:Ob:=λ P=>tu #[]
def VR:Ob:=λ P=>tu #[(.str "self" 652),(.str "draft" 653)]
def Vr:Ob:=λ P=>tu #[]
def Ym:Ob:=λ P=>co "__init__" "Hand.__init__" 649 164 2 3 357 true 358 (.ref 359) (.ref 360) (.ref 361) 654 655
def Vk:Ob:=λ P=>fo "__init__" "Hand.__init__" (Aw (top 51) 0) "loomwright.hand" 585 362
def WB:Ob:=λ P=>tu #[]
def Vi:Ob:=λ P=>tu #[(.str "self" 660)]
def Yp:Ob:=λ P=>tu #[]
def XX:Ob:=λ P=>co "draft" "Hand.draft" 657 168 1 3 364 true 365 (.ref 366) (.ref 367) (.ref 368) 661 662
def ZM:Ob:=λ P=>fo "draft" "Hand.draft" (Aw (top 51) 1) "loomwright.hand" 585 369
def Vy:Ob:=λ P=>tu #[]
def Wd:Ob:=λ P=>tu #[(.str "self" 667)]
def Za:Ob:=λ P=>tu #[]
def X6:Ob:=λ P=>co "cloth" "Hand.cloth" 664 171 1 3 371 true 372 (.ref 373) (.ref 374) (.ref 375) 668 669
def YG:Ob:=λ P=>fo "cloth" "Hand.cloth" (Aw (top 51) 2) "loomwright.hand" 585 376
def ZN:Ob:=λ P=>tu #[]
def Yu:Ob:=λ P=>tu #[(.str "self" 674),(.str "later" 675),(.str "picks" 676),(.str "ends" 677)]
def Uw:Ob:=λ P=>tu #[]
def Xy:Ob:=λ P=>co "bring" "Hand.bring" 671 174 4 3 378 true 379 (.ref 380) (.ref 381) (.ref 382) 678 679
def Zb:Ob:=λ P=>fo "bring" "Hand.bring" (Aw (top 51) 3) "loomwright.hand" 585 383
def WH:Ob:=λ P=>tu #[]
def Ur:Ob:=λ P=>tu #[(.str "self" 684),(.str "changes" 685),(.str "later" 686),(.str "picks" 687),(.str "ends" 688)]
def U2:Ob:=λ P=>tu #[]
def YQ:Ob:=λ P=>co "alter" "Hand.alter" 681 178 2 3 385 true 386 (.ref 387) (.ref 388) (.ref 389) 689 690
def Wg:Ob:=λ P=>fo "alter" "Hand.alter" (Aw (top 51) 4) "loomwright.hand" 585 390
def Vz:Ob:=λ P=>tu #[]
def Ul:Ob:=λ P=>tu #[(.str "self" 695),(.str "end" 696),(.str "shaft" 697)]
def X4:Ob:=λ P=>tu #[]
def Xk:Ob:=λ P=>co "thread" "Hand.thread" 692 185 3 3 392 true 393 (.ref 394) (.ref 395) (.ref 396) 698 699
def Xc:Ob:=λ P=>fo "thread" "Hand.thread" (Aw (top 51) 5) "loomwright.hand" 585 397
def U1:Ob:=λ P=>tu #[]
def Zj:Ob:=λ P=>tu #[(.str "self" 704),(.str "treadle" 705),(.str "shafts" 706)]
def Zv:Ob:=λ P=>tu #[]
def Vu:Ob:=λ P=>co "tie" "Hand.tie" 701 189 3 3 399 true 400 (.ref 401) (.ref 402) (.ref 403) 707 708
def Wx:Ob:=λ P=>fo "tie" "Hand.tie" (Aw (top 51) 6) "loomwright.hand" 585 404
def Xi:Ob:=λ P=>tu #[]
def WU:Ob:=λ P=>tu #[(.str "self" 713),(.str "pick" 714),(.str "treadles" 715)]
def XI:Ob:=λ P=>tu #[]
def YI:Ob:=λ P=>co "tread" "Hand.tread" 710 193 3 3 406 true 407 (.ref 408) (.ref 409) (.ref 410) 716 717
def UD:Ob:=λ P=>fo "tread" "Hand.tread" (Aw (top 51) 7) "loomwright.hand" 585 411
def WZ:Ob:=λ P=>tu #[]
def Uy:Ob:=λ P=>tu #[(.str "self" 722),(.str "side" 723),(.str "number" 724),(.str "colour" 725),(.str "colours" 726)]
def VD:Ob:=λ P=>tu #[]
def ZG:Ob:=λ P=>co "colour" "Hand.colour" 719 197 4 3 413 true 414 (.ref 415) (.ref 416) (.ref 417) 727 728
def X2:Ob:=λ P=>fo "colour" "Hand.colour" (Aw (top 51) 8) "loomwright.hand" 585 418
def UK:Ob:=λ P=>tu #[]
def ZU:Ob:=λ P=>tu #[(.str "self" 733),(.str "end" 734),(.str "shaft" 735),(.str "colour" 736),(.str "changes" 737),(.str "later" 738)]
def ZC:Ob:=λ P=>tu #[]
def Wo:Ob:=λ P=>co "put_end" "Hand.put_end" 730 204 4 3 420 true 421 (.ref 422) (.ref 423) (.ref 424) 739 740
def Vl:Ob:=λ P=>fo "put_end" "Hand.put_end" (Aw (top 51) 9) "loomwright.hand" 585 425
def ZS:Ob:=λ P=>tu #[]
def UA:Ob:=λ P=>tu #[(.str "self" 745),(.str "pick" 746),(.str "treadles" 747),(.str "colour" 748),(.str "treading" 749),(.str "later" 750)]
def Wp:Ob:=λ P=>tu #[]
def WG:Ob:=λ P=>co "put_pick" "Hand.put_pick" 742 211 4 3 427 true 428 (.ref 429) (.ref 430) (.ref 431) 751 752
def Xx:Ob:=λ P=>fo "put_pick" "Hand.put_pick" (Aw (top 51) 10) "loomwright.hand" 585 432
def VJ:Ob:=λ P=>tu #[]
def TN:Ob:=λ P=>tu #[(.str "self" 757),(.str "end" 758),(.str "changes" 759),(.str "later" 760)]
def Y2:Ob:=λ P=>tu #[]
def Vp:Ob:=λ P=>co "take_end" "Hand.take_end" 754 218 2 3 434 true 435 (.ref 436) (.ref 437) (.ref 438) 761 762
def XD:Ob:=λ P=>fo "take_end" "Hand.take_end" (Aw (top 51) 11) "loomwright.hand" 585 439
def YB:Ob:=λ P=>tu #[]
def W5:Ob:=λ P=>tu #[(.str "self" 767),(.str "pick" 768),(.str "treading" 769),(.str "later" 770)]
def W8:Ob:=λ P=>tu #[]
def Wz:Ob:=λ P=>co "take_pick" "Hand.take_pick" 764 225 2 3 441 true 442 (.ref 443) (.ref 444) (.ref 445) 771 772
def Vg:Ob:=λ P=>fo "take_pick" "Hand.take_pick" (Aw (top 51) 12) "loomwright.hand" 585 446
def Xs:Ob:=λ P=>tu #[]
def XB:Ob:=λ P=>tu #[(.str "self" 777),(.str "deed" 778)]
def Xn:Ob:=λ P=>tu #[]
def U4:Ob:=λ P=>co "undo" "Hand.undo" 774 232 1 3 448 true 449 (.ref 450) (.ref 451) (.ref 452) 779 780
def UJ:Ob:=λ P=>fo "undo" "Hand.undo" (Aw (top 51) 13) "loomwright.hand" 585 453
def W4:Ob:=λ P=>tu #[(.str "held" 782),(.str "past" 783)]
def W2:Ob:=λ P=>di #[dE P "__module__" 644 (.str "loomwright.hand" 585),dE P "__firstlineno__" 648 (.int 162 647),dR P "__init__" 656 363,dR P "draft" 663 370,dR P "cloth" 670 377,dR P "bring" 680 384,dR P "alter" 691 391,dR P "thread" 700 398,dR P "tie" 709 405,dR P "tread" 718 412,dR P "colour" 729 419,dR P "put_end" 741 426,dR P "put_pick" 753 433,dR P "take_end" 763 440,dR P "take_pick" 773 447,dR P "undo" 781 454,dR P "__static_attributes__" 784 455,dR P "__dict__" 786 458,dR P "__weakref__" 788 459,dE P "__doc__" 789 .none] 4
def Xv:Ob:=λ P=>⟨(.type "type"),none,(.cls ⟨"Hand",[(.type "object")],[(.ref 457),(.type "object")],456,"Hand",true,[],[],false,none,false⟩), #[none,none,(some (.str "Hand" 637)),(some (.str "Hand" 645)),(some (.builtin "object.__new__")),(some (.bool true))]⟩
def Ww:Ob:=λ P=>⟨(.type "getset_descriptor"),none,(.fields #[(.str "__dict__" 785),(.ref 457),(.builtin "function.__dict__"),(.builtin "function.__dict__#set")]), #[]⟩
def YW:Ob:=λ P=>⟨(.type "getset_descriptor"),none,(.fields #[(.str "__weakref__" 787),(.ref 457),(.builtin "ExceptionGroup.__weakref__"), .none]), #[]⟩
def XY:Ob:=λ P=>tu #[]
def YE:Ob:=λ P=>tu #[(.str "_law_cell" 797),(.str "_law_k" 798)]
def ZW:Ob:=λ P=>tu #[]
def XR:Ob:=λ P=>co "_law_mixed" "_law_mixed" 794 238 2 3 462 true 463 (.ref 464) (.ref 465) (.ref 466) 799 800
def T5:Ob:=λ P=>fo "_law_mixed" "_law_mixed" (top 53) "law_loomwright_k32_whole_woven_afresh" 792 467
def Y1:Ob:=λ P=>tu #[]
def Z0:Ob:=λ P=>co "_law_same" "_law_same" 802 241 2 3 469 true 470 .none .none (.ref 471) 805 806
def WQ:Ob:=λ P=>fo "_law_same" "_law_same" (top 54) "law_loomwright_k32_whole_woven_afresh" 792 472
def WD:Ob:=λ P=>tu #[]
def Wj:Ob:=λ P=>co "_law_cells" "_law_cells" 808 247 2 3 474 true 475 .none .none (.ref 476) 811 812
def V7:Ob:=λ P=>fo "_law_cells" "_law_cells" (top 55) "law_loomwright_k32_whole_woven_afresh" 792 477
def Va:Ob:=λ P=>tu #[]
def TU:Ob:=λ P=>co "_law_numbers" "_law_numbers" 814 250 2 3 479 true 480 .none .none (.ref 481) 817 818
def ZE:Ob:=λ P=>fo "_law_numbers" "_law_numbers" (top 56) "law_loomwright_k32_whole_woven_afresh" 792 482
def V6:Ob:=λ P=>tu #[]
def WV:Ob:=λ P=>co "_law_draft" "_law_draft" 820 252 2 3 484 true 485 .none .none (.ref 486) 823 824
def ZO:Ob:=λ P=>fo "_law_draft" "_law_draft" (top 57) "law_loomwright_k32_whole_woven_afresh" 792 487
def V1:Ob:=λ P=>tu #[]
def Xq:Ob:=λ P=>co "_law_copied" "_law_copied" 826 266 1 3 489 true 490 .none .none (.ref 491) 829 830
def Yg:Ob:=λ P=>fo "_law_copied" "_law_copied" (top 58) "law_loomwright_k32_whole_woven_afresh" 792 492
def Ud:Ob:=λ P=>tu #[]
def TX:Ob:=λ P=>tu #[(.str "_law_told" 835),(.str "_law_one" 836)]
def X5:Ob:=λ P=>tu #[]
def T7:Ob:=λ P=>co "_law_spoilt" "_law_spoilt" 832 272 1 3 494 true 495 (.ref 496) (.ref 497) (.ref 498) 837 838
def WR:Ob:=λ P=>fo "_law_spoilt" "_law_spoilt" (top 59) "law_loomwright_k32_whole_woven_afresh" 792 499
def Zt:Ob:=λ P=>tu #[]
def VU:Ob:=λ P=>tu #[(.str "_law_parts" 843),(.str "_law_shafts" 844),(.str "_law_treadles" 845),(.str "_law_threading" 846),(.str "_law_ties" 847),(.str "_law_treading" 848),(.str "_law_warp" 849),(.str "_law_weft" 850)]
def XN:Ob:=λ P=>tu #[]
def Xd:Ob:=λ P=>co "_law_made" "_law_made" 840 278 1 3 501 true 502 (.ref 503) (.ref 504) (.ref 505) 851 852
def T6:Ob:=λ P=>fo "_law_made" "_law_made" (top 60) "law_loomwright_k32_whole_woven_afresh" 792 506
def XT:Ob:=λ P=>tu #[]
def YH:Ob:=λ P=>tu #[(.str "_law_parts" 857),(.str "_law_found" 858),(.str "_law_feet" 859),(.str "_law_shafts" 860),(.str "_law_treadle" 861)]
def ZI:Ob:=λ P=>tu #[]
def U7:Ob:=λ P=>co "_law_lifts" "_law_lifts" 854 281 1 3 508 true 509 (.ref 510) (.ref 511) (.ref 512) 862 863
def V3:Ob:=λ P=>fo "_law_lifts" "_law_lifts" (top 61) "law_loomwright_k32_whole_woven_afresh" 792 513
def Ys:Ob:=λ P=>tu #[]
def UO:Ob:=λ P=>co "_law_woven" "_law_woven" 865 289 1 3 515 true 516 .none .none (.ref 517) 868 869
def YO:Ob:=λ P=>fo "_law_woven" "_law_woven" (top 62) "law_loomwright_k32_whole_woven_afresh" 792 518
def Wk:Ob:=λ P=>tu #[]
def V2:Ob:=λ P=>tu #[(.str "_law_parts" 874),(.str "_law_cell" 875),(.str "_law_shafts" 876),(.str "_law_treadles" 877),(.str "_law_kind" 878),(.str "_law_more" 879),(.str "_law_end" 880),(.str "_law_pick" 881),(.str "_law_shaft" 882),(.str "_law_feet" 883),(.str "_law_colour" 884)]
def XA:Ob:=λ P=>tu #[]
def XC:Ob:=λ P=>co "_law_deed" "_law_deed" 871 294 2 3 520 true 521 (.ref 522) (.ref 523) (.ref 524) 885 886
def Zm:Ob:=λ P=>fo "_law_deed" "_law_deed" (top 63) "law_loomwright_k32_whole_woven_afresh" 792 525
def VY:Ob:=λ P=>tu #[]
def YK:Ob:=λ P=>co "_law_behind" "_law_behind" 888 320 2 3 527 true 528 .none .none (.ref 529) 891 892
def Yq:Ob:=λ P=>fo "_law_behind" "_law_behind" (top 64) "law_loomwright_k32_whole_woven_afresh" 792 530
def UN:Ob:=λ P=>tu #[]
def Wa:Ob:=λ P=>tu #[(.str "_law_hand" 897),(.str "_law_deed_here" 898),(.str "_law_word" 899)]
def T8:Ob:=λ P=>tu #[]
def Yz:Ob:=λ P=>co "_law_done" "_law_done" 894 344 2 3 532 true 533 (.ref 534) (.ref 535) (.ref 536) 900 901
def YV:Ob:=λ P=>fo "_law_done" "_law_done" (top 65) "law_loomwright_k32_whole_woven_afresh" 792 537
def VZ:Ob:=λ P=>tu #[]
def Wq:Ob:=λ P=>tu #[(.str "_law_hand" 906),(.str "_law_parts" 907)]
def UU:Ob:=λ P=>tu #[]
def YS:Ob:=λ P=>co "_law_stands" "_law_stands" 903 363 2 3 539 true 540 (.ref 541) (.ref 542) (.ref 543) 908 909
def X9:Ob:=λ P=>fo "_law_stands" "_law_stands" (top 66) "law_loomwright_k32_whole_woven_afresh" 792 544
def Uq:Ob:=λ P=>tu #[]
def Vd:Ob:=λ P=>tu #[(.str "_law_script" 914),(.str "_law_parts" 915),(.str "_law_first" 916),(.str "_law_draft_here" 917),(.str "_law_hand" 918),(.str "_law_other" 919),(.str "_law_kept" 920),(.str "_law_past" 921),(.str "_law_cell" 922),(.str "_law_deed_here" 923),(.str "_law_due" 924),(.str "_law_after" 925),(.str "_law_back" 926),(.str "_law_handed" 927),(.str "_law_found" 928)]
def TQ:Ob:=λ P=>tu #[]
def Ui:Ob:=λ P=>co "law" "law" 911 367 1 3 546 true 547 (.ref 548) (.ref 549) (.ref 550) 929 930
def We:Ob:=λ P=>fo "law" "law" (top 67) "law_loomwright_k32_whole_woven_afresh" 792 551
def ai (P:Params):List Obj:=Uq P::Vd P::TQ P::Ui P::We P::[]
def aE (P:Params):List Obj:=YK P::Yq P::UN P::Wa P::T8 P::Yz P::YV P::VZ P::Wq P::UU P::YS P::X9 P::ai P
def ag (P:Params):List Obj:=ZI P::U7 P::V3 P::Ys P::UO P::YO P::Wk P::V2 P::XA P::XC P::Zm P::VY P::aE P
def aI (P:Params):List Obj:=Ud P::TX P::X5 P::T7 P::WR P::Zt P::VU P::XN P::Xd P::T6 P::XT P::YH P::ag P
def aC (P:Params):List Obj:=WD P::Wj P::V7 P::Va P::TU P::ZE P::V6 P::WV P::ZO P::V1 P::Xq P::Yg P::aI P
def ap (P:Params):List Obj:=W2 P::Xv P::Ww P::YW P::XY P::YE P::ZW P::XR P::T5 P::Y1 P::Z0 P::WQ P::aC P
def aa (P:Params):List Obj:=XD P::YB P::W5 P::W8 P::Wz P::Vg P::Xs P::XB P::Xn P::U4 P::UJ P::W4 P::ap P
def ar (P:Params):List Obj:=ZC P::Wo P::Vl P::ZS P::UA P::Wp P::WG P::Xx P::VJ P::TN P::Y2 P::Vp P::aa P
def aG (P:Params):List Obj:=Xi P::WU P::XI P::YI P::UD P::WZ P::Uy P::VD P::ZG P::X2 P::UK P::ZU P::ar P
def Z9 (P:Params):List Obj:=YQ P::Wg P::Vz P::Ul P::X4 P::Xk P::Xc P::U1 P::Zj P::Zv P::Vu P::Wx P::aG P
def aj (P:Params):List Obj:=Wd P::Za P::X6 P::YG P::ZN P::Yu P::Uw P::Xy P::Zb P::WH P::Ur P::U2 P::Z9 P
def av (P:Params):List Obj:=WT P::VQ P::VR P::Vr P::Ym P::Vk P::WB P::Vi P::Yp P::XX P::ZM P::Vy P::aj P
def aw (P:Params):List Obj:=Vw P::WK P::ZR P::Zi P::Zf P::U5 P::T4 P::Vs P::UQ P::XS P::WN P::ZA P::av P
def aB (P:Params):List Obj:=UG P::TY P::Wr P::Vf P::YF P::VG P::Ve P::XU P::UT P::XM P::Xo P::Xa P::aw P
def af (P:Params):List Obj:=Xl P::Z2 P::Vt P::ZF P::Yc P::Y9 P::Xg P::ZT P::YZ P::XG P::Wi P::Zz P::aB P
def ab (P:Params):List Obj:=Yn P::VH P::WI P::ZX P::Zc P::WM P::Wv P::YD P::V8 P::VW P::UP P::X1 P::af P
def az (P:Params):List Obj:=YT P::Y0 P::YM P::X7 P::Wl P::UF P::Zk P::Um P::YU P::VC P::XZ P::Zw P::ab P
def ay (P:Params):List Obj:=YA P::Y4 P::Xu P::Zq P::ZQ P::Zg P::YR P::ZH P::Zl P::Xw P::Ze P::Wf P::az P
def au (P:Params):List Obj:=XW P::Zn P::Zo P::VT P::Yw P::ZP P::Ux P::V5 P::Xf P::Wb P::Uj P::U8 P::ay P
def ob9 (P:Params):List Obj:=VN P::Z6 P::Uh P::Us P::Zd P::Wt P::Z1 P::VO P::TR P::Yt P::XJ P::Yb P::au P
def ob8 (P:Params):List Obj:=WP P::Vq P::Yy P::Xb P::Xr P::VE P::WE P::Z4 P::WC P::ZK P::VX P::Zy P::ob9 P
def ob7 (P:Params):List Obj:=XF P::Vo P::U6 P::ZJ P::UC P::YL P::Vj P::TV P::Zs P::Y3 P::WJ P::Y7 P::ob8 P
def ob6 (P:Params):List Obj:=Yi P::Xz P::Uz P::Xj P::TZ P::Uo P::ZY P::Ug P::UY P::X0 P::UB P::Vc P::ob7 P
def ob5 (P:Params):List Obj:=UR P::UZ P::X8 P::U0 P::Wc P::U3 P::W0 P::Yv P::Wh P::XH P::Yo P::ZV P::ob6 P
def ob4 (P:Params):List Obj:=Zu P::Uu P::Wn P::Ut P::VF P::Vh P::YJ P::W6 P::Yl P::Xm P::UH P::UV P::ob5 P
def ob3 (P:Params):List Obj:=o88 P::o90 P::o91 P::o92 P::o93 P::o95 P::o96 P::o98 P::o99 P::UL P::Zp P::WX P::ob4 P
def ob2 (P:Params):List Obj:=o71 P::o73 P::o74 P::o76 P::o77 P::o78 P::o80 P::o81 P::o83 P::o84 P::o85 P::o87 P::ob3 P
def ob1 (P:Params):List Obj:=o35 P::o42 P::o43 P::o44 P::o47 P::o54 P::o55 P::o56 P::o59 P::o66 P::o67 P::o68 P::ob2 P
def ob0 (P:Params):List Obj:=boot_o_2 P::o3 P::o15 P::o17 P::o18 P::o20 P::o21 P::o22 P::o29 P::o30 P::o31 P::o32 P::ob1 P
def frag (P:Params):Frag:=(nat_lit 2,boot_o_2 P)::(nat_lit 3,o3 P)::(nat_lit 15,o15 P)::(nat_lit 17,o17 P)::(nat_lit 18,o18 P)::(nat_lit 20,o20 P)::(nat_lit 21,o21 P)::(nat_lit 22,o22 P)::(nat_lit 29,o29 P)::(nat_lit 30,o30 P)::(nat_lit 31,o31 P)::(nat_lit 32,o32 P)::(nat_lit 35,o35 P)::(nat_lit 42,o42 P)::(nat_lit 43,o43 P)::(nat_lit 44,o44 P)::(nat_lit 47,o47 P)::(nat_lit 54,o54 P)::(nat_lit 55,o55 P)::(nat_lit 56,o56 P)::(nat_lit 59,o59 P)::(nat_lit 66,o66 P)::(nat_lit 67,o67 P)::(nat_lit 68,o68 P)::(nat_lit 71,o71 P)::(nat_lit 73,o73 P)::(nat_lit 74,o74 P)::(nat_lit 76,o76 P)::(nat_lit 77,o77 P)::(nat_lit 78,o78 P)::(nat_lit 80,o80 P)::(nat_lit 81,o81 P)::(nat_lit 83,o83 P)::(nat_lit 84,o84 P)::(nat_lit 85,o85 P)::(nat_lit 87,o87 P)::(nat_lit 88,o88 P)::(nat_lit 90,o90 P)::(nat_lit 91,o91 P)::(nat_lit 92,o92 P)::(nat_lit 93,o93 P)::(nat_lit 95,o95 P)::(nat_lit 96,o96 P)::(nat_lit 98,o98 P)::(nat_lit 99,o99 P)::(nat_lit 100,UL P)::(nat_lit 102,Zp P)::(nat_lit 103,WX P)::(nat_lit 105,Zu P)::(nat_lit 106,Uu P)::(nat_lit 107,Wn P)::(nat_lit 109,Ut P)::(nat_lit 110,VF P)::(nat_lit 112,Vh P)::(nat_lit 113,YJ P)::(nat_lit 114,W6 P)::(nat_lit 117,Yl P)::(nat_lit 118,Xm P)::(nat_lit 119,UH P)::(nat_lit 122,UV P)::(nat_lit 123,UR P)::(nat_lit 124,UZ P)::(nat_lit 127,X8 P)::(nat_lit 128,U0 P)::(nat_lit 136,Wc P)::(nat_lit 139,U3 P)::(nat_lit 140,W0 P)::(nat_lit 141,Yv P)::(nat_lit 144,Wh P)::(nat_lit 145,XH P)::(nat_lit 146,Yo P)::(nat_lit 148,ZV P)::(nat_lit 149,Yi P)::(nat_lit 151,Xz P)::(nat_lit 152,Uz P)::(nat_lit 153,Xj P)::(nat_lit 155,TZ P)::(nat_lit 156,Uo P)::(nat_lit 158,ZY P)::(nat_lit 159,Ug P)::(nat_lit 160,UY P)::(nat_lit 161,X0 P)::(nat_lit 162,UB P)::(nat_lit 163,Vc P)::(nat_lit 164,XF P)::(nat_lit 167,Vo P)::(nat_lit 169,U6 P)::(nat_lit 170,ZJ P)::(nat_lit 172,UC P)::(nat_lit 173,YL P)::(nat_lit 174,Vj P)::(nat_lit 176,TV P)::(nat_lit 177,Zs P)::(nat_lit 179,Y3 P)::(nat_lit 180,WJ P)::(nat_lit 181,Y7 P)::(nat_lit 183,WP P)::(nat_lit 184,Vq P)::(nat_lit 186,Yy P)::(nat_lit 187,Xb P)::(nat_lit 188,Xr P)::(nat_lit 190,VE P)::(nat_lit 191,WE P)::(nat_lit 193,Z4 P)::(nat_lit 194,WC P)::(nat_lit 195,ZK P)::(nat_lit 197,VX P)::(nat_lit 198,Zy P)::(nat_lit 200,VN P)::(nat_lit 201,Z6 P)::(nat_lit 202,Uh P)::(nat_lit 205,Us P)::(nat_lit 206,Zd P)::(nat_lit 207,Wt P)::(nat_lit 209,Z1 P)::(nat_lit 210,VO P)::(nat_lit 212,TR P)::(nat_lit 213,Yt P)::(nat_lit 214,XJ P)::(nat_lit 217,Yb P)::(nat_lit 218,XW P)::(nat_lit 226,Zn P)::(nat_lit 228,Zo P)::(nat_lit 229,VT P)::(nat_lit 231,Yw P)::(nat_lit 232,ZP P)::(nat_lit 233,Ux P)::(nat_lit 235,V5 P)::(nat_lit 236,Xf P)::(nat_lit 238,Wb P)::(nat_lit 239,Uj P)::(nat_lit 240,U8 P)::(nat_lit 242,YA P)::(nat_lit 243,Y4 P)::(nat_lit 245,Xu P)::(nat_lit 246,Zq P)::(nat_lit 247,ZQ P)::(nat_lit 249,Zg P)::(nat_lit 250,YR P)::(nat_lit 252,ZH P)::(nat_lit 253,Zl P)::(nat_lit 254,Xw P)::(nat_lit 256,Ze P)::(nat_lit 257,Wf P)::(nat_lit 259,YT P)::(nat_lit 260,Y0 P)::(nat_lit 261,YM P)::(nat_lit 263,X7 P)::(nat_lit 264,Wl P)::(nat_lit 266,UF P)::(nat_lit 267,Zk P)::(nat_lit 268,Um P)::(nat_lit 270,YU P)::(nat_lit 271,VC P)::(nat_lit 273,XZ P)::(nat_lit 274,Zw P)::(nat_lit 275,Yn P)::(nat_lit 276,VH P)::(nat_lit 277,WI P)::(nat_lit 278,ZX P)::(nat_lit 279,Zc P)::(nat_lit 282,WM P)::(nat_lit 285,Wv P)::(nat_lit 286,YD P)::(nat_lit 287,V8 P)::(nat_lit 290,VW P)::(nat_lit 291,UP P)::(nat_lit 292,X1 P)::(nat_lit 295,Xl P)::(nat_lit 296,Z2 P)::(nat_lit 297,Vt P)::(nat_lit 300,ZF P)::(nat_lit 301,Yc P)::(nat_lit 302,Y9 P)::(nat_lit 305,Xg P)::(nat_lit 306,ZT P)::(nat_lit 307,YZ P)::(nat_lit 310,XG P)::(nat_lit 311,Wi P)::(nat_lit 312,Zz P)::(nat_lit 314,UG P)::(nat_lit 315,TY P)::(nat_lit 317,Wr P)::(nat_lit 318,Vf P)::(nat_lit 319,YF P)::(nat_lit 322,VG P)::(nat_lit 323,Ve P)::(nat_lit 324,XU P)::(nat_lit 326,UT P)::(nat_lit 327,XM P)::(nat_lit 329,Xo P)::(nat_lit 330,Xa P)::(nat_lit 331,Vw P)::(nat_lit 333,WK P)::(nat_lit 334,ZR P)::(nat_lit 336,Zi P)::(nat_lit 337,Zf P)::(nat_lit 338,U5 P)::(nat_lit 340,T4 P)::(nat_lit 341,Vs P)::(nat_lit 343,UQ P)::(nat_lit 344,XS P)::(nat_lit 345,WN P)::(nat_lit 348,ZA P)::(nat_lit 349,WT P)::(nat_lit 357,VQ P)::(nat_lit 359,VR P)::(nat_lit 360,Vr P)::(nat_lit 362,Ym P)::(nat_lit 363,Vk P)::(nat_lit 364,WB P)::(nat_lit 366,Vi P)::(nat_lit 367,Yp P)::(nat_lit 369,XX P)::(nat_lit 370,ZM P)::(nat_lit 371,Vy P)::(nat_lit 373,Wd P)::(nat_lit 374,Za P)::(nat_lit 376,X6 P)::(nat_lit 377,YG P)::(nat_lit 378,ZN P)::(nat_lit 380,Yu P)::(nat_lit 381,Uw P)::(nat_lit 383,Xy P)::(nat_lit 384,Zb P)::(nat_lit 385,WH P)::(nat_lit 387,Ur P)::(nat_lit 388,U2 P)::(nat_lit 390,YQ P)::(nat_lit 391,Wg P)::(nat_lit 392,Vz P)::(nat_lit 394,Ul P)::(nat_lit 395,X4 P)::(nat_lit 397,Xk P)::(nat_lit 398,Xc P)::(nat_lit 399,U1 P)::(nat_lit 401,Zj P)::(nat_lit 402,Zv P)::(nat_lit 404,Vu P)::(nat_lit 405,Wx P)::(nat_lit 406,Xi P)::(nat_lit 408,WU P)::(nat_lit 409,XI P)::(nat_lit 411,YI P)::(nat_lit 412,UD P)::(nat_lit 413,WZ P)::(nat_lit 415,Uy P)::(nat_lit 416,VD P)::(nat_lit 418,ZG P)::(nat_lit 419,X2 P)::(nat_lit 420,UK P)::(nat_lit 422,ZU P)::(nat_lit 423,ZC P)::(nat_lit 425,Wo P)::(nat_lit 426,Vl P)::(nat_lit 427,ZS P)::(nat_lit 429,UA P)::(nat_lit 430,Wp P)::(nat_lit 432,WG P)::(nat_lit 433,Xx P)::(nat_lit 434,VJ P)::(nat_lit 436,TN P)::(nat_lit 437,Y2 P)::(nat_lit 439,Vp P)::(nat_lit 440,XD P)::(nat_lit 441,YB P)::(nat_lit 443,W5 P)::(nat_lit 444,W8 P)::(nat_lit 446,Wz P)::(nat_lit 447,Vg P)::(nat_lit 448,Xs P)::(nat_lit 450,XB P)::(nat_lit 451,Xn P)::(nat_lit 453,U4 P)::(nat_lit 454,UJ P)::(nat_lit 455,W4 P)::(nat_lit 456,W2 P)::(nat_lit 457,Xv P)::(nat_lit 458,Ww P)::(nat_lit 459,YW P)::(nat_lit 462,XY P)::(nat_lit 464,YE P)::(nat_lit 465,ZW P)::(nat_lit 467,XR P)::(nat_lit 468,T5 P)::(nat_lit 469,Y1 P)::(nat_lit 472,Z0 P)::(nat_lit 473,WQ P)::(nat_lit 474,WD P)::(nat_lit 477,Wj P)::(nat_lit 478,V7 P)::(nat_lit 479,Va P)::(nat_lit 482,TU P)::(nat_lit 483,ZE P)::(nat_lit 484,V6 P)::(nat_lit 487,WV P)::(nat_lit 488,ZO P)::(nat_lit 489,V1 P)::(nat_lit 492,Xq P)::(nat_lit 493,Yg P)::(nat_lit 494,Ud P)::(nat_lit 496,TX P)::(nat_lit 497,X5 P)::(nat_lit 499,T7 P)::(nat_lit 500,WR P)::(nat_lit 501,Zt P)::(nat_lit 503,VU P)::(nat_lit 504,XN P)::(nat_lit 506,Xd P)::(nat_lit 507,T6 P)::(nat_lit 508,XT P)::(nat_lit 510,YH P)::(nat_lit 511,ZI P)::(nat_lit 513,U7 P)::(nat_lit 514,V3 P)::(nat_lit 515,Ys P)::(nat_lit 518,UO P)::(nat_lit 519,YO P)::(nat_lit 520,Wk P)::(nat_lit 522,V2 P)::(nat_lit 523,XA P)::(nat_lit 525,XC P)::(nat_lit 526,Zm P)::(nat_lit 527,VY P)::(nat_lit 530,YK P)::(nat_lit 531,Yq P)::(nat_lit 532,UN P)::(nat_lit 534,Wa P)::(nat_lit 535,T8 P)::(nat_lit 537,Yz P)::(nat_lit 538,YV P)::(nat_lit 539,VZ P)::(nat_lit 541,Wq P)::(nat_lit 542,UU P)::(nat_lit 544,YS P)::(nat_lit 545,X9 P)::(nat_lit 546,Uq P)::(nat_lit 548,Vd P)::(nat_lit 549,TQ P)::(nat_lit 551,Ui P)::(nat_lit 552,We P)::[]
def addrs:List Addr:=[2,3,15,17,18,20,21,22,29,30,31,32,35,42,43,44,47,54,55,56,59,66,67,68,71,73,74,76,77,78,80,81,83,84,85,87,88,90,91,92,93,95,96,98,99,100,102,103,105,106,107,109,110,112,113,114,117,118,119,122,123,124,127,128,136,139,140,141,144,145,146,148,149,151,152,153,155,156,158,159,160,161,162,163,164,167,169,170,172,173,174,176,177,179,180,181,183,184,186,187,188,190,191,193,194,195,197,198,200,201,202,205,206,207,209,210,212,213,214,217,218,226,228,229,231,232,233,235,236,238,239,240,242,243,245,246,247,249,250,252,253,254,256,257,259,260,261,263,264,266,267,268,270,271,273,274,275,276,277,278,279,282,285,286,287,290,291,292,295,296,297,300,301,302,305,306,307,310,311,312,314,315,317,318,319,322,323,324,326,327,329,330,331,333,334,336,337,338,340,341,343,344,345,348,349,357,359,360,362,363,364,366,367,369,370,371,373,374,376,377,378,380,381,383,384,385,387,388,390,391,392,394,395,397,398,399,401,402,404,405,406,408,409,411,412,413,415,416,418,419,420,422,423,425,426,427,429,430,432,433,434,436,437,439,440,441,443,444,446,447,448,450,451,453,454,455,456,457,458,459,462,464,465,467,468,469,472,473,474,477,478,479,482,483,484,487,488,489,492,493,494,496,497,499,500,501,503,504,506,507,508,510,511,513,514,515,518,519,520,522,523,525,526,527,530,531,532,534,535,537,538,539,541,542,544,545,546,548,549,551,552]
def fr0 (P:Params):Frag:=addrs.zip (ob0 P)
theorem Qu (P:Params):frag P=fr0 P:=by kernel_rfl
def view:Program:={ PySem.Challenge.pw_loomwright_k32_whole_woven_afresh with main:={ PySem.Challenge.pw_loomwright_k32_whole_woven_afresh.main with body:=[top 0,top 1,top 2,top 3,top 4,top 6,top 7,top 8,top 9,top 11,top 12,top 13,top 14,top 16,top 17,top 18,top 19,top 20,top 21,top 22,top 23,top 24,top 26,top 27,top 28,top 29,top 30,top 31,top 33,top 34,top 36,top 37,top 38,top 39,top 40,top 41,top 43,top 44,top 45,top 46,top 47,top 48,top 49,top 50,top 51,top 53,top 54,top 55,top 56,top 57,top 58,top 59,top 60,top 61,top 62,top 63,top 64,top 65,top 66,top 67] } }
abbrev Xt:Shared->Bool:=λ s=>xlAt view [] s&&recOk (RowW.records PySem.Challenge.rw_loomwright_k32_whole_woven_afresh.row.toRowW) s
theorem addrs_eq:∀ P:Params,addrs=(frag P).map (·.1):=λ _=>by kernel_rfl
abbrev hook:Hook:=kHook frag addrs addrs_eq
abbrev fuel:Nat:=7468
def _root_.PySem.W.Fast.tw5503139639495197459:Program:=PySem.Challenge.pw_loomwright_k32_whole_woven_afresh
theorem _root_.PySem.W.Fast.te5503139639495197459:PySem.Challenge.pw_loomwright_k32_whole_woven_afresh=PySem.W.Fast.tw5503139639495197459:=rfl
theorem XO:(λ _=>true) (HX.topT treeTable)=true:=by k_qdec
theorem wsaid:PySem.Challenge.rw_loomwright_k32_whole_woven_afresh.wellSaid=true:=by k_qdec
theorem aL (w:World) (os:OsState):(HX.topT treeTable PySem.Challenge.pw_loomwright_k32_whole_woven_afresh w 11 (some (.ref 6)) fuel ⟨HX.bootT w.params,11,{},Array.mk [],boot_drawn,boot_toks,os⟩ (topStub PySem.Challenge.pw_loomwright_k32_whole_woven_afresh)).map (λ s=>((staticsOk (importedModules PySem.Challenge.pw_loomwright_k32_whole_woven_afresh.main.body) (boot_heap w.params) s.abs.heap&&namesBound PySem.Challenge.pw_loomwright_k32_whole_woven_afresh s.abs.heap&&gensDone s.abs&&laidKept (boot_heap w.params) s.abs.heap),addrs.map s.abs.heap.get?))=some (true,((fr0 w.params).map λ p=>some p.2)):=by
  have _tw:=XO;rw [PySem.W.Fast.te5923862056798008813,PySem.W.Fast.te14364793385576792824,PySem.W.Fast.te9621378704136392807];kernel_rfl
theorem aF (w:World) (os:OsState):(HX.topT treeTable PySem.Challenge.pw_loomwright_k32_whole_woven_afresh w 11 (some (.ref 6)) fuel ⟨HX.bootT w.params,11,{},Array.mk [],boot_drawn,boot_toks,os⟩ (topStub PySem.Challenge.pw_loomwright_k32_whole_woven_afresh)).map (λ s=>(openSeen view [] (importedModules PySem.Challenge.pw_loomwright_k32_whole_woven_afresh.main.body) Xt true s.abs))=some (openGood view []):=by
  unfold Xt;rw [PySem.W.Fast.te5923862056798008813,PySem.W.Fast.te4187177175401517315,PySem.W.Fast.te2368527892694137696,PySem.W.Fast.te14364793385576792824,PySem.W.Fast.te9621378704136392807];kernel_rfl
theorem left:LeftO PySem.Challenge.pw_loomwright_k32_whole_woven_afresh view [] Xt hook.obs hook.val fuel:=HX.left_run (by kernel_rfl) (by decide) (λ s=>by kernel_rfl) HX.hb λ w os=>by
  obtain ⟨s,r,l⟩:=Ah6.mp (aL w os);obtain ⟨s2,r2,l2⟩:=Ah6.mp (aF w os);cases r.symm.trans r2;rw [<-Qu] at l;exact ⟨s.abs,HX.topT_of r,HX.three l l2⟩
end K32
namespace L2
open PySem PySem.Spec PyProof.Rows
abbrev Key:=Sum Int Str
def JX:Key->Value->Bool
  | .inl k,v=>Value.isInt k v
  | .inr x,v=>Value.isStrOf x v
def aJ (w:World):Key->Int
  | .inl k=>hashInt k
  | .inr x=>hashStr w x
theorem Bh:∀ {k:Key} {v:Value},JX k v=true->(∃ i t,k=Sum.inl i/\v=Value.int i t)\/(∃ x t,k=Sum.inr x/\v=Value.str x t)
  | .inl i,v,h=>by
    obtain ⟨t,e⟩:=Value.isInt_shape (k:=i) (v:=v) h;exact .inl ⟨i,t,rfl,e⟩
  | .inr x,v,h=>by
    obtain ⟨t,e⟩:=Value.isStrOf_shape (x:=x) (v:=v) h;exact .inr ⟨x,t,rfl,e⟩
theorem N3 (i:Int) (t:Tok):JX (.inl i) (.int i t)=true:=by simp [JX,Value.isInt]
theorem NM (x:Str) (t:Tok):JX (.inr x) (.str x t)=true:=by simp [JX,Value.isStrOf]
theorem SG (a b:Int):decide ((Sum.inl a:Key)=Sum.inl b)=(a == b):=by
  by_cases e:a=b
  · subst e;simp
  · have h:¬ (Sum.inl a:Key)=Sum.inl b:=λ q=>e (Sum.inl.inj q);rw [decide_eq_false h];exact (beq_eq_false_iff_ne.mpr e).symm
theorem TC (a b:Str):decide ((Sum.inr a:Key)=Sum.inr b)=decide (a=b):=by
  by_cases e:a=b
  · subst e;simp
  · have h:¬ (Sum.inr a:Key)=Sum.inr b:=λ q=>e (Sum.inr.inj q);rw [decide_eq_false h,decide_eq_false e]
theorem Th (a:Int) (b:Str):decide ((Sum.inl a:Key)=Sum.inr b)=false:=decide_eq_false (λ q=>nomatch q)
theorem S5 (a:Str) (b:Int):decide ((Sum.inr a:Key)=Sum.inl b)=false:=decide_eq_false (λ q=>nomatch q)
def Bj (prog:Program) (w:World):PySem.KeyKind prog w Key where
  is:=JX
  hash:=aJ w
  inj:=λ v a b ha hb=>by
    rcases Bh ha with ⟨i,t,rfl,rfl⟩ | ⟨x,t,rfl,rfl⟩
    · rcases Bh hb with ⟨j,u,rfl,e⟩ | ⟨y,u,rfl,e⟩
      · injection e with e1 _;rw [e1]
      · exact nomatch e
    · rcases Bh hb with ⟨j,u,rfl,e⟩ | ⟨y,u,rfl,e⟩
      · exact nomatch e
      · injection e with e1 _;rw [e1]
  byValue:=λ k v h=>by
    rcases Bh h with ⟨i,t,rfl,rfl⟩ | ⟨x,t,rfl,rfl⟩ <;> rfl
  pyHash:=λ hv h=>by
    rcases Bh hv with ⟨i,t,rfl,rfl⟩ | ⟨x,t,rfl,rfl⟩
    · exact wpAny_pyHash_int h
    · exact wpAny_pyHash_str h
  eqBool:=λ hu hv h=>by
    rcases Bh hu with ⟨i,t,rfl,rfl⟩ | ⟨x,t,rfl,rfl⟩
    · rcases Bh hv with ⟨j,u,rfl,rfl⟩ | ⟨y,u,rfl,rfl⟩
      · rw [SG] at h;exact wpAny_eqBool_int h
      · rw [Th] at h;exact SeqAt.EqAt.int_str i t y u _ _ _ _ h
    · rcases Bh hv with ⟨j,u,rfl,rfl⟩ | ⟨y,u,rfl,rfl⟩
      · rw [S5] at h;exact SeqAt.EqAt.str_int x t j u _ _ _ _ h
      · rw [TC] at h;exact wpAny_eqBool_str h
  «strs» := λ k x t v h=>by
    rcases Bh h with ⟨i,u,rfl,e⟩ | ⟨y,u,rfl,e⟩
    · exact nomatch e
    · injection e with e1 _;subst e1;cases v <;> rfl
theorem Lm (prog:Program) (w:World) (i:Int) (t:Tok):(Bj prog w).is (.inl i) (.int i t)=true:=N3 i t
theorem LK (prog:Program) (w:World) (x:Str) (t:Tok):(Bj prog w).is (.inr x) (.str x t)=true:=NM x t
inductive V where
  | non | bl (b:Bool) | int (i:Int) | str (x:Str) | byt (b:Array UInt8) | flt (b:UInt64) | ref (a:Addr) | ty (n:String)
  deriving DecidableEq
def RelV:V->Value->Prop
  | .non,u=>u=Value.none
  | .bl b,u=>u=Value.bool b
  | .int i,u=>∃ t,u=Value.int i t
  | .str x,u=>∃ t,u=Value.str x t
  | .byt b,u=>∃ t,u=Value.bytes b t
  | .flt b,u=>∃ t,u=Value.float b t
  | .ref a,u=>u=Value.ref a
  | .ty n,u=>u=Value.type n
abbrev Vals:List V->List Value->Prop:=Paired RelV
theorem Vals.length {xs:List V} {us:List Value} (r:Vals xs us):xs.length=us.length:=Paired.length r
theorem Vals.get:∀ {xs:List V} {us:List Value} {i:Nat} {x:V},Vals xs us->xs[i]?=some x->∃ u,us[i]?=some u/\RelV x u
  | _,_,_,_, .nil,e=>by simp at e
  | _,_,0,_, .cons r _,e=>by simp at e;subst e;exact ⟨_,rfl,r⟩
  | _,_,i+1,x, .cons _ t,e=>by
    obtain ⟨u,h1,h2⟩:=Vals.get (i:=i) (x:=x) t (by simpa using e);exact ⟨u,by simpa using h1,h2⟩
theorem Vals.set {x:V} {u:Value} (r:RelV x u):∀ {xs:List V} {us:List Value} (i:Nat),Vals xs us->Vals (xs.set i x) (us.set i u)
  | _,_,_, .nil=> .nil
  | _,_,0, .cons _ t=> .cons r t
  | _,_,i+1, .cons q t=> .cons q (Vals.set r i t)
theorem Vals.append:∀ {xs ys:List V} {us ws:List Value},Vals xs us->Vals ys ws->Vals (xs++ys) (us++ws)
  | _,_,_,_, .nil,s=>s
  | _,_,_,_, .cons r t,s=> .cons r (Vals.append t s)
theorem Vals.take:∀ {xs:List V} {us:List Value} (n:Nat),Vals xs us->Vals (xs.take n) (us.take n)
  | _,_,0,_=> .nil
  | _,_,_+1, .nil=> .nil
  | _,_,n+1, .cons r t=> .cons r (Vals.take n t)
theorem Vals.drop:∀ {xs:List V} {us:List Value} (n:Nat),Vals xs us->Vals (xs.drop n) (us.drop n)
  | _,_,0,r=>r
  | _,_,_+1, .nil=> .nil
  | _,_,n+1, .cons _ t=>Vals.drop n t
def RelO:Option V->Option Value->Prop
  | some v,some u=>RelV v u
  | none,none=>True
  | _,_=>False
def KV {κ:Type}:List (κ × V)->List (κ × Value)->Prop:=Paired λ (p:κ × V) (q:κ × Value)=>p.1=q.1/\RelV p.2 q.2
def kV:Key->V
  | .inl i=> .int i
  | .inr x=> .str x
inductive HO where
  | lst (xs:List V)
  | tup (xs:List V)
  | dK (kvs:List (Key × V)) | dT (kvs:List (List Key × V))
  | set (S:Int->Bool) (n:Nat)
  | ins (C dx:Addr) (fs:List (Str × V))
  | own (x:Addr)
  | xd (fs:List (Str × V))
  | met (f x:Addr)
  | rng (lo hi:Int)
  | frz (o:Obj) (u:HO)
  | tbl (ps:Array Value)
  | ext (φ:Heap->Prop)
abbrev Hp:=Addr->Option HO
def upd (H:Hp) (a:Addr) (o:HO):Hp:=λ b=>if b=a then some o else H b
theorem Af {H:Hp} {a:Addr} {o:HO}:upd H a o a=some o:=by unfold upd;rw [if_pos rfl]
theorem Ai {H:Hp} {a b:Addr} {o:HO} (h:b≠a):upd H a o b=H b:=by unfold upd;rw [if_neg h]
theorem A3 {H:Hp} {a b:Addr} {o u:HO} (h:H a=some o) (h':H b=some u) (d:o≠u):a≠b:=by
  intro e;subst e;rw [h] at h';exact d (Ae2.inj h')
theorem Ax {H:Hp} {a b:Addr} {o:HO} (h:H a=some o) (h':H b=none):a≠b:=by
  intro e;subst e;rw [h] at h';cases h'
section
variable (P:Program) (w:World)
def ObjOk (H:Hp) (h:Heap) (a:Addr):HO->Prop
  | .lst xs=>xs.length<=sizeLine/\∃ (its:List Value) (n:Nat),Vals xs its/\h.get? a=some { cls:= .type "list",data:= .seq its.toArray n }
  | .tup xs=>xs.length<=sizeLine/\∃ its:List Value,Vals xs its/\IsTup h a its.toArray
  | .dK kvs=>kvs.length<=sizeLine/\(a == sysModules)=false/\∃ vs,KV kvs vs/\h.DictOf (Bj P w) a vs
  | .dT kvs=>kvs.length<=sizeLine/\(a == sysModules)=false/\∃ xs:List (List Key × Addr × Value),
      Paired (λ (p:List Key × V) (q:List Key × Addr × Value)=>p.1=q.1/\H q.2.1=some (.tup (p.1.map kV))/\RelV p.2 q.2.2) kvs xs/\
      ∃ o es ep,h.get? a=some o/\o.ExactDict/\o.data= .dict es ep/\es.toList=xs.map (entryOfKey (tupleKind (Bj P w)))/\(xs.map (·.1)).Nodup
  | .set S n=>h.SetOf (intKind P w) a S n
  | .ins C dx fs=>H dx=some (.own a)/\fs.length<=1000/\dx≠a/\h.get? a=some (PySem.W.instObj C dx)/\
      ∃ mA,h.Ns1 dx mA/\(∀ f,RelO (fs.lookup f) (mA f))/\PySem.Within mA (fs.map (·.1))
  | .own _=>∃ o,h.get? a=some o
  | .xd fs=>∃ mA,h.Ns1 a mA/\∀ f,RelO (fs.lookup f) (mA f)
  | .rng lo hi=>∃ t u v,h.get? a=some { cls:= .type "range",data:= .fields #[.int lo t, .int hi u, .int 1 v] }
  | .frz o u=>h.get? a=some o/\ObjOk H h a u
  | .tbl ps=>h.get? a=some { cls:= .none,data:= .fields ps }
  | .met f x=>h.get? a=some (PySem.W.methodObj (.ref f) (.ref x))
  | .ext φ=>φ h/\(∃ o,h.get? a=some o)/\∀ h1 h2:Heap,φ h1->(∀ o,h1.get? a=some o->h2.get? a=some o)->φ h2
def HOk (H:Hp) (h:Heap):Prop:=∀ a o,H a=some o->ObjOk P w H h a o
end
section
variable {P:Program} {w:World} {H H':Hp} {h h':Heap} {a:Addr} {o:HO}
theorem ObjOk.lt (x:ObjOk P w H h a o):a<h.objs.size:=by
  cases o with
  | lst xs=>obtain ⟨_,_,_,_,e⟩:=x;exact Aa8 e
  | tup xs=>obtain ⟨_,_,_,p⟩:=x;exact p.lt
  | dK kvs=>obtain ⟨_,_,_,_,o,_,_,e,_⟩:=x;exact Aa8 e
  | dT kvs=>obtain ⟨_,_,_,_,o,_,_,e,_⟩:=x;exact Aa8 e
  | set S n=>obtain ⟨o,_,_,_,e,_⟩:=x;exact Aa8 e
  | ins C dx fs=>obtain ⟨_,_,_,e,_⟩:=x;exact Aa8 e
  | own y=>obtain ⟨_,e⟩:=x;exact Aa8 e
  | xd fs=>obtain ⟨_,⟨_,_,_,e,_⟩,_⟩:=x;exact Aa8 e
  | rng lo hi=>obtain ⟨_,_,_,e⟩:=x;exact Aa8 e
  | frz ob u=>obtain ⟨e,_⟩:=x;exact Aa8 e
  | tbl ps=>exact Aa8 (show h.get? a=some _ from x)
  | met f y=>exact Aa8 (show h.get? a=some _ from x)
  | ext φ=>obtain ⟨_,⟨_,e⟩,_⟩:=x;exact Aa8 e
theorem Paired.mapP {α β:Type} {F G:α->β->Prop}:∀ {l₁:List α} {l₂:List β},Paired F l₁ l₂->(∀ a b,F a b->G a b)->Paired G l₁ l₂
  | _,_, .nil,_=> .nil
  | _,_, .cons r t,f=> .cons (f _ _ r) (Paired.mapP t f)
theorem ObjOk.stay (x:ObjOk P w H h a o) (k:∀ b u,(b=a\/H b=some (.own a))->h.get? b=some u->h'.get? b=some u)
    (ho:∀ b,H b=some (.own a)->H' b=some (.own a)) (ht:∀ b xs,H b=some (.tup xs)->H' b=some (.tup xs)):ObjOk P w H' h' a o:=by
  induction o with
  | lst xs=>obtain ⟨z,its,n,r,e⟩:=x;exact ⟨z,its,n,r,k _ _ (.inl rfl) e⟩
  | tup xs=>obtain ⟨z,its,r,ob,e,c⟩:=x;exact ⟨z,its,r,ob,k _ _ (.inl rfl) e,c⟩
  | dK kvs=>obtain ⟨z,y,vs,r,ob,es,ep,e,c⟩:=x;exact ⟨z,y,vs,r,ob,es,ep,k _ _ (.inl rfl) e,c⟩
  | dT kvs=>
    obtain ⟨z,y,xs,r,ob,es,ep,e,c⟩:=x;exact ⟨z,y,xs,Paired.mapP r λ p q z=>⟨z.1,ht _ _ z.2.1,z.2.2⟩,ob,es,ep,k _ _ (.inl rfl) e,c⟩
  | set S n=>obtain ⟨ob,es,ep,t,e,c⟩:=x;exact ⟨ob,es,ep,t,k _ _ (.inl rfl) e,c⟩
  | ins C dx fs=>
    obtain ⟨d,z,ne,e,mA,⟨od,es,ep,e2,c⟩,r⟩:=x;exact ⟨ho _ d,z,ne,k _ _ (.inl rfl) e,mA,⟨od,es,ep,k _ _ (.inr d) e2,c⟩,r⟩
  | own y=>obtain ⟨ob,e⟩:=x;exact ⟨ob,k _ _ (.inl rfl) e⟩
  | xd fs=>obtain ⟨mA,⟨od,es,ep,e,c⟩,r⟩:=x;exact ⟨mA,⟨od,es,ep,k _ _ (.inl rfl) e,c⟩,r⟩
  | rng lo hi=>obtain ⟨t,u,v,e⟩:=x;exact ⟨t,u,v,k _ _ (.inl rfl) e⟩
  | frz ob u ih=>obtain ⟨e,q⟩:=x;exact ⟨k _ _ (.inl rfl) e,ih q⟩
  | tbl ps=>
    have e:h.get? a=some { cls:= .none,data:= .fields ps }:=x;show h'.get? a=some { cls:= .none,data:= .fields ps };exact k a _ (.inl rfl) e
  | met f y=>
    have e:h.get? a=some (PySem.W.methodObj (.ref f) (.ref y)):=x;show h'.get? a=some (PySem.W.methodObj (.ref f) (.ref y));exact k a _ (.inl rfl) e
  | ext φ=>obtain ⟨p,⟨o,e⟩,st⟩:=x;exact ⟨st _ _ p λ o q=>k _ _ (.inl rfl) q,⟨o,k _ _ (.inl rfl) e⟩,st⟩
theorem HOk.lt (x:HOk P w H h) (e:H a=some o):a<h.objs.size:=(x a o e).lt
theorem HOk.fresh (x:HOk P w H h) (e:h.objs.size<=a):H a=none:=by
  cases q:H a with
  | none=>rfl
  | some u=>exact absurd (Ab3 (x.lt q) e) (Nat.lt_irrefl _)
theorem HOk.kept (x:HOk P w H h) (k:∀ b u,h.get? b=some u->h'.get? b=some u):HOk P w H h':=λ a o e=>
  (x a o e).stay (λ b u _ q=>k b u q) (λ _ q=>q) λ _ _ q=>q
theorem HOk.laid (x:HOk P w H h) (k:∀ b u,h.get? b=some u->h'.get? b=some u) (hp:h.objs.size<=a) (new:ObjOk P w (upd H a o) h' a o):HOk P w (upd H a o) h':=λ b u e=>by
  have hn:=x.fresh hp;by_cases hb:b=a
  · subst hb;rw [Af] at e;cases e;exact new
  · rw [Ai hb] at e;exact (x b u e).stay (λ c v _ q=>k c v q) (λ c q=>by rw [Ai (Ax q hn)];exact q) λ c xs q=>by rw [Ai (Ax q hn)];exact q
end
def Rd (H:Hp) (a:Addr) (u:HO):Prop:=H a=some u\/∃ o,H a=some (.frz o u)
theorem Rd.ok {P:Program} {w:World} {H:Hp} {h:Heap} {a:Addr} {u:HO} (r:Rd H a u) (x:HOk P w H h):ObjOk P w H h a u:=by
  rcases r with r | ⟨o,r⟩
  · exact x a u r
  · obtain ⟨_,q⟩:=x a _ r;exact q
def Mut:Option HO->Prop
  | some (.lst _)=>True
  | some (.dK _)=>True
  | some (.dT _)=>True
  | some (.set _ _)=>True
  | some (.ins _ _ _)=>True
  | some (.ext _)=>True
  | _=>False
section
variable {P:Program} {w:World} {H:Hp} {h h':Heap} {x e:Addr} {o':HO}
theorem HOk.write (ok:HOk P w H h) (mu:Mut (H x)) (he:e=x\/H e=some (.own x)) (k:∀ b u,b≠e->h.get? b=some u->h'.get? b=some u) (heo:∃ u,h'.get? e=some u)
    (new:ObjOk P w (upd H x o') h' x o'):HOk P w (upd H x o') h':=λ b u q=>by
  have nown:∀ c y,H c=some (.own y)->c≠x:=λ c y r z=>by subst z;rw [r] at mu;exact mu
  have ntup:∀ c xs,H c=some (.tup xs)->c≠x:=λ c xs r z=>by subst z;rw [r] at mu;exact mu
  by_cases hb:b=x
  · subst hb;rw [Af] at q;cases q;exact new
  · rw [Ai hb] at q;by_cases hbe:b=e
    · have q':H b=some (.own x):=by
        rcases he with z | z
        · exact absurd (hbe.trans z) hb
        · rw [hbe];exact z
      rw [q] at q';cases q';obtain ⟨v,hv⟩:=heo;exact ⟨v,by rw [hbe];exact hv⟩
    · refine (ok b u q).stay (λ c v hc r=>k c v ?_ r) (λ c r=>by rw [Ai (nown c b r)];exact r) λ c xs r=>by rw [Ai (ntup c xs r)];exact r
      rcases hc with rfl | hc
      · exact hbe
      · rintro rfl;rcases he with z | z
        · exact nown c b hc z
        · rw [hc] at z;cases z;exact hb rfl
end
structure Un (fs ex:List Addr) (H H':Hp) (h h':Heap):Prop where
  keep:∀ b o,h.get? b=some o->H b=none->b∉fs->b∉ex->h'.get? b=some o
  slot:∀ b o,h.get? b=some o->H b=none->b∈fs->b∉ex->∃ sl,h'.get? b=some { o with slots:=sl }
  free:∀ b o,h.get? b=some o->H b=none->b∉ex->H' b=none
  there:∀ b o,h.get? b=some o->b∉ex->∃ o',h'.get? b=some o'
  tups:∀ b xs,H b=some (.tup xs)->H' b=some (.tup xs)
  frzs:∀ b o u,H b=some (.frz o u)->H' b=some (.frz o u)
  tbls:∀ b ps,H b=some (.tbl ps)->∃ more,H' b=some (.tbl (ps++more))
section
variable {fs fs' ex ex':List Addr} {H H1 H2:Hp} {h h1 h2 h':Heap} {a x e:Addr} {o:HO}
theorem Un.any (u:Un fs ex H H1 h h1) {b:Addr} {ob:Obj} (q:h.get? b=some ob) (n:H b=none) (hx:b∉ex):∃ sl,h1.get? b=some { ob with slots:=sl }:=by
  by_cases hb:b∈fs
  · exact u.slot b ob q n hb hx
  · exact ⟨ob.slots,u.keep b ob q n hb hx⟩
theorem Un.trans (a:Un fs ex H H1 h h1) (b:Un fs ex H1 H2 h1 h2):Un fs ex H H2 h h2 where
  keep:=λ c ob q n hc hx=>b.keep c ob (a.keep c ob q n hc hx) (a.free c ob q n hx) hc hx
  slot:=λ c ob q n hc hx=>by
    obtain ⟨sl,e1⟩:=a.slot c ob q n hc hx;obtain ⟨sl',e2⟩:=b.slot c _ e1 (a.free c ob q n hx) hc hx;exact ⟨sl',e2⟩
  free:=λ c ob q n hx=>by
    obtain ⟨o',e1⟩:=a.there c ob q hx;exact b.free c o' e1 (a.free c ob q n hx) hx
  there:=λ c ob q hx=>by
    obtain ⟨o',e1⟩:=a.there c ob q hx;exact b.there c o' e1 hx
  tups:=λ c xs q=>b.tups c xs (a.tups c xs q)
  frzs:=λ c ob xs q=>b.frzs c ob xs (a.frzs c ob xs q)
  tbls:=λ c ps q=>by
    obtain ⟨m1,e1⟩:=a.tbls c ps q;obtain ⟨m2,e2⟩:=b.tbls c _ e1;exact ⟨m1++m2,by rw [e2,Array.append_assoc]⟩
theorem Un.kept (k:∀ b u,h.get? b=some u->h'.get? b=some u):Un fs ex H H h h':=
  ⟨λ b ob q _ _ _=>k b ob q,λ b ob q _ _ _=>⟨ob.slots,k b ob q⟩,λ _ _ _ n _=>n,λ b ob q _=>⟨ob,k b ob q⟩,λ _ _ q=>q,λ _ _ _ q=>q,λ _ ps q=>⟨#[],by rw [q];simp⟩⟩
theorem Un.refl:Un fs ex H H h h:=Un.kept λ _ _ q=>q
theorem Un.laid (k:∀ b u,h.get? b=some u->h'.get? b=some u) (hp:h.objs.size<=a) (hn:H a=none):Un fs ex H (upd H a o) h h' where
  keep:=λ b u q _ _ _=>k b u q
  slot:=λ b u q _ _ _=>⟨u.slots,k b u q⟩
  free:=λ b u q n _=>by rw [Ai (Ab6 (Ab3 (Aa8 q) hp))];exact n
  there:=λ b u q _=>⟨u,k b u q⟩
  tups:=λ b xs q=>by rw [Ai (Ax q hn)];exact q
  frzs:=λ b u xs q=>by rw [Ai (Ax q hn)];exact q
  tbls:=λ b ps q=>⟨#[],by rw [Ai (Ax q hn),q];simp⟩
theorem Un.write (mu:Mut (H x)) (he:e=x\/H e=some (.own x)) (k:∀ b u,b≠e->h.get? b=some u->h'.get? b=some u) (heo:∃ u,h'.get? e=some u):Un fs ex H (upd H x o) h h':=by
  have hx:∀ b,H b=none->b≠x:=λ b n z=>by subst z;rw [n] at mu;exact mu
  have hb:∀ b,H b=none->b≠e:=λ b n z=>by
    subst z;rcases he with r | r
    · exact hx b n r
    · rw [n] at r;cases r
  have hm:∀ b u,H b=some u->¬ Mut (some u)->b≠x:=λ b u q nm z=>by subst z;rw [q] at mu;exact nm mu
  refine ⟨λ b u q n _ _=>k b u (hb b n) q,λ b u q n _ _=>⟨u.slots,k b u (hb b n) q⟩,λ b u q n _=>by rw [Ai (hx b n)];exact n,λ b u q _=> ?_,
    λ b xs q=>by rw [Ai (hm b _ q λ z=>z)];exact q,λ b u xs q=>by rw [Ai (hm b _ q λ z=>z)];exact q,λ b ps q=>⟨#[],by rw [Ai (hm b _ q λ z=>z),q];simp⟩⟩
  by_cases hbe:b=e
  · subst hbe;exact heo
  · exact ⟨u,k b u hbe q⟩
end
def trk (h:Heap) (H:Hp):List Addr:=(Aa9 h.objs.size).filter λ a=>(H a).isSome
def KL (h:Heap) (H:Hp):Heap:=PySem.W.hideAll h (trk h H)
theorem NA (h:Heap) (H:Hp):(KL h H).objs.size=h.objs.size:=PySem.W.hideAll_size _ _
theorem OC {h:Heap} {H:Hp} {b:Addr} {o:Obj} (e:h.get? b=some o) (n:H b=none):(KL h H).get? b=some o:=
  PySem.W.hideAll_get _ e λ hm=>by
    have q:(H b).isSome=true:=(Ag0.mp hm).2;rw [n] at q;simp at q
theorem Rb {h:Heap} {H:Hp} {b:Addr} {o:Obj} (e:(KL h H).get? b=some o):h.get? b=some o/\H b=none:=by
  have e':h.get? b=some o:=PySem.W.of_hideAll (trk h H) e;refine ⟨e',?_⟩;cases q:H b with
  | none=>rfl
  | some x=>
    have hm:b∈trk h H:=Ag0.mpr ⟨Ae9.mpr (Aa8 e'),by simp [q]⟩;have z:(KL h H).get? b=none:=PySem.W.hideAll_none (trk h H) hm;rw [z] at e;cases e
def Rn (g h:Heap) (L:Addr):List (Addr × Obj):=(Aa9 h.objs.size).filterMap λ a=>if a=L\/(g.get? a).isSome=true then none else (h.get? a).map λ o=>(a,o)
def GQ (g h:Heap) (L d:Addr):List (Addr × Obj):=(Rn g h L).filter λ p=>decide (p.1≠d)
structure Mod (K:PySem.W.Frag) (mg:Str->Option Value) (base:Heap):Prop where
  kin:K.In base
  glob:base.Ns mainGlobals mg
  blt:∃ mb,base.Ns builtinsNs mb/\∀ x:Str,x≠"__name__"->mb x=bootBuiltins x
  nolimit:base.NoLimit
structure Cx where
  prog:Program
  w:World
  K:PySem.W.Frag
  mg:Str->Option Value
  base:Heap
  A:Around
  N:List Str
  s₀:Shared
  H₀:Hp
  env:Env
  outer:List Env
  stack:List Env
  ex:List Addr
  fn:Str->Bool
  calm:Bool
  pn:List (Addr × Obj)
  xe:Value->Shared->Prop
def frs (l:List Env):List Addr:=l.filterMap (·.frame)
abbrev Cx.fs (X:Cx):List Addr:=frs X.outer
def Vis (sc:Scope) (x:Str):Prop:=sc.names.lookup x=some .local\/sc.names.lookup x=some .cell\/sc.names.lookup x=some .free
def Loc (sc:Scope) (x:Str):Prop:=sc.names.lookup x=some .local\/sc.names.lookup x=some .cell
def aK (env:Env) (h:Heap) (m:Str->Option Value) (x:Str) (u:Value):Prop:=
  (env.kindOf x=some .local/\m x=some u)\/((env.kindOf x=some .cell\/env.kindOf x=some .free)/\∃ c,env.cells.lookup x=some c/\h.IsCell c (some u))
structure Cx.Ok (X:Cx):Prop where
  mod:Mod X.K X.mg X.base
  kind:X.env.scope.kind= .function
  glob:X.env.globals=mainGlobals
  blt:X.env.builtins=builtinsNs
  above:X.s₀.heap.objs.size<=X.env.locals
  inj:∀ x y c,X.env.cells.lookup x=some c->X.env.cells.lookup y=some c->x=y
  has:∀ x,(X.env.kindOf x=some .cell\/X.env.kindOf x=some .free)->∃ c,X.env.cells.lookup x=some c
  cab:∀ x c,X.fn x=true->X.env.cells.lookup x=some c->X.s₀.heap.objs.size<=c
  hd:X.calm=true->X.A.handled=none
  frames:X.A.frames=some X.stack
  stk:X.stack=X.outer\/(X.stack=X.env::X.outer/\X.env.frame=some X.env.locals)
  exf:∀ b∈X.ex,b≠X.env.locals/\∀ x c,X.env.cells.lookup x=some c->c≠b
  bs:∀ b o,X.base.get? b=some o->X.s₀.heap.get? b=some o/\X.H₀ b=none
  bsz:X.base.objs.size<=X.s₀.heap.objs.size
  noex:∀ b o,X.base.get? b=some o->b∉X.ex
  exfs:∀ b∈X.ex,b∉X.fs
  funs:X.s₀.heap.FunFrames X.base X.outer
  frf:∀ b∈X.fs,X.H₀ b=none
structure Inv (X:Cx) (pins:List (Addr × Obj)) (σ:List (Option V)) (H:Hp) (s:Shared):Prop where
  ok:X.Ok
  os:s.os=X.s₀.os
  bare:AllBare s.gens
  base:Un X.fs X.ex X.H₀ H X.s₀.heap s.heap
  loc:∃ m,s.heap.Ns X.env.locals m/\∀ (i:Nat) (x:Str) (v:V),X.N[i]?=some x->σ[i]?=some (some v)->Vis X.env.scope x->∃ u,RelV v u/\aK X.env s.heap m x u
  cell:∀ x c,X.env.cells.lookup x=some c->∃ v,s.heap.IsCell c v
  free:H X.env.locals=none
  freeC:∀ x c,X.env.cells.lookup x=some c->H c=none
  pin:∀ p∈X.pn++pins,s.heap.get? p.1=some p.2/\H p.1=none/\p.1≠X.env.locals/\p.1∉X.fs/\∀ v,p.2.data≠ .cell v
  hok:HOk X.prog X.w H s.heap
  len:σ.length=X.N.length
section
variable {X:Cx} {pins:List (Addr × Obj)} {σ:List (Option V)} {H H':Hp} {s:Shared} {h':Heap}
theorem Cx.Ok.nofr (ok:X.Ok) {b:Addr} {o:Obj} (e:X.base.get? b=some o):b∉X.fs:=λ hb=>by
  have:=(ok.funs.mem hb).1;rw [e] at this;cases this
theorem Inv.bs (I:Inv X pins σ H s):∀ b o,X.base.get? b=some o->s.heap.get? b=some o/\H b=none:=λ b o e=>
  ⟨I.base.keep b o (I.ok.bs b o e).1 (I.ok.bs b o e).2 (I.ok.nofr e) (I.ok.noex b o e),I.base.free b o (I.ok.bs b o e).1 (I.ok.bs b o e).2 (I.ok.noex b o e)⟩
theorem Inv.bk (I:Inv X pins σ H s):∀ b o,X.base.get? b=some o->s.heap.get? b=some o:=λ b o e=>(I.bs b o e).1
theorem Inv.mod (I:Inv X pins σ H s):Mod X.K X.mg X.base:=I.ok.mod
theorem Inv.kIn (I:Inv X pins σ H s):X.K.In s.heap:=I.ok.mod.kin.keeps I.bk
theorem Inv.fr (I:Inv X pins σ H s):∃ m,Fr X.base X.env.locals s.heap m:=
  let ⟨m,hn,_⟩:=I.loc
  ⟨m,hn,I.bk,Ac5 I.ok.bsz I.ok.above⟩
theorem Inv.lt (I:Inv X pins σ H s):X.env.locals<s.heap.objs.size:=let ⟨_,hn,_⟩:=I.loc;hn.lt
theorem Inv.sz (I:Inv X pins σ H s):X.s₀.heap.objs.size<=s.heap.objs.size:=Ac5 I.ok.above (Nat.le_of_lt I.lt)
theorem Inv.nofs (I:Inv X pins σ H s) {a:Addr} (h:s.heap.objs.size<=a):a∉X.fs:=λ hb=>by
  obtain ⟨_,o,ho,_⟩:=I.ok.funs.mem hb;exact absurd (Ab3 (Aa8 ho) (Ac5 I.sz h)) (Nat.lt_irrefl _)
theorem Inv.cne (I:Inv X pins σ H s):∀ x c,X.env.cells.lookup x=some c->c≠X.env.locals:=λ x c e z=>by
  obtain ⟨v,o,ho,hd⟩:=I.cell x c e;obtain ⟨m,⟨o',es,ep,ho',hd',_⟩,_⟩:=I.loc;rw [z,ho'] at ho;cases ho;rw [hd'] at hd;cases hd
theorem Inv.funs (I:Inv X pins σ H s):s.heap.FunFrames X.base X.outer:=by
  have all:∀ (l:List Env),(∀ b∈frs l,b∈X.fs)->X.s₀.heap.FunFrames X.base l->s.heap.FunFrames X.base l:=by
    intro l
    induction l with
    | nil=>intro _ _;trivial
    | cons env r ih=>
      intro hs hl;obtain ⟨hk,⟨L,o,hf,hn,ho,hd⟩,hr⟩:=hl;have hL:L∈X.fs:=hs L (by unfold frs;rw [List.filterMap_cons,hf];exact Ad1);obtain ⟨sl,e⟩:=I.base.slot L o ho (I.ok.frf L hL) hL λ z=>I.ok.exfs L z hL;exact ⟨hk,⟨L,_,hf,hn,e,hd⟩,ih (λ b hb=>hs b (by unfold frs;rw [List.filterMap_cons,hf];exact Ac9 _ hb)) hr⟩
  exact all X.outer (λ _ hb=>hb) I.ok.funs
theorem Inv.stack (I:Inv X pins σ H s):s.heap.FunFrames X.base X.stack:=by
  rcases I.ok.stk with e | ⟨e,hf⟩
  · rw [e];exact I.funs
  · rw [e];obtain ⟨m,hn,_⟩:=I.loc;refine .cons (by rw [I.ok.kind];decide) hf hn ?_ I.funs;exact Heap.get?_none_of_le (Ac5 I.ok.bsz I.ok.above)
theorem Inv.stkSub (I:Inv X pins σ H s):∀ b∈frs X.stack,b∈X.env.locals::X.fs:=λ b hb=>by
  rcases I.ok.stk with e | ⟨e,hf⟩
  · rw [e] at hb;exact Ac9 _ hb
  · rw [e] at hb;unfold frs at hb;rw [List.filterMap_cons,hf] at hb;exact hb
theorem Inv.stkFree (I:Inv X pins σ H s):∀ b∈frs X.stack,H b=none:=λ b hb=>by
  rcases Ab2.mp (I.stkSub b hb) with e | hb
  · rw [e];exact I.free
  · obtain ⟨_,o,ho,_⟩:=I.ok.funs.mem hb;exact I.base.free b o ho (I.ok.frf b hb) λ z=>I.ok.exfs b z hb
theorem Inv.step {g':Array GenState} {t':Nat} {d':Drawn} {ch:List Addr} (I:Inv X pins σ H s)
    (hch:∀ b∈ch,(b∈X.ex\/X.s₀.heap.objs.size<=b)/\b≠X.env.locals/\(∀ x c,X.env.cells.lookup x=some c->c≠b)/\∀ p∈X.pn++pins,p.1≠b)
    (keep:∀ b o,b≠X.env.locals->b∉X.fs->b∉ch->s.heap.get? b=some o->H b=none->h'.get? b=some o)
    (slot:∀ b o,b≠X.env.locals->b∈X.fs->b∉ch->s.heap.get? b=some o->H b=none->∃ sl,h'.get? b=some { o with slots:=sl }) (free:∀ b o,b∉ch->s.heap.get? b=some o->H b=none->H' b=none)
    (there:∀ b o,b∉ch->s.heap.get? b=some o->∃ o',h'.get? b=some o')
    (tups:∀ b xs,H b=some (.tup xs)->H' b=some (.tup xs)) (frzs:∀ b o u,H b=some (.frz o u)->H' b=some (.frz o u)) (tbls:∀ b ps,H b=some (.tbl ps)->∃ more,H' b=some (.tbl (ps++more)))
    (ns:∀ m,s.heap.Ns X.env.locals m->h'.Ns X.env.locals m) (hok:HOk X.prog X.w H' h') (hg:AllBare g'):
    Inv X pins σ H' { s with heap:=h',gens:=g',drawn:=d',toks:=t' }:=by
  have neL:∀ b o,X.s₀.heap.get? b=some o->b≠X.env.locals:=λ b o e=>Ab6 (Ab3 (Aa8 e) I.ok.above);have neC:∀ b o,X.s₀.heap.get? b=some o->b∉X.ex->b∉ch:=λ b o e hx hb=>by
    rcases (hch b hb).1 with z | z
    · exact hx z
    · exact absurd (Ab3 (Aa8 e) z) (Nat.lt_irrefl _)
  have cellK:∀ x c,X.env.cells.lookup x=some c->∀ v,s.heap.IsCell c v->h'.IsCell c v:=λ x c e v ⟨o,ho,hd⟩=>by
    have nch:c∉ch:=λ z=>(hch c z).2.2.1 x c e rfl;by_cases hc:c∈X.fs
    · obtain ⟨sl,q⟩:=slot c o (I.cne x c e) hc nch ho (I.freeC x c e);exact ⟨_,q,hd⟩
    · exact ⟨o,keep c o (I.cne x c e) hc nch ho (I.freeC x c e),hd⟩
  refine ⟨I.ok,I.os,hg,⟨λ b o e n hb hx=> ?_,λ b o e n hb hx=> ?_,λ b o e n hx=> ?_,λ b o e hx=> ?_,λ b xs e=>tups b xs (I.base.tups b xs e),λ b o xs e=>frzs b o xs (I.base.frzs b o xs e),λ b ps e=> ?_⟩,?_,λ x c e=> ?_,?_,λ x c e=> ?_,λ p hp=> ?_,hok,I.len⟩
  · exact keep b o (neL b o e) hb (neC b o e hx) (I.base.keep b o e n hb hx) (I.base.free b o e n hx)
  · obtain ⟨sl,e1⟩:=I.base.slot b o e n hb hx;obtain ⟨sl',e2⟩:=slot b _ (neL b o e) hb (neC b o e hx) e1 (I.base.free b o e n hx);exact ⟨sl',e2⟩
  · obtain ⟨o',e1⟩:=I.base.there b o e hx;exact free b o' (neC b o e hx) e1 (I.base.free b o e n hx)
  · obtain ⟨o',e1⟩:=I.base.there b o e hx;exact there b o' (neC b o e hx) e1
  · obtain ⟨m1,e1⟩:=I.base.tbls b ps e;obtain ⟨m2,e2⟩:=tbls b _ e1;exact ⟨m1++m2,by rw [e2,Array.append_assoc]⟩
  · obtain ⟨m,hn,hl⟩:=I.loc;refine ⟨m,ns m hn,λ i x v e1 e2 e3=> ?_⟩;obtain ⟨u,r,l⟩:=hl i x v e1 e2 e3;refine ⟨u,r,?_⟩;rcases l with l | ⟨k,c,e,z⟩
    · exact .inl l
    · exact .inr ⟨k,c,e,cellK x c e _ z⟩
  · obtain ⟨v,z⟩:=I.cell x c e;exact ⟨v,cellK x c e v z⟩
  · obtain ⟨m,⟨o,_,_,ho,_⟩,_⟩:=I.loc;exact free _ o (λ z=>(hch _ z).2.1 rfl) ho I.free
  · obtain ⟨v,o,ho,hd⟩:=I.cell x c e;exact free c o (λ z=>(hch c z).2.2.1 x c e rfl) ho (I.freeC x c e)
  · obtain ⟨e,n,ne,nf,d⟩:=I.pin p hp;have nch:p.1∉ch:=λ z=>(hch p.1 z).2.2.2 p hp rfl;exact ⟨keep p.1 p.2 ne nf nch e n,free p.1 p.2 nch e n,ne,nf,d⟩
theorem Inv.un {t':Nat} (I:Inv X pins σ H s) (u:Un X.fs [] H H' s.heap h') (hok:HOk X.prog X.w H' h'):Inv X pins σ H' { s with heap:=h',toks:=t' }:=by
  obtain ⟨m,⟨o,es,ep,ho,r⟩,_⟩:=id I.loc;obtain ⟨sl,hL⟩:=u.any ho I.free (by simp);exact I.step (g':=s.gens) (d':=s.drawn) (ch:=[]) (λ _ z=>nomatch z) (λ b o _ hb _ e n=>u.keep b o e n hb (by simp)) (λ b o _ hb _ e n=>u.slot b o e n hb (by simp)) (λ b o _ e n=>u.free b o e n (by simp)) (λ b o _ e=>u.there b o e (by simp)) u.tups u.frzs u.tbls (λ m' hm=>by
    obtain ⟨o',es',ep',ho',r'⟩:=hm;rw [ho] at ho';cases ho';exact ⟨_,es',ep',hL,r'⟩) hok I.bare
theorem Inv.call {g':Array GenState} {t':Nat} {d':Drawn} {ch:List Addr} (I:Inv X pins σ H s) (u:Un (frs X.stack) ch H H' s.heap h') (hok:HOk X.prog X.w H' h') (hg:AllBare g')
    (hch:∀ b∈ch,(b∈X.ex\/X.s₀.heap.objs.size<=b)/\b≠X.env.locals/\(∀ x c,X.env.cells.lookup x=some c->c≠b)/\∀ p∈X.pn++pins,p.1≠b):
    Inv X pins σ H' { s with heap:=h',gens:=g',drawn:=d',toks:=t' }:=by
  obtain ⟨m,⟨o,es,ep,ho,r⟩,_⟩:=id I.loc;obtain ⟨sl,hL⟩:=u.any ho I.free λ z=>(hch _ z).2.1 rfl;exact I.step (ch:=ch) hch (λ b o hL hb hc e n=>u.keep b o e n (λ z=>(Ab2.mp (I.stkSub b z)).elim hL hb) hc) (λ b o _ _ hc e n=>u.any e n hc) (λ b o hc e n=>u.free b o e n hc) (λ b o hc e=>u.there b o e hc) u.tups u.frzs u.tbls (λ m' hm=>by
    obtain ⟨o',es',ep',ho',r'⟩:=hm;rw [ho] at ho';cases ho';exact ⟨_,es',ep',hL,r'⟩) hok hg
theorem Inv.turned {t':Nat} {it:Addr} (I:Inv X pins σ H s) (k:∀ b o,b≠it->s.heap.get? b=some o->h'.get? b=some o) (hn:H it=none) (hL:it≠X.env.locals)
    (h1:it∈X.ex\/X.s₀.heap.objs.size<=it) (h2:∀ x c,X.env.cells.lookup x=some c->c≠it) (h3:∀ p∈X.pn++pins,p.1≠it):Inv X pins σ H { s with heap:=h',toks:=t' }:=by
  have nit:∀ b u,H b=some u->b≠it:=λ b u e z=>by rw [z,hn] at e;cases e
  refine I.step (g':=s.gens) (d':=s.drawn) (ch:=[it]) (λ b hb=> ?_) (λ b o _ _ hc e _=>k b o (λ z=>hc (by simp [z])) e) (λ b o _ _ hc e _=>⟨o.slots,k b o (λ z=>hc (by simp [z])) e⟩) (λ _ _ _ _ n=>n)
    (λ b o hc e=>⟨o,k b o (λ z=>hc (by simp [z])) e⟩) (λ _ _ e=>e) (λ _ _ _ e=>e) (λ b ps e=>⟨#[],by rw [e];simp⟩) (λ m hm=> ?_) (λ b u e=> ?_) I.bare
  · have e:b=it:=by simpa using hb
    subst e;exact ⟨h1,hL,h2,h3⟩
  · obtain ⟨o,es,ep,ho,r⟩:=hm;exact ⟨o,es,ep,k _ o (Ne.symm hL) ho,r⟩
  · refine (I.hok b u e).stay (λ c v hc q=>k c v ?_ q) (λ _ q=>q) λ _ _ q=>q;rcases hc with z | z
    · rw [z];exact nit b u e
    · exact nit c _ z
theorem Inv.tok (I:Inv X pins σ H s) (t:Nat):Inv X pins σ H { s with toks:=t }:=I.un (h':=s.heap) (t':=t) Un.refl I.hok
theorem Inv.kept {t':Nat} (I:Inv X pins σ H s) (k:∀ b u,s.heap.get? b=some u->h'.get? b=some u):Inv X pins σ H { s with heap:=h',toks:=t' }:=I.un (Un.kept k) (I.hok.kept k)
theorem Inv.laid {a:Addr} {o:HO} {t':Nat} (I:Inv X pins σ H s) (k:∀ b u,s.heap.get? b=some u->h'.get? b=some u) (hp:s.heap.objs.size<=a) (new:ObjOk X.prog X.w (upd H a o) h' a o):
    Inv X pins σ (upd H a o) { s with heap:=h',toks:=t' }:=I.un (Un.laid k hp (I.hok.fresh hp)) (I.hok.laid k hp new)
theorem Inv.write {x e:Addr} {o:HO} {t':Nat} (I:Inv X pins σ H s) (mu:Mut (H x)) (he:e=x\/H e=some (.own x)) (k:∀ b u,b≠e->s.heap.get? b=some u->h'.get? b=some u) (heo:∃ u,h'.get? e=some u)
    (new:ObjOk X.prog X.w (upd H x o) h' x o):Inv X pins σ (upd H x o) { s with heap:=h',toks:=t' }:=I.un (Un.write mu he k heo) (I.hok.write mu he k heo new)
theorem Inv.weak {σ':List (Option V)} (I:Inv X pins σ H s) (hl:σ'.length=σ.length) (w:∀ (i:Nat) v,σ'[i]?=some (some v)->σ[i]?=some (some v)):Inv X pins σ' H s:=
  ⟨I.ok,I.os,I.bare,I.base,let ⟨m,hn,hl'⟩:=I.loc;⟨m,hn,λ i x v e1 e2 e3=>hl' i x v e1 (w i v e2) e3⟩,I.cell,I.free,I.freeC,I.pin,I.hok,hl.trans I.len⟩
theorem Inv.pins_of {pins':List (Addr × Obj)} (I:Inv X pins σ H s) (h:∀ p∈pins',s.heap.get? p.1=some p.2/\H p.1=none/\p.1≠X.env.locals/\p.1∉X.fs/\∀ v,p.2.data≠ .cell v):Inv X pins' σ H s:=
  ⟨I.ok,I.os,I.bare,I.base,I.loc,I.cell,I.free,I.freeC,λ p hp=>(List.mem_append.mp hp).elim (λ z=>I.pin p (List.mem_append_left _ z)) (h p),I.hok,I.len⟩
theorem Lh {N:List Str} (hN:N.Nodup) {i j:Nat} {x:Str} (a:N[i]?=some x) (b:N[j]?=some x):i=j:=by
  obtain ⟨h1,e1⟩:=Ad4.mp a;obtain ⟨h2,e2⟩:=Ad4.mp b;exact (List.getElem_inj hN).mp (e1.trans e2.symm)
theorem Og {M:Model} {A:Around} {E:Value->Shared->Prop} {i:Nat} {x:Str} {v:V} {u:Value} {Q:Unit->Shared->Prop} (I:Inv X pins σ H s) (hN:X.N.Nodup) (hi:X.N[i]?=some x) (hx:Loc X.env.scope x) (r:RelV v u)
    (h:∀ s',Inv X pins (σ.set i (some v)) H s'->(∃ a,Heap.SameBut a s.heap s'.heap/\(a=X.env.locals\/X.env.cells.lookup x=some a))->Q () s') (hf:X.fn x=true\/X.env.scope.names.lookup x=some .local:=by first | exact .inl rfl | exact .inr rfl | assumption):wpAny M A (storeName X.env x u) Q E s:=by
  obtain ⟨m,hn,hl⟩:=id I.loc;have hcls:(X.env.scope.kind == .class||(X.env.scope.kind == .module&&X.env.locals != X.env.globals))=false:=by rw [I.ok.kind];rfl
  have hiσ:i<σ.length:=by rw [I.len];exact (Ad4.mp hi).1
  have cne:=I.cne;have tracked:∀ {a:Addr} {h':Heap},(∃ o,s.heap.get? a=some o/\H a=none)->Heap.SameBut a s.heap h'->HOk X.prog X.w H h':=λ {a h'} ha hs b ob e=>by
    obtain ⟨_,_,hfree⟩:=ha;refine (I.hok b ob e).stay (λ c w' hc q=>(hs.2 c ?_).trans q) (λ _ q=>q) λ _ _ q=>q;rintro rfl;rcases hc with rfl | hc
    · rw [hfree] at e;cases e
    · rw [hfree] at hc;cases hc
  rcases hx with hk | hk
  · refine wpAny_storeName_local hk hn (λ h' hn' hs=> ?_) hcls;obtain ⟨oL,_,_,hoL,_⟩:=id hn;refine h _ ⟨I.ok,I.os,I.bare,⟨λ b o e n hb hx=> ?_,λ b o e n hb hx=> ?_,I.base.free,λ b o e hx=> ?_,I.base.tups,I.base.frzs,I.base.tbls⟩,⟨_,hn',λ j y v' e1 e2 e3=> ?_⟩,λ y c e=> ?_,I.free,I.freeC,λ p hp=> ?_,tracked ⟨oL,hoL,I.free⟩ hs,by simpa using I.len⟩ ⟨_,hs, .inl rfl⟩
    · exact (hs.2 b (Ab6 (Ab3 (Aa8 e) I.ok.above))).trans (I.base.keep b o e n hb hx)
    · obtain ⟨sl,e1⟩:=I.base.slot b o e n hb hx;exact ⟨sl,(hs.2 b (Ab6 (Ab3 (Aa8 e) I.ok.above))).trans e1⟩
    · obtain ⟨o',e1⟩:=I.base.there b o e hx;exact ⟨o',(hs.2 b (Ab6 (Ab3 (Aa8 e) I.ok.above))).trans e1⟩
    · by_cases hj:j=i
      · subst hj;rw [hi] at e1;cases e1;rw [List.getElem?_set_self hiσ] at e2;cases e2;exact ⟨u,r, .inl ⟨hk,by simp⟩⟩
      · rw [List.getElem?_set_ne (Ne.symm hj)] at e2;obtain ⟨u',r',q⟩:=hl j y v' e1 e2 e3;refine ⟨u',r',?_⟩;rcases q with ⟨k,e⟩ | ⟨k,c,e,z⟩
        · refine .inl ⟨k,?_⟩;have:y≠x:=λ e=>hj (Lh hN e1 (e▸hi));simp [this,e]
        · exact .inr ⟨k,c,e,z.sameBut hs (cne y c e)⟩
    · obtain ⟨w',z⟩:=I.cell y c e;exact ⟨w',z.sameBut hs (cne y c e)⟩
    · obtain ⟨e,n,ne,nf,d⟩:=I.pin p hp;exact ⟨(hs.2 p.1 ne).trans e,n,ne,nf,d⟩
  · have hfn:X.fn x=true:=by
      rcases hf with z | z
      · exact z
      · rw [z] at hk;cases hk
    obtain ⟨c,hc⟩:=I.ok.has x (.inl hk);obtain ⟨w',z⟩:=I.cell x c hc;refine wpAny_storeName_cell I.ok.kind hk hc z (λ h' hc' hs=> ?_);obtain ⟨oc,hoc,hocd⟩:=id z;refine h { s with heap:=h' } ⟨I.ok,I.os,I.bare,⟨λ b o e n hb hx=> ?_,λ b o e n hb hx=> ?_,I.base.free,λ b o e hx=> ?_,I.base.tups,I.base.frzs,I.base.tbls⟩,⟨m,hn.sameBut hs (Ne.symm (cne x c hc)),λ j y v' e1 e2 e3=> ?_⟩,λ y c' e=> ?_,I.free,I.freeC,λ p hp=> ?_,tracked ⟨oc,hoc,I.freeC x c hc⟩ hs,by simpa using I.len⟩ ⟨c,hs, .inr hc⟩
    · exact (hs.2 b (Ab6 (Ab3 (Aa8 e) (I.ok.cab x c hfn hc)))).trans (I.base.keep b o e n hb hx)
    · obtain ⟨sl,e1⟩:=I.base.slot b o e n hb hx;exact ⟨sl,(hs.2 b (Ab6 (Ab3 (Aa8 e) (I.ok.cab x c hfn hc)))).trans e1⟩
    · obtain ⟨o',e1⟩:=I.base.there b o e hx;exact ⟨o',(hs.2 b (Ab6 (Ab3 (Aa8 e) (I.ok.cab x c hfn hc)))).trans e1⟩
    · by_cases hj:j=i
      · subst hj;rw [hi] at e1;cases e1;rw [List.getElem?_set_self hiσ] at e2;cases e2;exact ⟨u,r, .inr ⟨.inl hk,c,hc,hc'⟩⟩
      · rw [List.getElem?_set_ne (Ne.symm hj)] at e2;obtain ⟨u',r',q⟩:=hl j y v' e1 e2 e3;refine ⟨u',r',?_⟩;rcases q with q | ⟨k,c',e,z'⟩
        · exact .inl q
        · refine .inr ⟨k,c',e,z'.sameBut hs ?_⟩;rintro rfl;exact hj (Lh hN e1 (I.ok.inj _ _ _ e hc▸hi))
    · by_cases hcc:c'=c
      · subst hcc;exact ⟨_,hc'⟩
      · obtain ⟨w2,z2⟩:=I.cell y c' e;exact ⟨w2,z2.sameBut hs hcc⟩
    · obtain ⟨e,n,ne,nf,d⟩:=I.pin p hp;refine ⟨(hs.2 p.1 ?_).trans e,n,ne,nf,d⟩;intro q;rw [q,hoc] at e;have q':oc=p.2:=Ae2.inj e;exact d w' (by rw [<-q'];exact hocd)
theorem DE {M:Model} {A:Around} {E:Value->Shared->Prop} {i:Nat} {x:Str} {v:V} {u:Value} {Q:Unit->Shared->Prop} (I:Inv X pins σ H s) (hN:X.N.Nodup) (hi:X.N[i]?=some x) (hx:Loc X.env.scope x) (r:RelV v u)
    (h:∀ s',Inv X pins (σ.set i (some v)) H s'->Q () s') (hf:X.fn x=true\/X.env.scope.names.lookup x=some .local:=by first | exact .inl rfl | exact .inr rfl | assumption):wpAny M A (storeName X.env x u) Q E s:=
  Og I hN hi hx r (λ s' I' _=>h s' I') hf
theorem Inv.call' {s':Shared} {ch:List Addr} (I:Inv X pins σ H s) (ho:s'.os=s.os) (u:Un (frs X.stack) ch H H' s.heap s'.heap) (hok:HOk X.prog X.w H' s'.heap) (hg:AllBare s'.gens)
    (hch:∀ b∈ch,(b∈X.ex\/X.s₀.heap.objs.size<=b)/\b≠X.env.locals/\(∀ x c,X.env.cells.lookup x=some c->c≠b)/\∀ p∈X.pn++pins,p.1≠b):Inv X pins σ H' s':=by
  obtain ⟨h',g',d',t',o'⟩:=s';have e:o'=s.os:=ho;subst e;exact I.call (g':=g') (t':=t') (d':=d') u hok hg hch
end
abbrev XK:=Value->Option Addr->Hp->Prop
abbrev St:=List (Option V)
abbrev VK:=V->Hp->Prop
abbrev TE:=St->Hp->VK->Prop
abbrev TT:=St->Hp->(Bool->Hp->Prop)->Prop
abbrev TA:=St->Hp->(List V->Hp->Prop)->Prop
structure Ends where
  nx:St->Hp->Prop
  rt:VK
  bk:St->Hp->Prop:=λ _ _=>False
  ct:St->Hp->Prop:=λ _ _=>False
abbrev TS:=Ends->St->Hp->Prop
variable {s:Shared} {X:Cx} {H:Hp} {pos p:Pos} {pins:List (Addr × Obj)} {σ:St} {A:Around} {e a b tg c o:Expr} {x m:Str} {u:Value} {E Q:Value->Shared->Prop} {w:World} {C f dx:Addr} {P:Program} {ta:TE} {us:List Value} {es:List Expr} {ps:List Str} {i:Nat} {v:V} {h base:Heap} {mg mA:Str->Option Value} {fd:FuncData} {t:TA} {fp:List Addr} {kw:List (Str × Value)} {vs:List V} {R:V->V->Hp->Prop} {g:Int->Int->Int}
def EP (X:Cx) (pins:List (Addr × Obj)) (σ:St) (Q:VK) (u:Value) (s':Shared):Prop:=∃ v H',Inv X pins σ H' s'/\RelV v u/\Q v H'
def TP (X:Cx) (pins:List (Addr × Obj)) (σ:St) (Q:Bool->Hp->Prop) (b:Bool) (s':Shared):Prop:=∃ H',Inv X pins σ H' s'/\Q b H'
def AP (X:Cx) (pins:List (Addr × Obj)) (σ:St) (Q:List V->Hp->Prop) (us:List Value) (s':Shared):Prop:=∃ vs H',Inv X pins σ H' s'/\Vals vs us/\Q vs H'
def SP (X:Cx) (pins:List (Addr × Obj)) (D:Ends) (f:Flow) (s':Shared):Prop:=
  match f with
  | .next=>∃ σ' H',Inv X pins σ' H' s'/\D.nx σ' H'
  | .brk=>∃ σ' H',Inv X pins σ' H' s'/\D.bk σ' H'
  | .cont=>∃ σ' H',Inv X pins σ' H' s'/\D.ct σ' H'
  | .ret u=>∃ v σ' H',Inv X pins σ' H' s'/\RelV v u/\D.rt v H'
def PE (X:Cx) (e:Expr) (t:TE):Prop:=
  ∀ (pins:List (Addr × Obj)) (s:Shared) (σ:St) (H:Hp) (Q:VK),Inv X pins σ H s->t σ H Q->wpAny (model X.prog X.w) X.A (eval e X.env) (EP X pins σ Q) X.xe s
def PT (X:Cx) (e:Expr) (t:TT):Prop:=
  ∀ (pins:List (Addr × Obj)) (s:Shared) (σ:St) (H:Hp) (Q:Bool->Hp->Prop),Inv X pins σ H s->t σ H Q->wpAny (model X.prog X.w) X.A (isTrue e X.env (eval e X.env)) (TP X pins σ Q) X.xe s
def PW (X:Cx) (e:Expr) (t:TT):Prop:=
  ∀ (whole:Sem Value) (pins:List (Addr × Obj)) (s:Shared) (σ:St) (H:Hp) (Q:Bool->Hp->Prop),Inv X pins σ H s->t σ H Q->wpAny (model X.prog X.w) X.A (isTrue e X.env whole) (TP X pins σ Q) X.xe s
theorem PW.pt {t:TT} (h:PW X e t):PT X e t:=h _
def PA (X:Cx) (es:List Expr) (t:TA):Prop:=
  ∀ (pos:Pos) (pins:List (Addr × Obj)) (s:Shared) (σ:St) (H:Hp) (Q:List V->Hp->Prop),Inv X pins σ H s->t σ H Q->wpAny (model X.prog X.w) X.A (spliced (backTo pos (starEach es X.env))) (AP X pins σ Q) X.xe s
def PS (X:Cx) (st:Stmt) (t:TS):Prop:=
  ∀ (pins:List (Addr × Obj)) (s:Shared) (σ:St) (H:Hp) (D:Ends),Inv X pins σ H s->t D σ H->wpAny (model X.prog X.w) X.A (exec st X.env) (SP X pins D) X.xe s
def PSs (X:Cx) (st:List Stmt) (t:TS):Prop:=
  ∀ (pins:List (Addr × Obj)) (s:Shared) (σ:St) (H:Hp) (D:Ends),Inv X pins σ H s->t D σ H->wpAny (model X.prog X.w) X.A (execs st X.env) (SP X pins D) X.xe s
theorem thn {α:Type} {t:Sem α} {Q Q':α->Shared->Prop} {M:Model} (h:wpAny M A t Q E s) (hQ:∀ a s,Q a s->Q' a s):wpAny M A t Q' E s:=Af1 h hQ λ _ _ x=>x
section
theorem bin {tb:TE} (ha:PE X a ta) (hb:PE X b tb) (I:Inv X pins σ H s) (h:ta σ H λ x H1=>tb σ H1 λ y H2=>R x y H2)
    {α:Type} {Q:α->Shared->Prop} {f:Value->Value->Sem α}
    (hf:∀ v u s2 x y H2,Inv X pins σ H2 s2->RelV x v->RelV y u->R x y H2->wpAny (model X.prog X.w) X.A (f v u) Q X.xe s2):
    wpAny (model X.prog X.w) X.A (eval a X.env) (λ v s₁=>wpAny (model X.prog X.w) X.A (eval b X.env) (λ u s₂=>wpAny (model X.prog X.w) X.A (f v u) Q X.xe s₂) X.xe s₁) X.xe s:=by
  refine thn (ha pins s σ H _ I h) λ v s1 ⟨x,H1,I1,r1,q1⟩=> ?_;refine thn (hb pins s1 σ H1 _ I1 q1) λ u s2 ⟨y,H2,I2,r2,q2⟩=> ?_;exact hf v u s2 x y H2 I2 r1 r2 q2
def PZ (i:Nat):TE:=λ σ H Q=>∃ v,σ[i]?=some (some v)/\Q v H
def tC (v:V):TE:=λ _ H Q=>Q v H
theorem SY (hN:X.N[i]?=some x) (hv:Vis X.env.scope x) (hd:(x == ("__debug__":Str))=false:=by decide) (hcd:(x == ("__classdict__":Str))=false:=by decide):PE X (.Name x pos) (PZ i):=by
  intro pins s σ H Q I h;obtain ⟨v,e,h⟩:=h;obtain ⟨m,hn,hl⟩:=I.loc;obtain ⟨u,r,l⟩:=hl i x v hN e hv;have fin:EP X pins σ Q u s:=⟨v,H,I,r,h⟩;rcases l with ⟨hk,hm⟩ | ⟨hk,c,hc,hcell⟩
  · exact wpAny_Name (wpAny_loadName_local I.ok.kind hk hn hm fin) hd
  · rcases hk with hk | hk
    · exact wpAny_Name (wpAny_loadName_cell I.ok.kind hk hc hcell fin) hd
    · exact wpAny_Name (wpAny_loadName_free I.ok.kind hk hc hcell fin hcd) hd
theorem Ad {i j pos}:PE X (.Constant (.int i) j pos) (tC (.int i)):=λ _ _ _ H _ I h=>wpAny_Constant_int ⟨.int i,H,I.tok _,⟨_,rfl⟩,h⟩
theorem Fo {b j pos}:PE X (.Constant (.bool b) j pos) (tC (.bl b)):=λ _ _ _ H _ I h=>Constant_bool ⟨.bl b,H,I,rfl,h⟩
theorem Aq {x j pos}:PE X (.Constant (.str x) j pos) (tC (.str x)):=λ _ _ _ H _ I h=>Calls.Constant_str ⟨.str x,H,I.tok _,⟨_,rfl⟩,h⟩
def Gl (X:Cx) (x:Str):Prop:=X.env.kindOf x=some .globalImplicit
theorem Kv (I:Inv X pins σ H s) (hg:Gl X x) (hm:X.mg x=some u) (h:Q u s)
    (hd:(x == ("__debug__":Str))=false:=by decide):wpAny (model X.prog X.w) X.A (eval (.Name x pos) X.env) Q E s:=
  Calls.Name_function_global I.ok.kind hg (Calls.loadGlobal_global (by rw [I.ok.glob];exact I.mod.glob.keeps I.bk) hm h) hd
theorem Cd (I:Inv X pins σ H s) (hg:Gl X x) (hm:X.mg x=none) (hv:bootBuiltins x=some u) (h:Q u s)
    (hn:x≠"__name__":=by decide) (hd:(x == ("__debug__":Str))=false:=by decide):wpAny (model X.prog X.w) X.A (eval (.Name x pos) X.env) Q E s:=by
  obtain ⟨mb,h1,h2⟩:=I.mod.blt;exact Calls.Name_function_global I.ok.kind hg (Calls.loadGlobal_builtin (by rw [I.ok.glob];exact I.mod.glob.keeps I.bk) hm (by rw [I.ok.blt];exact h1.keeps I.bk) ((h2 x hn).trans hv) h) hd
theorem KW (hg:Gl X x) (hm:X.mg x=some u) (r:RelV v u) (hd:(x == ("__debug__":Str))=false:=by decide):PE X (.Name x pos) (tC v):=
  λ _ _ _ H _ I h=>Kv I hg hm ⟨v,H,I,r,h⟩ hd
theorem Qp (hg:Gl X x) (hm:X.mg x=none) (hv:bootBuiltins x=some u) (r:RelV v u) (hn:x≠"__name__":=by decide) (hd:(x == ("__debug__":Str))=false:=by decide):PE X (.Name x pos) (tC v):=
  λ _ _ _ H _ I h=>Cd I hg hm hv ⟨v,H,I,r,h⟩ hn hd
variable {tb:TE}
def PC (X:Cx) (op:CmpOp) (a b:Expr) (t:TE):Prop:=
  ∀ (pins:List (Addr × Obj)) (s:Shared) (σ:St) (H:Hp) (Q:VK),Inv X pins σ H s->t σ H Q->
    wpAny (model X.prog X.w) X.A (eval a X.env) (λ v s₁=>wpAny (model X.prog X.w) X.A (eval b X.env) (λ u s₂=>wpAny (model X.prog X.w) X.A (compareOp op v u) (EP X pins σ Q) X.xe s₂) X.xe s₁) X.xe s
theorem Qa (b:Expr) {op:CmpOp} (h:op≠ .In) (h2:op≠ .NotIn):behindInMarks op b=false:=by
  have e1:(op == CmpOp.In)=false:=by cases op <;> first | rfl | exact absurd rfl h
  have e2:(op == CmpOp.NotIn)=false:=by cases op <;> first | rfl | exact absurd rfl h2
  cases b <;> simp [behindInMarks,e1,e2]
def tB (t:TE):TT:=λ σ H Q=>t σ H λ x H1=>∃ c,x= .bl c/\Q c H1
theorem aA {op:CmpOp} {t:TE} (h:PC X op a b t) (h1:behindInMarks op b=false:=by first | exact Qa _ (by decide) (by decide) | rfl):PT X (.Compare a [op] [b] pos) (tB t):=by
  intro pins s σ H Q I hw;refine wpAny_isTrue_Compare1 (thn (h pins s σ H _ I hw) λ v s1 h1=>thn h1 λ u s2 h2=>thn h2 λ c s3 ⟨x,H1,I1,r1,q1⟩=> ?_) h1;obtain ⟨d,rfl,q⟩:=q1;cases r1;exact Ag8 ⟨H1,I1,q⟩
theorem Bp {t:TE} (h:PE X e t) (he:∀ whole,isTrue e X.env whole=(do let v <-whole;standAt e.pos;holding [v] (truthy v)):=by intro _;rfl):PT X e (tB t):=by
  intro pins s σ H Q I hw;refine isTrue_plain (thn (h pins s σ H _ I hw) λ v s1 ⟨x,H1,I1,r1,q1⟩=> ?_) (he _);obtain ⟨d,rfl,q⟩:=q1;cases r1;exact Ag8 ⟨H1,I1,q⟩
variable {tA tB':TT} {GQ:List Expr}
def UE (t u:TT):TT:=λ σ H Q=>t σ H λ c H1=>if c=true then u σ H1 Q else Q false H1
def tOr (t u:TT):TT:=λ σ H Q=>t σ H λ c H1=>if c=true then Q true H1 else u σ H1 Q
def UX (t:TT):TT:=λ σ H Q=>t σ H λ c H1=>Q (!c) H1
theorem F5 (ha:PT X a tA):PW X (.BoolOp .And [a] pos) tA:=by
  intro wh pins s σ H Q I h;refine isTrue_and (thn (ha pins s σ H Q I h) λ c s1 e=> ?_);cases c with
  | true=>exact isTrue_and_nil e
  | false=>exact e
theorem GK (ha:PT X a tA):PW X (.BoolOp .Or [a] pos) tA:=by
  intro wh pins s σ H Q I h;refine isTrue_or (thn (ha pins s σ H Q I h) λ c s1 e=> ?_);cases c with
  | false=>exact isTrue_or_nil e
  | true=>exact e
theorem HR (ha:PT X a tA) (hb:PW X (.BoolOp .And (b::GQ) pos) tB'):PW X (.BoolOp .And (a::b::GQ) pos) (UE tA tB'):=by
  intro wh pins s σ H Q I h;refine isTrue_and (thn (ha pins s σ H _ I h) λ c s1 ⟨H1,I1,q1⟩=> ?_);cases c with
  | true=>exact hb wh pins s1 σ H1 Q I1 q1
  | false=>exact ⟨H1,I1,q1⟩
theorem Kd (ha:PT X a tA) (hb:PW X (.BoolOp .Or (b::GQ) pos) tB'):PW X (.BoolOp .Or (a::b::GQ) pos) (tOr tA tB'):=by
  intro wh pins s σ H Q I h;refine isTrue_or (thn (ha pins s σ H _ I h) λ c s1 ⟨H1,I1,q1⟩=> ?_);cases c with
  | true=>exact ⟨H1,I1,q1⟩
  | false=>exact hb wh pins s1 σ H1 Q I1 q1
theorem Ce (ha:PT X a tA):PT X (.UnaryOp .Not a pos) (UX tA):=by
  intro pins s σ H Q I h;exact isTrue_not (ha pins s σ H (λ c H1=>Q (!c) H1) I h)
def RU (ta tb:TE):TE:=λ σ H Q=>ta σ H λ x H1=>∃ c,x= .bl c/\if c=true then tb σ H1 Q else Q (.bl false) H1
def R1 (ta:TE):TE:=λ σ H Q=>ta σ H λ x H1=>∃ c,x= .bl c/\Q (.bl (!c)) H1
theorem E2 {op} {t:TE} (h:PE X a t):PE X (.BoolOp op [a] pos) t:=λ pins s σ H Q I hw=>BoolOp_one (h pins s σ H Q I hw)
theorem Ec (ha:PE X a ta) (hb:PE X (.BoolOp .And (b::GQ) pos) tb):PE X (.BoolOp .And (a::b::GQ) pos) (RU ta tb):=by
  intro pins s σ H Q I h;refine BoolOp_and (thn (ha pins s σ H _ I h) λ v s1 ⟨x,H1,I1,r1,q1⟩=> ?_);obtain ⟨c,rfl,q1⟩:=q1;cases r1;refine Ag8 ?_;cases c with
  | true=>exact hb pins s1 σ H1 Q I1 q1
  | false=>exact ⟨.bl false,H1,I1,rfl,q1⟩
theorem Ss (ha:PE X a ta):PE X (.UnaryOp .Not a pos) (R1 ta):=by
  intro pins s σ H Q I h;refine UnaryOp_ (thn (ha pins s σ H _ I h) λ v s1 ⟨x,H1,I1,r1,q1⟩=> ?_);obtain ⟨c,rfl,q1⟩:=q1;cases r1;exact not_of (Ag8 ⟨.bl (!c),H1,I1,rfl,q1⟩)
def tIf (t:TT) (ta tb:TE):TE:=λ σ H Q=>t σ H λ c H1=>if c=true then ta σ H1 Q else tb σ H1 Q
theorem EC (hc:PT X c tA) (ha:PE X a ta) (hb:PE X b tb):PE X (.IfExp c a b pos) (tIf tA ta tb):=by
  intro pins s σ H Q I h;refine wpAny_IfExp (thn (hc pins s σ H _ I h) λ d s1 ⟨H1,I1,q1⟩=> ?_);cases d with
  | true=>exact ha pins s1 σ H1 Q I1 q1
  | false=>exact hb pins s1 σ H1 Q I1 q1
end
def SqL (K:PySem.W.Frag) (H:Hp) (a:Addr) (xs:List V):Prop:=
  Rd H a (.lst xs)\/
    ∃ (o:Obj) (its:Array Value) (n:Nat),K.lookup a=some o/\o.cls= .type "list"/\o.dict=none/\o.data= .seq its n/\its.size<=sizeLine/\Vals xs its.toList
def SqT (K:PySem.W.Frag) (H:Hp) (a:Addr) (xs:List V):Prop:=
  Rd H a (.tup xs)\/
    ∃ (o:Obj) (its:Array Value) (n:Nat),K.lookup a=some o/\o.cls= .type "tuple"/\o.data= .seq its n/\its.size<=sizeLine/\Vals xs its.toList
def ae:Value->Option V
  | .none=>some .non
  | .bool b=>some (.bl b)
  | .int i _=>some (.int i)
  | .str x _=>some (.str x)
  | .bytes b _=>some (.byt b)
  | .float b _=>some (.flt b)
  | .ref a=>some (.ref a)
  | .type n=>some (.ty n)
  | _=>none
theorem RelV.abs {x:V} (r:RelV x u):ae u=some x:=by
  cases x with
  | non=>cases r;rfl
  | bl _=>cases r;rfl
  | int _=>obtain ⟨t,rfl⟩:=r;rfl
  | str _=>obtain ⟨t,rfl⟩:=r;rfl
  | byt _=>obtain ⟨t,rfl⟩:=r;rfl
  | flt _=>obtain ⟨t,rfl⟩:=r;rfl
  | ref _=>cases r;rfl
  | ty _=>cases r;rfl
theorem RelV.inj {x y:V} (r:RelV x u) (q:RelV y u):x=y:=Ae2.inj (r.abs.symm.trans q.abs)
theorem Vals.inj:∀ {xs ys:List V} {us:List Value},Vals xs us->Vals ys us->xs=ys
  | _,_,_, .nil, .nil=>rfl
  | _,_,_, .cons r t, .cons r' t'=>by rw [r.inj r',Vals.inj t t']
section
variable {a:Addr} {xs ys:List V}
theorem SqL.of {K:PySem.W.Frag} (h:H a=some (.lst xs)):SqL K H a xs:= .inl (.inl h)
theorem SqT.of {K:PySem.W.Frag} (h:H a=some (.tup xs)):SqT K H a xs:= .inl (.inl h)
theorem Inv.list (I:Inv X pins σ H s) (h:SqL X.K H a xs):∃ its:List Value,Vals xs its/\PlainL s.heap a its.toArray/\xs.length<=sizeLine:=by
  rcases h with h | ⟨o,its,n,hk,hc,hd,hs,hz,r⟩
  · obtain ⟨z,its,n,r,e⟩:=h.ok I.hok;exact ⟨its,r,⟨_,n,e,rfl,rfl,rfl⟩,z⟩
  · refine ⟨its.toList,r,⟨o,n,I.kIn a o hk,hc,hd,by simpa using hs⟩,?_⟩;have e:=r.length;simp only [Ad2] at e;omega
theorem Inv.tuple (I:Inv X pins σ H s) (h:SqT X.K H a xs):∃ its:List Value,Vals xs its/\IsTup s.heap a its.toArray/\xs.length<=sizeLine:=by
  rcases h with h | ⟨o,its,n,hk,hc,hs,hz,r⟩
  · obtain ⟨z,its,r,p⟩:=h.ok I.hok;exact ⟨its,r,p,z⟩
  · refine ⟨its.toList,r,⟨o,I.kIn a o hk,hc,n,by simpa using hs⟩,?_⟩;have e:=r.length;simp only [Ad2] at e;omega
theorem Inv.list_inj (I:Inv X pins σ H s) (h:SqL X.K H a xs) (h':SqL X.K H a ys):xs=ys:=by
  obtain ⟨its,r,⟨o,n,e,_,_,d⟩,_⟩:=I.list h;obtain ⟨its',r',⟨o',n',e',_,_,d'⟩,_⟩:=I.list h';rw [e] at e';cases e';rw [d] at d';injection d' with d1 _;have:its=its':=by simpa using congrArg Array.toList d1
  subst this;exact r.inj r'
theorem Inv.tuple_inj (I:Inv X pins σ H s) (h:SqT X.K H a xs) (h':SqT X.K H a ys):xs=ys:=by
  obtain ⟨its,r,⟨o,e,_,n,d⟩,_⟩:=I.tuple h;obtain ⟨its',r',⟨o',e',_,n',d'⟩,_⟩:=I.tuple h';rw [e] at e';cases e';rw [d] at d';injection d' with d1 _;have:its=its':=by simpa using congrArg Array.toList d1
  subst this;exact r.inj r'
end
abbrev Cx.wish (X:Cx) (E:Value->Shared->Prop):Cx:={ X with xe:=E }
abbrev Cx.nox (X:Cx):Cx:=X.wish λ _ _=>False
theorem Cx.Ok.wish (ok:X.Ok) (E:Value->Shared->Prop):(X.wish E).Ok:=
  ⟨ok.mod,ok.kind,ok.glob,ok.blt,ok.above,ok.inj,ok.has,ok.cab,ok.hd,ok.frames,ok.stk,ok.exf,ok.bs,ok.bsz,ok.noex,ok.exfs,ok.funs,ok.frf⟩
theorem Cx.Ok.unwish (ok:(X.wish E).Ok):X.Ok:=
  ⟨ok.mod,ok.kind,ok.glob,ok.blt,ok.above,ok.inj,ok.has,ok.cab,ok.hd,ok.frames,ok.stk,ok.exf,ok.bs,ok.bsz,ok.noex,ok.exfs,ok.funs,ok.frf⟩
section
theorem Inv.wish (I:Inv X pins σ H s) (E:Value->Shared->Prop):Inv (X.wish E) pins σ H s:=⟨I.ok.wish E,I.os,I.bare,I.base,I.loc,I.cell,I.free,I.freeC,I.pin,I.hok,I.len⟩
theorem Inv.unwish (I:Inv (X.wish E) pins σ H s):Inv X pins σ H s:=⟨I.ok.unwish,I.os,I.bare,I.base,I.loc,I.cell,I.free,I.freeC,I.pin,I.hok,I.len⟩
theorem SP.unwish {D:Ends} {f:Flow} {s':Shared} (h:SP (X.wish E) pins D f s'):SP X pins D f s':=by
  cases f with
  | next=>obtain ⟨σ',H',I,q⟩:=h;exact ⟨σ',H',I.unwish,q⟩
  | brk=>obtain ⟨σ',H',I,q⟩:=h;exact ⟨σ',H',I.unwish,q⟩
  | cont=>obtain ⟨σ',H',I,q⟩:=h;exact ⟨σ',H',I.unwish,q⟩
  | ret u=>obtain ⟨v,σ',H',I,r,q⟩:=h;exact ⟨v,σ',H',I.unwish,r,q⟩
theorem PSs.nox {st:List Stmt} {t:TS} (h:PSs X.nox st t):PSs X st t:=λ pins s σ H D I hw=>
  Af1 (h pins s σ H D (I.wish _) hw) (λ _ _ q=>q.unwish) λ _ _ z=>False.elim z
end
section
variable {st:Stmt} {GQ:List Stmt} {t u:TS} {te:TE}
def R3:TS:=λ D σ H=>D.nx σ H
def US (t u:TS):TS:=λ D σ H=>t { D with nx:=u D } σ H
theorem Ay:PSs X [] R3:=λ _ _ σ H _ I h=>wpAny_execs_nil ⟨σ,H,I,h⟩
theorem Ac (h1:PS X st t) (h2:PSs X GQ u):PSs X (st::GQ) (US t u):=by
  intro pins s σ H D I h;refine wpAny_execs_cons (thn (h1 pins s σ H { D with nx:=u D } I h) λ f s1 q=> ?_);cases f with
  | next=>
    obtain ⟨σ',H',I',q⟩:=q;exact h2 pins s1 σ' H' D I' q
  | ret v=>exact q
  | brk=>exact q
  | cont=>exact q
theorem Ag (h1:PS X st t):PSs X [st] t:=by
  intro pins s σ H D I h;refine wpAny_execs_cons (thn (h1 pins s σ H D I h) λ f s1 q=> ?_);cases f with
  | next=>exact wpAny_execs_nil q
  | ret v=>exact q
  | brk=>exact q
  | cont=>exact q
theorem Inv.quiet (I:Inv X pins σ H s):interactive X.env=false:=by simp [interactive,I.ok.kind]
def PM (te:TE):TS:=λ D σ H=>te σ H λ _ H1=>D.nx σ H1
theorem AD (he:PE X e te) (hs:swapsWith e none pos.line X.env=pure false:=by rfl):PS X (.Expr e pos) (PM te):=by
  intro pins s σ H D I h;exact wpAny_Expr_any (thn (he pins s σ H _ I h) λ v s1 ⟨x,H1,I1,r1,q1⟩=>⟨σ,H1,I1,q1⟩) I.quiet hs
def Yk (te:TE):TS:=λ D σ H=>te σ H D.rt
theorem Ak (he:PE X e te):PS X (.Return (some e) pos) (Yk te):=by
  intro pins s σ H D I h;exact wpAny_Return_some (thn (he pins s σ H _ I h) λ v s1 ⟨x,H1,I1,r1,q1⟩=>⟨x,σ,H1,I1,r1,q1⟩)
def Qc (c:TT) (t u:TS):TS:=λ D σ H=>c σ H λ b H1=>if b=true then t D σ H1 else u D σ H1
theorem AM {a b:List Stmt} {tc:TT} (hc:PT X c tc) (ha:PSs X a t) (hb:PSs X b u):PS X (.If c a b pos) (Qc tc t u):=by
  intro pins s σ H D I h;refine wpAny_If (thn (hc pins s σ H _ I h) λ d s1 ⟨H1,I1,q1⟩=> ?_);cases d with
  | true=>exact ha pins s1 σ H1 D I1 q1
  | false=>exact hb pins s1 σ H1 D I1 q1
def SH:TS:=λ _ _ _=>False
theorem CU:PS X st SH:=λ _ _ _ _ _ _ h=>h.elim
end
abbrev TG:=V->St->Hp->(St->Hp->Prop)->Prop
abbrev TGs:=List V->St->Hp->(St->Hp->Prop)->Prop
def PG (X:Cx) (target:Expr) (t:TG):Prop:=
  ∀ (pins:List (Addr × Obj)) (s:Shared) (σ:St) (H:Hp) (v:V) (u:Value) (Q:St->Hp->Prop),Inv X pins σ H s->RelV v u->t v σ H Q->
    wpAny (model X.prog X.w) X.A (assign target X.env u) (λ _ s'=>∃ σ' H',Inv X pins σ' H' s'/\Q σ' H') X.xe s
def PGs (X:Cx) (ts:List Expr) (t:TGs):Prop:=
  ∀ (pins:List (Addr × Obj)) (s:Shared) (σ:St) (H:Hp) (vs:List V) (us:List Value) (Q:St->Hp->Prop),Inv X pins σ H s->Vals vs us->t vs σ H Q->
    wpAny (model X.prog X.w) X.A (assignInOrder ((assignEach ts X.env).map (·.2)) us) (λ _ s'=>∃ σ' H',Inv X pins σ' H' s'/\Q σ' H') X.xe s
abbrev QD:=V->V->V->Hp->(Hp->Prop)->Prop
def VI (X:Cx) (t:QD):Prop:=
  ∀ (pins:List (Addr × Obj)) (s:Shared) (σ:St) (H:Hp) (o i v:V) (ov iv u:Value) (Q:Hp->Prop),Inv X pins σ H s->RelV o ov->RelV i iv->RelV v u->t o i v H Q->
    wpAny (model X.prog X.w) X.A (setItem ov iv u) (λ _ s'=>∃ H',Inv X pins σ H' s'/\Q H') X.xe s
abbrev TIp:=V->V->Hp->VK->Prop
def PIp (X:Cx) (op:Operator) (t:TIp):Prop:=
  ∀ (pins:List (Addr × Obj)) (s:Shared) (σ:St) (H:Hp) (x y:V) (v u:Value) (Q:VK),Inv X pins σ H s->RelV x v->RelV y u->t x y H Q->
    wpAny (model X.prog X.w) X.A (inplaceOp op v u) (EP X pins σ Q) X.xe s
section
def A5 (i:Nat):TG:=λ v σ H Q=>Q (σ.set i (some v)) H
theorem AV (hN:X.N.Nodup) (hi:X.N[i]?=some x) (hx:Loc X.env.scope x) (hf:X.fn x=true\/X.env.scope.names.lookup x=some .local:=by first | exact .inl rfl | exact .inr rfl | assumption):PG X (.Name x pos) (A5 i):=by
  intro pins s σ H v u Q I r h;exact wpAny_assign_Name (DE I hN hi hx r (λ s' I'=>⟨_,H,I',h⟩) hf)
def KO:TGs:=λ vs σ H Q=>vs=[]/\Q σ H
def CB (t:TG) (u:TGs):TGs:=λ vs σ H Q=>∃ v r,vs=v::r/\t v σ H λ σ' H'=>u r σ' H' Q
theorem F4:PGs X [] KO:=by
  intro pins s σ H vs us Q I r h;obtain ⟨e,h⟩:=h;subst e;cases r;exact assignInOrder_nil ⟨σ,H,I,h⟩
theorem A7 {t:TG} {u:TGs} (h1:PG X e t) (h2:PGs X es u)
    (hs:(assignEach (e::es) X.env).map (·.2)=assign e X.env::(assignEach es X.env).map (·.2):=by rfl):PGs X (e::es) (CB t u):=by
  intro pins s σ H vs us Q I r h;obtain ⟨v,vr,e1,h⟩:=h;subst e1;cases r with
  | cons r rr=>
    rw [hs];refine assignInOrder_cons (thn (h1 pins s σ H _ _ _ I r h) λ _ s1 ⟨σ1,H1,I1,q1⟩=> ?_);exact h2 pins s1 σ1 H1 _ _ Q I1 rr q1
def JD (K:PySem.W.Frag) (n:Nat) (t:TGs):TG:=λ v σ H Q=>∃ a xs,v= .ref a/\SqT K H a xs/\xs.length=n/\t xs σ H Q
theorem Po {k:Nat} {t:TGs} {n:Nat} (hc:X.calm=true) (h:PGs X es t)
    (hn:(assignEach es X.env).length=n:=by rfl) (hst:(assignEach es X.env).findIdx? (·.1)=none:=by rfl):PG X (.Tuple es k pos) (JD X.K n t):=by
  intro pins s σ H v u Q I r hw;obtain ⟨a,xs,e1,hq,hl,hw⟩:=hw;subst e1;cases r;obtain ⟨its,rv,ht,hz⟩:=I.tuple hq;refine assign_Tuple_tuple (I.ok.hd hc) ht (by simp [hn, <-hl,rv.length]) hst λ h' hx=> ?_;have I1:Inv X pins σ H { s with heap:=h' }:=I.kept (t':=s.toks) λ b o e=>hx b o (Ab6 (Aa8 e)) e;exact h pins _ σ H xs _ Q I1 (by simpa using rv) hw
def U9 (to ti:TE) (t:QD):TG:=λ v σ H Q=>to σ H λ o H1=>ti σ H1 λ i H2=>t o i v H2 λ H3=>Q σ H3
theorem OY {i:Expr} {to ti:TE} {t:QD} (ho:PE X o to) (hi:PE X i ti) (hs:VI X t)
    (ha:∀ v,assign (.Subscript o i pos) X.env v=(do
      let ov <-holding [v] (eval o X.env)
      let iv <-holding [v,ov] (eval i X.env)
      standAt pos
      holding [v,ov,iv] (setItem ov iv v)
      release [v,ov,iv] []):=by intro _;rfl):PG X (.Subscript o i pos) (U9 to ti t):=by
  intro pins s σ H v u Q I r h;rw [ha];refine Aa0 (Ad5 (thn (ho pins s σ H _ I h) λ ov s1 ⟨x,H1,I1,r1,q1⟩=> ?_));refine Aa0 (Ad5 (thn (hi pins s1 σ H1 _ I1 q1) λ iv s2 ⟨y,H2,I2,r2,q2⟩=> ?_));refine Aa0 (wpAny_standAt (Aa0 (Ad5 (thn (hs pins s2 σ H2 x y v ov iv u _ I2 r1 r2 r q2) λ _ s3 ⟨H3,I3,q3⟩=> ?_))));exact wpAny_release ⟨σ,H3,I3,q3⟩
def P7 (te:TE) (g:TG):TS:=λ D σ H=>te σ H λ x H1=>g x σ H1 D.nx
theorem Gk {te:TE} {g:TG} (he:PE X e te) (hg:PG X tg g) (hs:swapsWithSole [tg] e pos.line X.env=pure false:=by rfl) (hw:swappedStores [tg] e X.env=pure none:=by rfl)
    (h1:(assignEach [tg] X.env).map (·.2)=[assign tg X.env]:=by rfl):PS X (.Assign [tg] e pos) (P7 te g):=by
  intro pins s σ H D I h;refine wpAny_Assign_stores (thn (he pins s σ H _ I h) λ v s1 ⟨x,H1,I1,r1,q1⟩=> ?_) hs hw;rw [h1];exact thn (hg pins s1 σ H1 x v _ I1 r1 q1) λ _ s2 q=>q
theorem Av {te:TE} {pos':Pos} (hN:X.N.Nodup) (hi:X.N[i]?=some x) (hx:Loc X.env.scope x) (he:PE X e te) (hs:swapsWith e (some (.Name x pos')) pos.line X.env=pure false:=by rfl) (hf:X.fn x=true\/X.env.scope.names.lookup x=some .local:=by first | exact .inl rfl | exact .inr rfl | assumption):
    PS X (.Assign [.Name x pos'] e pos) (P7 te (A5 i)):=by
  intro pins s σ H D I h;refine wpAny_Assign_Name (thn (he pins s σ H _ I h) λ v s1 ⟨y,H1,I1,r1,q1⟩=> ?_) hs;exact DE I1 hN hi hx r1 (λ s2 I2=>⟨_,H1,I2,q1⟩) hf
def Yr (i j:Nat) (ta:TA):TS:=λ D σ H=>ta σ H λ vs H1=>∃ v w,vs=[v,w]/\D.nx ((σ.set i (some v)).set j (some w)) H1
theorem Tx {j:Nat} {y:Str} {ta:TA} {px py pt:Pos} {kt k2 pt2} (hc:X.calm=true) (hN:X.N.Nodup) (hi:X.N[i]?=some x) (hj:X.N[j]?=some y) (hij:i≠j)
    (hx:X.env.scope.names.lookup x=some .local) (hy:X.env.scope.names.lookup y=some .local) (ha:PA X [a,b] ta)
    (hw:swappedStores [.Tuple [.Name x px, .Name y py] kt pt] (.Tuple [a,b] k2 pt2) X.env=pure (some [x,y]))
    (hs:swapsWithSole [.Tuple [.Name x px, .Name y py] kt pt] (.Tuple [a,b] k2 pt2) pos.line X.env=pure false:=by rfl):
    PS X (.Assign [.Tuple [.Name x px, .Name y py] kt pt] (.Tuple [a,b] k2 pt2) pos) (Yr i j ta):=by
  intro pins s σ H D I h;rw [exec_Assign_arm];refine Aa0 (wpAny_standAt ?_);rw [hs];refine Aa0 (Aa5 ?_);rw [if_neg (by decide)];refine Aa0 (Tuple_ (thn (ha _ pins s σ H _ I h) λ us s1 ⟨vs,H1,I1,r1,q1⟩=> ?_));obtain ⟨v,w,e1,q1⟩:=q1;subst e1;obtain ⟨u1,u2,rfl,rv,rw'⟩:∃ u1 u2,us=[u1,u2]/\RelV v u1/\RelV w u2:=by
    cases r1 with
    | cons p q=>
      cases q with
      | cons p' q'=>
        cases q';exact ⟨_,_,rfl,p,p'⟩
  refine Ae3 ?_ (by show 2<=sizeLine;decide);have I2:Inv X pins σ H1 { s1 with heap:=s1.heap.push { cls:= .type "tuple",data:= .seq [u1,u2].toArray } }:=I1.kept (t':=s1.toks) λ b o e=>Aa3 _ e;rw [hw];refine Aa0 (Aa5 ?_);show wpAny (model X.prog X.w) X.A (do rule "assign.swapped-stores";let items <-unpackItems (.ref s1.heap.objs.size) 2 none;assignInOrder [λ v=>bindName X.env y v,λ v=>bindName X.env x v] items.reverse;pure Flow.next) _ _ _;refine Aa0 (wpAny_rule (Aa0 (unpackItems_tuple (items:= #[u1,u2]) (I.ok.hd hc) (IsTup.new s1.heap _) λ h' hx'=> ?_)));have I3:=I2.kept (h':=h') (t':=s1.toks) λ b o e=>hx' b o (Ab6 (Aa8 e)) e;show wpAny _ _ (assignInOrder [λ v=>bindName X.env y v,λ v=>bindName X.env x v] [u2,u1] >>= λ _=>pure Flow.next) _ _ _;refine Aa0 (assignInOrder_cons (wpAny_bindName (DE I3 hN hj (.inl hy) rw' (λ s2 I4=> ?_) (.inr hy))));refine assignInOrder_cons (wpAny_bindName (DE I4 hN hi (.inl hx) rv (λ s3 I5=>assignInOrder_nil (Aa5 ?_)) (.inr hx)));rw [List.set_comm _ _ (Ne.symm hij)] at I5;exact ⟨_,H1,I5,q1⟩
def VL (i:Nat) (te:TE) (ti:TIp):TS:=λ D σ H=>∃ x,σ[i]?=some (some x)/\te σ H λ y H1=>ti x y H1 λ z H2=>D.nx (σ.set i (some z)) H2
theorem Pb {te:TE} {op:Operator} {ti:TIp} {pos':Pos} (hN:X.N.Nodup) (hi:X.N[i]?=some x) (hx:Loc X.env.scope x) (he:PE X e te) (ho:PIp X op ti) (hf:X.fn x=true\/X.env.scope.names.lookup x=some .local:=by first | exact .inl rfl | exact .inr rfl | assumption):
    PS X (.AugAssign (.Name x pos') op e pos) (VL i te ti):=by
  intro pins s σ H D I h;obtain ⟨v,e1,h⟩:=h;obtain ⟨m,hn,hl⟩:=I.loc;have vis:Vis X.env.scope x:=by rcases hx with k | k;exact .inl k;exact .inr (.inl k)
  obtain ⟨u,r,l⟩:=hl i x v hi e1 vis;refine wpAny_AugAssign_Name ?_;have go:wpAny (model X.prog X.w) X.A (eval e X.env) (λ w s₂=>wpAny (model X.prog X.w) X.A (inplaceOp op u w) (λ r s₃=>wpAny (model X.prog X.w) X.A (storeName X.env x r) (λ _=>SP X pins D .next) X.xe s₃) X.xe s₂) X.xe s:=by
    refine thn (he pins s σ H _ I h) λ w s1 ⟨y,H1,I1,r1,q1⟩=> ?_;refine thn (ho pins s1 σ H1 v y u w _ I1 r r1 q1) λ z s2 ⟨zv,H2,I2,r2,q2⟩=> ?_;exact DE I2 hN hi hx r2 (λ s3 I3=>⟨_,H2,I3,q2⟩) hf
  rcases l with ⟨hk,hm⟩ | ⟨hk,c,hc,hcell⟩
  · exact wpAny_loadName_local I.ok.kind hk hn hm go
  · rcases hk with hk | hk
    · exact wpAny_loadName_cell I.ok.kind hk hc hcell go
    · rcases hx with k | k
      · have:X.env.scope.names.lookup x=some .free:=hk;rw [k] at this;cases this
      · have:X.env.scope.names.lookup x=some .free:=hk;rw [k] at this;cases this
end
structure It where
  go:Nat->Hp->Prop
  yld:Nat->Hp->V->Hp->Prop
  stop:Nat->Hp->Prop
def Dk (X:Cx) (pins:List (Addr × Obj)) (H:Hp) (b:Addr):Prop:=
  H b=none/\b≠X.env.locals/\b∉X.fs/\(b∈X.ex\/X.s₀.heap.objs.size<=b)/\(∀ x c,X.env.cells.lookup x=some c->c≠b)/\∀ p∈X.pn++pins,p.1≠b
theorem Inv.fpOk {H':Hp} {b:Addr} (I:Inv X pins σ H s) (hb:s.heap.objs.size<=b) (hn:H' b=none):Dk X pins H' b:=by
  refine ⟨hn,Ah0 (Ab3 I.lt hb),I.nofs hb, .inr (Ac5 I.sz hb),λ x c e z=> ?_,λ p hp z=> ?_⟩
  · obtain ⟨v,q⟩:=I.cell x c e;exact absurd (Ab3 q.lt (by rw [z];exact hb)) (Nat.lt_irrefl _)
  · exact absurd (Ab3 (Aa8 (I.pin p hp).1) (by rw [z];exact hb)) (Nat.lt_irrefl _)
structure Turn (P:Program) (w:World) (K:PySem.W.Frag) (tg:Expr) (J:It) (fp:List Addr) (it:Addr) (tn:Nat->Heap->Prop):Prop where
  mem:it∈fp
  obj:∀ i h,tn i h->∀ b∈fp,∃ o,h.get? b=some o/\∀ v,o.data≠ .cell v
  keep:∀ i h h',tn i h->(∀ b∈fp,∀ o,h.get? b=some o->h'.get? b=some o)->tn i h'
  item:∀ (X:Cx),X.prog=P->X.w=w->X.K=K->X.calm=true->∀ (i:Nat) (pins:List (Addr × Obj)) (s:Shared) (σ:St) (H:Hp) (E:Value->Shared->Prop),Inv X pins σ H s->(∀ b∈fp,Dk X pins H b)->tn i s.heap->J.go i H->
    wpAny (model P w) X.A (pyNext (.ref it)) (λ r s1=>∃ u,r=some u/\
      wpAny (model P w) X.A (letOwnedTupleGo tg (.ref it) u) (λ _ s2=>∃ x H',Inv X pins σ H' s2/\RelV x u/\J.yld i H x H'/\tn (i+1) s2.heap/\∀ b∈fp,H' b=none) E s1) E s
  done:∀ (X:Cx),X.prog=P->X.w=w->X.K=K->X.calm=true->∀ (i:Nat) (pins:List (Addr × Obj)) (s:Shared) (σ:St) (H:Hp) (E:Value->Shared->Prop),Inv X pins σ H s->(∀ b∈fp,Dk X pins H b)->tn i s.heap->J.stop i H->
    wpAny (model P w) X.A (pyNext (.ref it)) (λ r s1=>r=none/\Inv X pins σ H s1) E s
  self:∀ (A:Around) (i:Nat) (s:Shared) (Q:Value->Shared->Prop) (E:Value->Shared->Prop),tn i s.heap->Q (.ref it) s->wpAny (model P w) A (pyIter (.ref it)) Q E s
abbrev TI:=St->Hp->(It->Hp->Prop)->Prop
def PIE (X:Cx) (pins:List (Addr × Obj)) (σ:St) (tg:Expr) (R:It->Hp->Prop) (itv:Value) (s2:Shared):Prop:=
  ∃ (it:Addr) (fp:List Addr) (tn:Nat->Heap->Prop) (J:It) (H':Hp),itv= .ref it/\Inv X pins σ H' s2/\Turn X.prog X.w X.K tg J fp it tn/\tn 0 s2.heap/\(∀ b∈fp,Dk X pins H' b)/\R J H'
def PI (X:Cx) (tg iter:Expr) (wi:TI):Prop:=
  ∀ (pins:List (Addr × Obj)) (s:Shared) (σ:St) (H:Hp) (R:It->Hp->Prop),Inv X pins σ H s->wi σ H R->
    wpAny (model X.prog X.w) X.A (eval iter X.env) (λ v s1=>wpAny (model X.prog X.w) X.A (pyIter v) (PIE X pins σ tg R) X.xe s1) X.xe s
theorem Nf {M:Model} {it:Addr} {o:Obj} {n:String} {vs:Array Value} {Q:Unit->Shared->Prop} (ho:s.heap.get? it=some o) (hc:o.cls= .type n) (hd:o.data= .fields vs)
    (hn:["enumerate","zip","dict_itemiterator","dict_reverseitemiterator","odict_iterator","itertools.zip_longest","itertools.pairwise"].contains n=false) (hQ:Q () s):wpAny M A (letOwnedTupleGo tg (.ref it) u) Q E s:=by
  unfold letOwnedTupleGo;cases tg <;> first
    | exact Aa5 hQ
    | (cases u <;> first
        | exact Aa5 hQ
        | (refine Aa0 (wpAny_load ho ?_)
           rw [hc,hd];show wpAny M A (if (["enumerate","zip","dict_itemiterator","dict_reverseitemiterator","odict_iterator","itertools.zip_longest","itertools.pairwise"].contains n&&vs[0]? == some (rawInt _))=true then _ else _) Q E s;rw [if_neg (by intro h;rw [hn,Bool.false_and] at h;cases h)];exact Aa5 hQ))
def Itl (K:PySem.W.Frag) (a:Addr):It:=
  ⟨λ i H=>∃ xs x,SqL K H a xs/\xs[i]?=some x,λ i H x H'=>H'=H/\∀ xs,SqL K H a xs->xs[i]?=some x,λ i H=>∃ xs,SqL K H a xs/\xs.length<=i⟩
def Itt (K:PySem.W.Frag) (a:Addr):It:=
  ⟨λ i H=>∃ xs x,SqT K H a xs/\xs[i]?=some x,λ i H x H'=>H'=H/\∀ xs,SqT K H a xs->xs[i]?=some x,λ i H=>∃ xs,SqT K H a xs/\xs.length<=i⟩
def Itr (lo:Int) (n:Nat):It:=⟨λ i _=>i<n,λ i H x H'=>H'=H/\x= .int (lo+i),λ i _=>n<=i⟩
theorem Kf {K:PySem.W.Frag} (a it:Addr):Turn P w K tg (Itl K a) [it] it (λ i h=>h.IsListIter it a i) where
  mem:=by simp
  obj:=λ i h st b hb=>by
    have e:b=it:=by simpa using hb
    subst e;obtain ⟨o,e,c,d⟩:=st;exact ⟨o,e,λ v z=>by rw [d] at z;cases z⟩
  keep:=λ i h h' st k=>st.at λ o e=>k it (by simp) o e
  item:=by
    intro X hP hw hK hc i pins s σ H E I hf st hg;subst hP hw hK;obtain ⟨xs,x,hq,hx⟩:=hg;obtain ⟨its,rv,p,hz⟩:=I.list hq;obtain ⟨u,hu,ru⟩:=rv.get hx;obtain ⟨f0,f1,f2,f3,f4,f5⟩:=hf it (by simp);refine wpAny_pyNext_list_item st p.isList (x:=u) (by simpa using hu) λ h' st' sb=> ?_;have I1:Inv X pins σ H { s with heap:=h' }:=I.turned (t':=s.toks) (λ b o hb e=>(sb.2 b hb).trans e) f0 f1 f3 f4 f5;obtain ⟨o,e,c,d⟩:=id st';exact ⟨u,rfl,Nf (s:={ s with heap:=h' }) e c d (by decide) ⟨x,H,I1,ru,⟨rfl,λ ys hy=>by rw [I.list_inj hy hq];exact hx⟩,st',λ b hb=>(hf b hb).1⟩⟩
  done:=by
    intro X hP hw hK hc i pins s σ H E I hf st hg;subst hP hw hK;obtain ⟨xs,hq,hx⟩:=hg;obtain ⟨its,rv,p,hz⟩:=I.list hq;obtain ⟨f0,f1,f2,f3,f4,f5⟩:=hf it (by simp);have hl:=rv.length;exact wpAny_pyNext_list_end (I.ok.hd hc) st p.isList (by simp;omega) λ h' eb=>⟨rfl,I.turned (t':=s.toks) (λ b o hb e=>eb b o hb e) f0 f1 f3 f4 f5⟩
  self:=λ _ _ _ _ _ st h=>wpAny_pyIter_listiter st h
theorem Iu {K:PySem.W.Frag} (a it:Addr):Turn P w K tg (Itt K a) [it] it (λ i h=>h.IsTupleIter it a i) where
  mem:=by simp
  obj:=λ i h st b hb=>by
    have e:b=it:=by simpa using hb
    subst e;obtain ⟨o,e,c,d⟩:=st;exact ⟨o,e,λ v z=>by rw [d] at z;cases z⟩
  keep:=λ i h h' st k=>st.at λ o e=>k it (by simp) o e
  item:=by
    intro X hP hw hK hc i pins s σ H E I hf st hg;subst hP hw hK;obtain ⟨xs,x,hq,hx⟩:=hg;obtain ⟨its,rv,p,hz⟩:=I.tuple hq;obtain ⟨u,hu,ru⟩:=rv.get hx;obtain ⟨f0,f1,f2,f3,f4,f5⟩:=hf it (by simp);refine wpAny_pyNext_tuple_item st (show s.heap.IsTuple a its.toArray from p) (x:=u) (by simpa using hu) λ h' st' sb=> ?_;have I1:Inv X pins σ H { s with heap:=h' }:=I.turned (t':=s.toks) (λ b o hb e=>(sb.2 b hb).trans e) f0 f1 f3 f4 f5;obtain ⟨o,e,c,d⟩:=id st';exact ⟨u,rfl,Nf (s:={ s with heap:=h' }) e c d (by decide) ⟨x,H,I1,ru,⟨rfl,λ ys hy=>by rw [I.tuple_inj hy hq];exact hx⟩,st',λ b hb=>(hf b hb).1⟩⟩
  done:=by
    intro X hP hw hK hc i pins s σ H E I hf st hg;subst hP hw hK;obtain ⟨xs,hq,hx⟩:=hg;obtain ⟨its,rv,p,hz⟩:=I.tuple hq;obtain ⟨f0,f1,f2,f3,f4,f5⟩:=hf it (by simp);have hl:=rv.length;exact wpAny_pyNext_tuple_end (I.ok.hd hc) st (show s.heap.IsTuple a its.toArray from p) (by simp;omega) λ h' eb=>⟨rfl,I.turned (t':=s.toks) (λ b o hb e=>eb b o hb e) f0 f1 f3 f4 f5⟩
  self:=λ _ _ _ _ _ st h=>wpAny_pyIter_tupleiter st h
theorem LU {K:PySem.W.Frag} (it:Addr) (lo:Int) (n:Nat):Turn P w K tg (Itr lo n) [it] it (λ i h=>IsRangeIter h it (lo+(i:Nat)*1) ((n:Int) - (i:Nat)) 1) where
  mem:=by simp
  obj:=λ i h st b hb=>by
    have e:b=it:=by simpa using hb
    subst e;exact ⟨_,st,λ v z=>by
      have z':Data.fields _=Data.cell v:=z;cases z'⟩
  keep:=λ i h h' st k=>k it (by simp) _ st
  item:=by
    intro X hP hw hK hc i pins s σ H E I hf st hg;subst hP hw hK;obtain ⟨f0,f1,f2,f3,f4,f5⟩:=hf it (by simp);have W:=Walks.range (prog:=X.prog) (w:=X.w) (I.ok.hd hc) it lo 1 n;refine W.item i s _ _ hg st λ v h' tk hv st' kk=> ?_;obtain ⟨t,rfl⟩:=hv;have I1:Inv X pins σ H { s with heap:=h',toks:=tk }:=I.turned (λ b o hb e=>kk b o (by simpa using hb) e) f0 f1 f3 f4 f5;refine ⟨_,rfl,Nf (s:={ s with heap:=h',toks:=tk }) (n:="range_iterator") st' rfl rfl (by decide) ⟨.int (lo+i),H,I1,⟨t,?_⟩,⟨rfl,rfl⟩,st',λ b hb=>(hf b hb).1⟩⟩;rw [Int.mul_one]
  done:=by
    intro X hP hw hK hc i pins s σ H E I hf st hg;subst hP hw hK;obtain ⟨f0,f1,f2,f3,f4,f5⟩:=hf it (by simp);exact wpAny_pyNext_range_end (I.ok.hd hc) st (by have:n<=i:=hg;omega) λ h' eb=>⟨rfl,I.turned (t':=s.toks) (λ b o hb e=>eb b o hb e) f0 f1 f3 f4 f5⟩
  self:=λ _ _ _ _ _ st h=>wpAny_pyIter_rangeiter st h
section
def Nt (K:PySem.W.Frag) (tl:TE):TI:=λ σ H R=>tl σ H λ x H1=>∃ a,x= .ref a/\(∃ xs,SqL K H1 a xs)/\R (Itl K a) H1
def TJ (K:PySem.W.Frag) (tl:TE):TI:=λ σ H R=>tl σ H λ x H1=>∃ a,x= .ref a/\(∃ xs,SqT K H1 a xs)/\R (Itt K a) H1
theorem QX {l:Expr} {tl:TE} (hl:PE X l tl):PI X tg l (Nt X.K tl):=by
  intro pins s σ H R I h;refine thn (hl pins s σ H _ I h) λ v s1 ⟨x,H1,I1,r1,q1⟩=> ?_;obtain ⟨a,e,⟨xs,hq⟩,q⟩:=q1;subst e;cases r1;obtain ⟨its,rv,p,hz⟩:=I1.list hq;refine wpAny_pyIter_list p.isList ?_;refine ⟨s1.heap.objs.size,[s1.heap.objs.size],_,_,H1,rfl,I1.kept (t':=s1.toks) λ b o e=>Aa3 _ e,Kf a _,⟨_,Aa6 _ rfl,rfl,rfl⟩,λ b hb=> ?_,q⟩;have e:b=s1.heap.objs.size:=by simpa using hb
  subst e;exact I1.fpOk (Aa7 _) (I1.hok.fresh (Aa7 _))
theorem SJ {l:Expr} {tl:TE} (hl:PE X l tl):PI X tg l (TJ X.K tl):=by
  intro pins s σ H R I h;refine thn (hl pins s σ H _ I h) λ v s1 ⟨x,H1,I1,r1,q1⟩=> ?_;obtain ⟨a,e,⟨xs,hq⟩,q⟩:=q1;subst e;cases r1;obtain ⟨its,rv,p,hz⟩:=I1.tuple hq;refine wpAny_pyIter_tuple (show s1.heap.IsTuple a its.toArray from p) ?_;refine ⟨s1.heap.objs.size,[s1.heap.objs.size],_,_,H1,rfl,I1.kept (t':=s1.toks) λ b o e=>Aa3 _ e,Iu a _,⟨_,Aa6 _ rfl,rfl,rfl⟩,λ b hb=> ?_,q⟩;have e:b=s1.heap.objs.size:=by simpa using hb
  subst e;exact I1.fpOk (Aa7 _) (I1.hok.fresh (Aa7 _))
theorem Lr {R:It->Hp->Prop} {lo hi:Int} {t u v:Tok} {tk:Nat} (I:Inv X pins σ H s) (h1: -(2 ^ 62)<=lo) (h2:lo<2 ^ 62) (h3: -(2 ^ 62)<=hi) (h4:hi<2 ^ 62)
    (q:R (Itr lo (hi - lo).toNat) H):wpAny (model X.prog X.w) X.A (pyIter (.ref s.heap.objs.size)) (PIE X pins σ tg R) E { s with heap:=s.heap.push { cls:= .type "range",data:= .fields #[.int lo t, .int hi u, .int 1 v] },toks:=tk }:=by
  refine wpAny_pyIter_range (IsRange.new ..) (small_one h1 h2 h3 h4) ?_;have I1:Inv X pins σ H { s with heap:=s.heap.push { cls:= .type "range",data:= .fields #[.int lo t, .int hi u, .int 1 v] },toks:=tk }:=I.kept λ b o e=>Aa3 _ e;refine ⟨(s.heap.push { cls:= .type "range",data:= .fields #[.int lo t, .int hi u, .int 1 v] }).objs.size,[(s.heap.push { cls:= .type "range",data:= .fields #[.int lo t, .int hi u, .int 1 v] }).objs.size],_,_,H,rfl,
    I1.kept (t':=tk) λ b o e=>Aa3 _ e,LU _ lo (hi - lo).toNat,?_,λ b hb=> ?_,q⟩
  · have e1:lo+((0:Nat):Int)*1=lo:=by simp
    have e2:(((hi - lo).toNat:Nat):Int) - ((0:Nat):Int)=Builtin.Range.rangeSize lo hi 1:=by rw [rangeSize_one];split <;> omega
    show IsRangeIter _ _ (lo+((0:Nat):Int)*1) ((((hi - lo).toNat:Nat):Int) - ((0:Nat):Int)) 1;rw [e1,e2];exact Aa6 _ rfl
  · have e:b=(s.heap.push { cls:= .type "range",data:= .fields #[.int lo t, .int hi u, .int 1 v] }).objs.size:=by simpa using hb
    subst e;exact I1.fpOk (Aa7 _) (I1.hok.fresh (Aa7 _))
def RI (ta:TA):TI:=λ σ H R=>ta σ H λ vs H1=>∃ j:Int,vs=[.int j]/\ -(2 ^ 62)<=j/\j<2 ^ 62/\R (Itr 0 j.toNat) H1
def RM (ta:TA):TI:=λ σ H R=>ta σ H λ vs H1=>∃ i j:Int,vs=[.int i, .int j]/\(-(2 ^ 62)<=i/\i<2 ^ 62/\ -(2 ^ 62)<=j/\j<2 ^ 62)/\R (Itr i (j - i).toNat) H1
theorem Gm {ta:TA} (hg:Gl X "range") (hm:X.mg "range"=none) (ha:PA X [a] ta) (hs:starEach [a] X.env=[(false,eval a X.env)]:=by rfl):PI X tg (.Call (.Name "range" p) [a] [] pos) (RI ta):=by
  intro pins s σ H R I h;refine Call_ (Cd I hg hm boot_range (PyProof.Rows.callWith_type1 (thn (ha pos pins s σ H _ I h) λ us s1 ⟨vs,H1,I1,r1,q1⟩=> ?_) hs rfl));obtain ⟨j,e,q1,q2,q⟩:=q1;subst e;cases r1 with
  | cons r rr=>
    cases rr;obtain ⟨t,rfl⟩:=r;exact call_range_1 (Lr I1 (by omega) (by omega) q1 q2 (by simpa using q))
theorem Ki {ta:TA} (hg:Gl X "range") (hm:X.mg "range"=none) (ha:PA X [a,b] ta) (hs:starEach [a,b] X.env=[(false,eval a X.env),(false,eval b X.env)]:=by rfl) (hs2:starEach [b] X.env=[(false,eval b X.env)]:=by rfl):
    PI X tg (.Call (.Name "range" p) [a,b] [] pos) (RM ta):=by
  intro pins s σ H R I h;refine Call_ (Cd I hg hm boot_range (PyProof.Rows.callWith_type1 (thn (ha pos pins s σ H _ I h) λ us s1 ⟨vs,H1,I1,r1,q1⟩=> ?_) (by rw [hs,hs2]) (by rw [hs2];rfl)));obtain ⟨i,j,e,⟨q1,q2,q3,q4⟩,q⟩:=q1;subst e;cases r1 with
  | cons r rr=>
    cases rr with
    | cons r' rr=>
      cases rr;obtain ⟨t,rfl⟩:=r;obtain ⟨t',rfl⟩:=r';exact call_range_2 (Lr I1 q1 q2 q3 q4 q)
def To (wi:TI) (g:TG) (tb:TS):TS:=λ D σ H=>wi σ H λ J H1=>∃ W:Nat->Nat->St->Hp->Prop,(∃ m,W 0 m σ H1)/\∀ i m σ H,W i m σ H->
  (J.stop i H/\D.nx σ H)\/(J.go i H/\∃ N:St->Hp->Prop,(∀ σ' H',N σ' H'->∃ m',m'<m/\W (i+1) m' σ' H')/\∀ x H',J.yld i H x H'->g x σ H' λ σ2 H2=>tb { D with nx:=N,ct:=N,bk:=D.nx } σ2 H2)
def IN (fp:List Addr) (h:Heap):List (Addr × Obj):=fp.filterMap λ b=>(h.get? b).map λ o=>(b,o)
theorem DO {b:Addr} {o:Obj} (hb:b∈fp) (e:h.get? b=some o):(b,o)∈IN fp h:=List.mem_filterMap.mpr ⟨b,hb,by rw [e];rfl⟩
theorem NQ {p:Addr × Obj} (hp:p∈IN fp h):p.1∈fp/\h.get? p.1=some p.2:=by
  obtain ⟨b,hb,e⟩:=List.mem_filterMap.mp hp;cases q:h.get? b with
  | none=>rw [q] at e;cases e
  | some o=>
    rw [q] at e;have e':(b,o)=p:=Ae2.inj e;subst e';exact ⟨hb,q⟩
theorem Inv.pinned (I:Inv X pins σ H s) (hf:∀ b∈fp,Dk X pins H b) (ho:∀ b∈fp,∃ o,s.heap.get? b=some o/\∀ v,o.data≠ .cell v):Inv X (pins++IN fp s.heap) σ H s:=
  I.pins_of λ p hp=>(List.mem_append.mp hp).elim (λ z=>I.pin p (Ac8 _ z)) λ z=>by
    obtain ⟨hb,e⟩:=NQ z;obtain ⟨f0,f1,f2,_⟩:=hf p.1 hb;obtain ⟨o,e',d⟩:=ho p.1 hb;rw [e] at e';cases e';exact ⟨e,f0,f1,f2,d⟩
theorem Inv.unpinned {pl:List (Addr × Obj)} (I:Inv X (pins++pl) σ H s):Inv X pins σ H s:=I.pins_of λ p hp=>I.pin p (Ac8 _ (List.mem_append_left _ hp))
theorem EL {iter:Expr} {body:List Stmt} {wi:TI} {g:TG} {tb:TS} (hp:PassesOwn (model X.prog X.w) X.A X.env X.xe) (hc:X.calm=true) (hi:PI X tg iter wi) (hg:PG X tg g) (hb:PSs X body tb)
    (hs:∀ x,foldedSetIterable iter X.env x=pure x:=by intro _;rfl):PS X (.For tg iter body [] pos) (To wi g tb):=by
  intro pins s σ H D I h;refine wpAny_For (thn (hi pins s σ H _ I h) λ v s1 h1=>thn h1 λ itv s2 h2=> ?_) hs;obtain ⟨it,fp,tn,J,H2,e,I2,T,st2,f2,W,⟨m0,w0⟩,turn⟩:=h2;subst e;have stat:∀ {H':Hp},(∀ b∈fp,H' b=none)->∀ b∈fp,Dk X pins H' b:=λ hn b hb=>⟨hn b hb,(f2 b hb).2⟩;refine codeAny_forLoop_any (λ n s'=>∃ i σ' H',Inv X pins σ' H' s'/\tn i s'.heap/\(∀ b∈fp,H' b=none)/\W i n σ' H') ?_ m0 ⟨0,σ,H2,I2,st2,λ b hb=>(f2 b hb).1,w0⟩;rintro n s3 ⟨i,σ3,H3,I3,st3,fr3,w3⟩;rcases turn i n σ3 H3 w3 with ⟨stop,qn⟩ | ⟨go,N,hN,step⟩
  · refine wpAny_passesOwn hp (thn (T.done X rfl rfl rfl hc i pins s3 σ3 H3 X.xe I3 (stat fr3) st3 stop) λ r s4 ⟨hr,I4⟩=> ?_);subst hr;exact wpAny_execs_nil ⟨σ3,H3,I4,qn⟩
  · refine wpAny_passesOwn hp (thn (T.item X rfl rfl rfl hc i pins s3 σ3 H3 X.xe I3 (stat fr3) st3 go) λ r s4 ⟨u,hr,h4⟩=> ?_);subst hr;refine wpAny_passesOwn hp (thn h4 λ _ s5 ⟨x,H5,I5,r5,y5,st5,fr5⟩=> ?_);have I5':=I5.pinned (stat fr5) (T.obj _ _ st5);refine wpAny_passesOwn hp (thn (hg _ s5 σ3 H5 x u _ I5' r5 (step x H5 y5)) λ _ s6 ⟨σ6,H6,I6,q6⟩=> ?_);refine wpAny_passesOwn hp (thn (hb _ s6 σ6 H6 _ I6 q6) λ f s7 q7=> ?_);have again:∀ {σ7:St} {H7:Hp},Inv X (pins++IN fp s5.heap) σ7 H7 s7->N σ7 H7->∃ m,m<n/\∃ i σ' H',Inv X pins σ' H' s7/\tn i s7.heap/\(∀ b∈fp,H' b=none)/\W i m σ' H':=λ {σ7 H7} I7 n7=>by
      obtain ⟨m',hm,w7⟩:=hN σ7 H7 n7;refine ⟨m',hm,i+1,σ7,H7,I7.unpinned,T.keep _ _ _ st5 λ b hb o e=>(I7.pin (b,o) (Ac8 _ (Ac8 _ (DO hb e)))).1,λ b hb=> ?_,w7⟩;obtain ⟨o,e,d⟩:=T.obj _ _ st5 b hb;exact (I7.pin (b,o) (Ac8 _ (Ac8 _ (DO hb e)))).2.1
    cases f with
    | next=>obtain ⟨σ7,H7,I7,n7⟩:=q7;exact again I7 n7
    | cont=>obtain ⟨σ7,H7,I7,n7⟩:=q7;exact again I7 n7
    | brk=>obtain ⟨σ7,H7,I7,q7⟩:=q7;exact ⟨σ7,H7,I7.unpinned,q7⟩
    | ret v=>obtain ⟨x7,σ7,H7,I7,r7,q7⟩:=q7;exact ⟨x7,σ7,H7,I7.unpinned,r7,q7⟩
end
abbrev R2:=V->V->Hp->VK->Prop
def OpR (X:Cx) (f:Value->Value->Sem Value) (r:R2):Prop:=
  ∀ (pins:List (Addr × Obj)) (s:Shared) (σ:St) (H:Hp) (x y:V) (v u:Value) (Q:VK),Inv X pins σ H s->RelV x v->RelV y u->r x y H Q->
    wpAny (model X.prog X.w) X.A (f v u) (EP X pins σ Q) X.xe s
def BY (X:Cx) (f:Value) (r:List V->Hp->VK->Prop):Prop:=
  ∀ (pins:List (Addr × Obj)) (s:Shared) (σ:St) (H:Hp) (xs:List V) (us:List Value) (Q:VK),Inv X pins σ H s->Vals xs us->r xs H Q->
    wpAny (model X.prog X.w) X.A (call f us) (EP X pins σ Q) X.xe s
def ah (X:Cx) (r:V->Hp->(Bool->Hp->Prop)->Prop):Prop:=
  ∀ (pins:List (Addr × Obj)) (s:Shared) (σ:St) (H:Hp) (x:V) (v:Value) (Q:Bool->Hp->Prop),Inv X pins σ H s->RelV x v->r x H Q->
    wpAny (model X.prog X.w) X.A (truthy v) (TP X pins σ Q) X.xe s
def tOp (r:R2) (ta tb:TE):TE:=λ σ H Q=>ta σ H λ x H1=>tb σ H1 λ y H2=>r x y H2 Q
def rI (C:Int->Int->Prop) (g:Int->Int->V):R2:=λ x y H Q=>∃ i j,x= .int i/\y= .int j/\C i j/\Q (g i j) H
def rI0 (g:Int->Int->V):R2:=λ x y H Q=>∃ i j,x= .int i/\y= .int j/\Q (g i j) H
section
variable {tb tc:TE}
theorem Sd (ha:PE X a ta) (hb:PE X b tb) (I:Inv X pins σ H s)
    (h:ta σ H λ x H1=>tb σ H1 λ y H2=>R x y H2) {f:Value->Value->Sem Value}
    (hf:∀ v u s2 x y H2,Inv X pins σ H2 s2->RelV x v->RelV y u->R x y H2->wpAny (model X.prog X.w) X.A (f v u) Q X.xe s2):
    wpAny (model X.prog X.w) X.A (eval a X.env) (λ v s₁=>wpAny (model X.prog X.w) X.A (eval b X.env) (λ u s₂=>wpAny (model X.prog X.w) X.A (f v u) Q X.xe s₂) X.xe s₁) X.xe s:=by
  refine thn (ha pins s σ H _ I h) λ v s1 ⟨x,H1,I1,r1,q1⟩=> ?_;refine thn (hb pins s1 σ H1 _ I1 q1) λ u s2 ⟨y,H2,I2,r2,q2⟩=> ?_;exact hf v u s2 x y H2 I2 r1 r2 q2
theorem Al {op:Operator} {r:R2} (ho:OpR X (binaryOp op) r) (ha:PE X a ta) (hb:PE X b tb):PE X (.BinOp a op b pos) (tOp r ta tb):=by
  intro pins s σ H Q I h;exact wpAny_BinOp (Sd ha hb I h λ v u s2 x y H2 I2 rx ry q=>ho pins s2 σ H2 x y v u Q I2 rx ry q)
theorem opI {f:Value->Value->Sem Value} {C:Int->Int->Prop}
    (rule:∀ (i j:Int) (t u:Tok) (s:Shared) (Q:Value->Shared->Prop) (E:Value->Shared->Prop),C i j->Q (.int (g i j) s.toks) { s with toks:=s.toks+1 }->wpAny (model X.prog X.w) X.A (f (.int i t) (.int j u)) Q E s):
    OpR X f (rI C λ i j=> .int (g i j)):=by
  intro pins s σ H x y v u Q I rx ry h;obtain ⟨i,j,rfl,rfl,hc,q⟩:=h;obtain ⟨t,rfl⟩:=rx;obtain ⟨t',rfl⟩:=ry;exact rule i j t t' s _ _ hc ⟨.int (g i j),H,I.tok _,⟨_,rfl⟩,q⟩
theorem Rk {f:Value->Value->Sem Value}
    (rule:∀ (i j:Int) (t u:Tok) (s:Shared) (Q:Value->Shared->Prop) (E:Value->Shared->Prop),Q (.int (g i j) s.toks) { s with toks:=s.toks+1 }->wpAny (model X.prog X.w) X.A (f (.int i t) (.int j u)) Q E s):
    OpR X f (rI0 λ i j=> .int (g i j)):=by
  intro pins s σ H x y v u Q I rx ry h;obtain ⟨i,j,rfl,rfl,q⟩:=h;obtain ⟨t,rfl⟩:=rx;obtain ⟨t',rfl⟩:=ry;exact rule i j t t' s _ _ ⟨.int (g i j),H,I.tok _,⟨_,rfl⟩,q⟩
theorem SQ {f:Value->Value->Sem Value} {g:Int->Int->Bool}
    (rule:∀ (i j:Int) (t u:Tok) (s:Shared) (Q:Value->Shared->Prop) (E:Value->Shared->Prop),Q (.bool (g i j)) s->wpAny (model X.prog X.w) X.A (f (.int i t) (.int j u)) Q E s):
    OpR X f (rI0 λ i j=> .bl (g i j)):=by
  intro pins s σ H x y v u Q I rx ry h;obtain ⟨i,j,rfl,rfl,q⟩:=h;obtain ⟨t,rfl⟩:=rx;obtain ⟨t',rfl⟩:=ry;exact rule i j t t' s _ _ ⟨.bl (g i j),H,I,rfl,q⟩
def ao (i j:Int):Prop:=0<=j/\j<=1000000/\i.natAbs<2 ^ 64
def CMul (i j:Int):Prop:=(-(2 ^ 64)<i/\i<2 ^ 64)\/(-(2 ^ 64)<j/\j<2 ^ 64)
theorem CMul.ok {i j:Int} (h:CMul i j):IntMulOk i j:=by
  rcases h with ⟨h1,h2⟩ | ⟨h1,h2⟩
  · exact .of_left (intBits_le_64 h1 h2)
  · exact .of_right (intBits_le_64 h1 h2)
theorem LV (k:Nat):(0:Int)<=2 ^ k:=by
  rw [two_pow_cast];exact Int.natCast_nonneg _
theorem AW:OpR X (binaryOp .Add) (rI0 λ i j=> .int (i+j)):=Rk λ _ _ _ _ _ _ _ q=>add_int q
theorem BH:OpR X (binaryOp .Sub) (rI0 λ i j=> .int (i - j)):=Rk λ _ _ _ _ _ _ _ q=>sub_int q
theorem Ks:OpR X (binaryOp .Mult) (rI CMul λ i j=> .int (i*j)):=opI λ _ _ _ _ _ _ _ hc q=>mul_int q hc.ok
theorem AZ:OpR X (binaryOp .Mod) (rI (λ _ j=>0<j) λ i j=> .int (i%j)):=opI λ i j _ _ _ _ _ hc q=>by
  have h1:(0:Int)<j:=hc;exact mod_int' (by omega) (by rw [Int.fmod_eq_emod_of_nonneg i (by omega)];exact q)
theorem FF:OpR X (binaryOp .LShift) (rI ao λ i j=> .int (i*2 ^ j.toNat)):=opI λ _ _ _ _ _ _ _ hc q=>lshift_int_small hc.1 hc.2.1 hc.2.2 q
theorem SF:OpR X (binaryOp .RShift) (rI (λ _ j=>0<=j) λ i j=> .int (i / 2 ^ j.toNat)):=opI λ i j _ _ _ _ _ hc q=>
  rshift_int hc (by rw [Int.fdiv_eq_ediv_of_nonneg i (LV _)];exact q)
theorem O7:OpR X (binaryOp .BitAnd) (rI0 λ i j=> .int (Builtin.bitAnd i j)):=Rk λ _ _ _ _ _ _ _ q=>and_int q
theorem O0:OpR X (inplaceOp .BitOr) (rI0 λ i j=> .int (Builtin.bitOr i j)):=Rk λ _ _ _ _ _ _ _ q=>ior_int q
end
def SV:V->V->Bool
  | .non, .non=>true | .non, .int _=>true | .int _, .non=>true | .non, .bl _=>true | .bl _, .non=>true | .non, .str _=>true | .str _, .non=>true
  | .int _, .int _=>true | .bl _, .bl _=>true | .str _, .str _=>true | .byt _, .byt _=>true
  | .int _, .str _=>true | .str _, .int _=>true | .bl _, .str _=>true | .str _, .bl _=>true
  | _,_=>false
def rEq:R2:=λ x y H Q=>SV x y=true/\Q (.bl (decide (x=y))) H
def rNe:R2:=λ x y H Q=>SV x y=true/\Q (.bl (!decide (x=y))) H
theorem MV {i j:Int}:decide (V.int i=V.int j)=(i == j):=by
  rw [Ad0];simp
theorem PJ {i j:Bool}:decide (V.bl i=V.bl j)=(i == j):=by
  rw [Ad0];simp
theorem Ni {i j:Str}:decide (V.str i=V.str j)=(i == j):=by
  rw [Ad0];simp
theorem MH {i j:Array UInt8}:decide (V.byt i=V.byt j)=(i.toList == j.toList):=by
  rw [Ad0];cases i;cases j;simp
section
variable {tb tc:TE}
theorem AS {Q:VK} {k k':Bool} (I:Inv X pins σ H s) (q:Q (.bl k) H) (e:k=k'):EP X pins σ Q (.bool k') s:=by
  subst e;exact ⟨.bl k,H,I,rfl,q⟩
theorem Bg:OpR X (compareOp .Eq) rEq:=by
  intro pins s σ H x y v u Q I rx ry h;obtain ⟨hs,q⟩:=h;cases x with
  | non=>
    cases rx;cases y with
    | non=>cases ry;exact PySem.EqNone.eq_none_none (AS I q (by simp))
    | bl j=>cases ry;exact PySem.EqNone.eq_none_bool (AS I q (by simp))
    | int j=>obtain ⟨t',rfl⟩:=ry;exact PySem.EqNone.eq_none_int (AS I q (by simp))
    | str j=>obtain ⟨t',rfl⟩:=ry;exact PySem.EqNone.eq_none_str (AS I q (by simp))
    | _=>exact absurd (show false=true from hs) Ab1
  | bl i=>
    cases rx;cases y with
    | non=>cases ry;exact PySem.EqNone.eq_bool_none (AS I q (by simp))
    | bl j=>cases ry;exact eq_bool (AS I q PJ)
    | str j=>obtain ⟨t',rfl⟩:=ry;exact PySem.EqMixed.eq_bool_str (AS I q (by simp))
    | _=>exact absurd (show false=true from hs) Ab1
  | int i=>
    obtain ⟨t,rfl⟩:=rx;cases y with
    | non=>cases ry;exact PySem.EqNone.eq_int_none (AS I q (by simp))
    | int j=>obtain ⟨t',rfl⟩:=ry;exact eq_int (AS I q MV)
    | str j=>obtain ⟨t',rfl⟩:=ry;exact PySem.EqMixed.eq_int_str (AS I q (by simp))
    | _=>exact absurd (show false=true from hs) Ab1
  | str i=>
    obtain ⟨t,rfl⟩:=rx;cases y with
    | non=>cases ry;exact PySem.EqNone.eq_str_none (AS I q (by simp))
    | bl j=>cases ry;exact PySem.EqMixed.eq_str_bool (AS I q (by simp))
    | int j=>obtain ⟨t',rfl⟩:=ry;exact PySem.EqMixed.eq_str_int (AS I q (by simp))
    | str j=>obtain ⟨t',rfl⟩:=ry;exact eq_str (AS I q Ni)
    | _=>exact absurd (show false=true from hs) Ab1
  | byt i=>
    obtain ⟨t,rfl⟩:=rx;cases y with
    | byt j=>obtain ⟨t',rfl⟩:=ry;exact PySem.W.eq_bytes (AS I q MH)
    | _=>exact absurd (show false=true from hs) Ab1
  | _=>cases y <;> exact absurd (show false=true from hs) Ab1
theorem Lg:OpR X (compareOp .NotEq) rNe:=by
  intro pins s σ H x y v u Q I rx ry h;obtain ⟨hs,q⟩:=h;cases x with
  | non=>
    cases rx;cases y with
    | non=>cases ry;exact PySem.EqNone.ne_none_none (AS I q (by simp))
    | bl j=>cases ry;exact PySem.EqNone.ne_none_bool (AS I q (by simp))
    | int j=>obtain ⟨t',rfl⟩:=ry;exact PySem.EqNone.ne_none_int (AS I q (by simp))
    | str j=>obtain ⟨t',rfl⟩:=ry;exact PySem.EqNone.ne_none_str (AS I q (by simp))
    | _=>exact absurd (show false=true from hs) Ab1
  | bl i=>
    cases rx;cases y with
    | non=>cases ry;exact PySem.EqNone.ne_bool_none (AS I q (by simp))
    | bl j=>cases ry;exact ne_bool (AS I q (congrArg not PJ))
    | str j=>obtain ⟨t',rfl⟩:=ry;exact PySem.EqMixed.ne_bool_str (AS I q (by simp))
    | _=>exact absurd (show false=true from hs) Ab1
  | int i=>
    obtain ⟨t,rfl⟩:=rx;cases y with
    | non=>cases ry;exact PySem.EqNone.ne_int_none (AS I q (by simp))
    | int j=>obtain ⟨t',rfl⟩:=ry;exact ne_int (AS I q (congrArg not MV))
    | str j=>obtain ⟨t',rfl⟩:=ry;exact PySem.EqMixed.ne_int_str (AS I q (by simp))
    | _=>exact absurd (show false=true from hs) Ab1
  | str i=>
    obtain ⟨t,rfl⟩:=rx;cases y with
    | non=>cases ry;exact PySem.EqNone.ne_str_none (AS I q (by simp))
    | bl j=>cases ry;exact PySem.EqMixed.ne_str_bool (AS I q (by simp))
    | int j=>obtain ⟨t',rfl⟩:=ry;exact PySem.EqMixed.ne_str_int (AS I q (by simp))
    | str j=>obtain ⟨t',rfl⟩:=ry;exact ne_str (AS I q (congrArg not Ni))
    | _=>exact absurd (show false=true from hs) Ab1
  | byt i=>
    obtain ⟨t,rfl⟩:=rx;cases y with
    | byt j=>obtain ⟨t',rfl⟩:=ry;exact PySem.W.ne_bytes (AS I q (congrArg not MH))
    | _=>exact absurd (show false=true from hs) Ab1
  | _=>cases y <;> exact absurd (show false=true from hs) Ab1
theorem Lz:OpR X (compareOp .Lt) (rI0 λ i j=> .bl (decide (i<j))):=SQ λ _ _ _ _ _ _ _ q=>lt_int q
theorem RH:OpR X (compareOp .LtE) (rI0 λ i j=> .bl (decide (i<=j))):=SQ λ _ _ _ _ _ _ _ q=>le_int q
theorem RS:OpR X (compareOp .Gt) (rI0 λ i j=> .bl (decide (j<i))):=SQ λ _ _ _ _ _ _ _ q=>gt_int q
theorem NZ:OpR X (compareOp .In) (λ x y H Q=>∃ i j,x= .str i/\y= .str j/\Q (.bl (!(Builtin.Str.occurrences j i 0 j.length 1).isEmpty)) H):=by
  intro pins s σ H x y v u Q I rx ry h;obtain ⟨i,j,rfl,rfl,q⟩:=h;obtain ⟨t,rfl⟩:=rx;obtain ⟨t',rfl⟩:=ry;exact in_str (AS I q rfl)
theorem AC (b:Expr) {op:CmpOp} (h:op≠ .In:=by decide) (h2:op≠ .NotIn:=by decide):behindInMarks op b=false:=by
  have e1:(op == CmpOp.In)=false:=by cases op <;> first | rfl | exact absurd rfl h
  have e2:(op == CmpOp.NotIn)=false:=by cases op <;> first | rfl | exact absurd rfl h2
  cases b <;> simp [behindInMarks,e1,e2]
theorem CI {op:CmpOp} {r:R2} (ho:OpR X (compareOp op) r) (ha:PE X a ta) (hb:PE X b tb) (hm:behindInMarks op b=false):PE X (.Compare a [op] [b] pos) (tOp r ta tb):=by
  intro pins s σ H Q I h;exact wpAny_Compare1 (Sd ha hb I h λ v u s2 x y H2 I2 rx ry q=>ho pins s2 σ H2 x y v u Q I2 rx ry q) hm
def RT (t:TE):TT:=λ σ H Q=>t σ H λ x H'=>∃ k,x= .bl k/\Q k H'
theorem Au {op:CmpOp} {r:R2} (ho:OpR X (compareOp op) r) (ha:PE X a ta) (hb:PE X b tb) (hm:behindInMarks op b=false):PT X (.Compare a [op] [b] pos) (RT (tOp r ta tb)):=by
  intro pins s σ H Q I h;refine wpAny_isTrue_Compare1 (thn (ha pins s σ H _ I h) λ v s1 ⟨x,H1,I1,r1,q1⟩=>thn (hb pins s1 σ H1 _ I1 q1) λ u s2 ⟨y,H2,I2,r2,q2⟩=>
    thn (ho pins s2 σ H2 x y v u _ I2 r1 r2 q2) λ c s3 ⟨z,H3,I3,r3,k,e,q3⟩=> ?_) hm
  subst e;cases r3;exact Ag8 ⟨H3,I3,q3⟩
def PF (r r':R2) (ta tb tc:TE):TE:=λ σ H Q=>ta σ H λ x H1=>tb σ H1 λ y H2=>r x y H2 λ z H3=>∃ k,z= .bl k/\
  (if k=true then tc σ H3 λ w' H4=>r' y w' H4 Q else Q (.bl false) H3)
theorem Pt {op op':CmpOp} {r r':R2} (ho:OpR X (compareOp op) r) (ho':OpR X (compareOp op') r') (ha:PE X a ta) (hb:PE X b tb) (hc:PE X c tc)
    (hm:lastMarks [op,op'] [b,c]=false:=by with_unfolding_all rfl):PE X (.Compare a [op,op'] [b,c] pos) (PF r r' ta tb tc):=by
  intro pins s σ H Q I h;refine Compare_chain (thn (ha pins s σ H _ I h) λ v s1 ⟨x,H1,I1,r1,q1⟩=>chain_link (thn (hb pins s1 σ H1 _ I1 q1) λ u s2 ⟨y,H2,I2,r2,q2⟩=>
    thn (ho pins s2 σ H2 x y v u _ I2 r1 r2 q2) λ d s3 ⟨z,H3,I3,r3,k,e,q3⟩=> ?_)) hm
  subst e;cases r3;refine Ag8 ?_;cases k with
  | false=>exact ite_ff ⟨.bl false,H3,I3,rfl,q3⟩
  | true=>exact ite_tt (chain_last (thn (hc pins s3 σ H3 _ I3 q3) λ w' s4 ⟨z',H4,I4,r4,q4⟩=>ho' pins s4 σ H4 y z' u w' Q I4 r2 r4 q4))
def Z8 (K:PySem.W.Frag) (x:V) (H:Hp) (k:Bool):Prop:=
  match x with
  | .non=>k=false
  | .bl b=>k=b
  | .int i=>k=(i != 0)
  | .str y=>y.length<=sizeLine/\k=((y.length:Int) != 0)
  | .byt y=>y.size<=sizeLine/\k=((y.size:Int) != 0)
  | .ref p=>(∃ xs,SqL K H p xs/\k= !xs.isEmpty)\/(∃ xs,SqT K H p xs/\k= !xs.isEmpty)\/∃ kvs,H p=some (.dK kvs)/\k= !kvs.isEmpty
  | _=>False
theorem Mo {κ:Type} {kvs:List (κ × V)} {vs:List (κ × Value)} (r:KV kvs vs):(!vs.isEmpty)= !kvs.isEmpty:=by
  cases r <;> rfl
theorem Iw {xs:List V} {its:List Value} (r:Vals xs its):(!its.toArray.isEmpty)= !xs.isEmpty:=by
  cases r <;> simp
theorem GE:(sizeLine:Nat)<2 ^ 63:=by rw [sizeLine_eq];decide
theorem aH:ah X (λ x H Q=>∃ k,Z8 X.K x H k/\Q k H):=by
  intro pins s σ H x v Q I rx h;obtain ⟨k,e,q⟩:=h;have hl:=GE;have hs:sizeLine=16777216:=sizeLine_eq;cases x with
  | non=>
    cases rx;have e':k=false:=e;subst e';exact truthy_none ⟨H,I,q⟩
  | bl b=>
    cases rx;have e':k=b:=e;subst e';exact Ag8 ⟨H,I,q⟩
  | int i=>
    obtain ⟨t,rfl⟩:=rx;have e':k=(i != 0):=e;subst e';exact PySem.P.truthy_int ⟨H,I,q⟩
  | str y=>
    obtain ⟨t,rfl⟩:=rx;obtain ⟨hy,e'⟩:y.length<=sizeLine/\k=((y.length:Int) != 0):=e;subst e';exact PySem.P.truthy_str (by omega) ⟨H,I.tok _,q⟩
  | byt y=>
    obtain ⟨t,rfl⟩:=rx;obtain ⟨hy,e'⟩:y.size<=sizeLine/\k=((y.size:Int) != 0):=e;subst e';exact PySem.W.truthy_bytes (by omega) ⟨H,I.tok _,q⟩
  | ref p=>
    cases rx;have e':(∃ xs,SqL X.K H p xs/\k= !xs.isEmpty)\/(∃ xs,SqT X.K H p xs/\k= !xs.isEmpty)\/∃ kvs,H p=some (.dK kvs)/\k= !kvs.isEmpty:=e;rcases e' with ⟨xs,hx,e'⟩ | ⟨xs,hx,e'⟩ | ⟨kvs,hx,e'⟩
    · subst e';obtain ⟨its,r,pl,hz⟩:=I.list hx;have hlen:=r.length;exact wpAny_truthy_list pl.isList (by simp only [Ab0];omega) ⟨H,I.tok _,by rw [Iw r];exact q⟩
    · subst e';obtain ⟨its,r,pl,hz⟩:=I.tuple hx;have hlen:=r.length;exact truthy_tuple pl (by simp only [Ab0];omega) ⟨H,I.tok _,by rw [Iw r];exact q⟩
    · subst e';obtain ⟨hz,hS,vs,r,m⟩:kvs.length<=sizeLine/\(p == sysModules)=false/\∃ vs,KV kvs vs/\s.heap.DictOf (Bj X.prog X.w) p vs:=I.hok p _ hx;have hlen:kvs.length=vs.length:=Paired.length r;exact wpAny_truthy_dict hS m (by omega) ⟨H,I.tok _,by rw [Mo r];exact q⟩
  | _=>exact (show False from e).elim
theorem FZ {x:V} (r:Vals [x] us):∃ u,us=[u]/\RelV x u:=by
  cases r with
  | cons r1 r2=>cases r2;exact ⟨_,rfl,r1⟩
theorem RE {x y:V} (r:Vals [x,y] us):∃ u w',us=[u,w']/\RelV x u/\RelV y w':=by
  cases r with
  | cons r1 r2=>
    cases r2 with
    | cons r3 r4=>cases r4;exact ⟨_,_,rfl,r1,r3⟩
theorem NB:BY X (.type "int") (λ xs H Q=>(∃ i,xs=[.int i]/\Q (.int i) H)\/∃ k,xs=[.bl k]/\Q (.int (if k then 1 else 0)) H):=by
  intro pins s σ H xs us Q I r h;rcases h with ⟨i,rfl,q⟩ | ⟨k,rfl,q⟩
  · obtain ⟨u,rfl,t,rfl⟩:=FZ r;exact call_int_int ⟨.int i,H,I,⟨_,rfl⟩,q⟩
  · obtain ⟨u,rfl,r1⟩:=FZ r;cases r1;exact call_int_bool ⟨.int (if k then 1 else 0),H,I.tok _,⟨_,rfl⟩,q⟩
def Ua (K:PySem.W.Frag) (x:V) (H:Hp) (n:Nat):Prop:=
  match x with
  | .str y=>y.length<=sizeLine/\n=y.length
  | .byt y=>y.size<=sizeLine/\n=y.size
  | .ref p=>(∃ xs,SqL K H p xs/\n=xs.length)\/∃ xs,SqT K H p xs/\n=xs.length
  | _=>False
theorem PD:BY X (.builtin "len") (λ xs H Q=>∃ x n,xs=[x]/\Ua X.K x H n/\Q (.int n) H):=by
  intro pins s σ H xs us Q I r h;obtain ⟨x,n,rfl,e,q⟩:=h;obtain ⟨u,rfl,rx⟩:=FZ r;have hl:=GE;have hs:sizeLine=16777216:=sizeLine_eq;cases x with
  | str y=>
    obtain ⟨t,rfl⟩:=rx;obtain ⟨hy,e'⟩:y.length<=sizeLine/\n=y.length:=e;subst e';exact len_str (by omega) ⟨.int _,H,I.tok _,⟨_,rfl⟩,q⟩
  | byt y=>
    obtain ⟨t,rfl⟩:=rx;obtain ⟨hy,e'⟩:y.size<=sizeLine/\n=y.size:=e;subst e';exact PySem.W.len_bytes (by omega) ⟨.int _,H,I.tok _,⟨_,rfl⟩,q⟩
  | ref p=>
    cases rx;have e':(∃ xs,SqL X.K H p xs/\n=xs.length)\/∃ xs,SqT X.K H p xs/\n=xs.length:=e;rcases e' with ⟨xs,hx,e'⟩ | ⟨xs,hx,e'⟩
    · subst e';obtain ⟨its,r',pl,hz⟩:=I.list hx;have hlen:=r'.length;exact Calls.call_len_list pl.isList (by simp only [Ab0];omega) ⟨.int xs.length,H,I.tok _,⟨_,by simp only [Ab0];rw [hlen]⟩,q⟩
    · subst e';obtain ⟨its,r',pl,hz⟩:=I.tuple hx;have hlen:=r'.length;exact len_tuple pl (by simp only [Ab0];omega) ⟨.int xs.length,H,I.tok _,⟨_,by simp only [Ab0];rw [hlen]⟩,q⟩
  | _=>exact (show False from e).elim
end
structure ObjM (h:Heap) (x dx C:Addr) (mA:Str->Option Value):Prop where
  obj:h.get? x=some (PySem.W.instObj C dx)
  ns:h.Ns1 dx mA
  ne:dx≠x
theorem N1 (n:h.Ns1 dx mA):∃ od,h.get? dx=some od/\∀ name,PySem.W.lookIn name od=some (mA name):=by
  obtain ⟨o,es,ep,ho,hd,hk,_,hm⟩:=n;refine ⟨o,ho,λ name=> ?_⟩;have e:=hm name;unfold nsFind findBy at e;rw [<-Array.find?_toList] at e;unfold PySem.W.lookIn;rw [hd];dsimp only;split
  · rename_i y q
    rw [q] at e;exact congrArg some e
  · rename_i q
    rw [q] at e;have a:es.toList.any (·.refKey)=false:=by
      rw [List.any_eq_false];intro y hy;obtain ⟨z,t,hkey⟩:=hk y (Array.mem_toList_iff.mp hy);simp [DictEntry.refKey,hkey]
    have a':¬ es.toList.any (·.refKey)=true:=by rw [a];exact Ab1
    rw [if_neg a'];exact congrArg some e
theorem ObjM.look {x:Addr} (I:ObjM h x dx C mA):∃ od,PySem.W.InstAt h x (PySem.W.instObj C dx) C (some od)/\∀ name,PySem.W.lookIn name od=some (mA name):=
  let ⟨od,ho,hl⟩:=N1 I.ns
  ⟨od,⟨I.obj,rfl,rfl,ho⟩,hl⟩
section
variable {prog:Program} {K:PySem.W.Frag} {x:Addr} {name:Str} {v:Value}
theorem Qz {expr:Bool} (X:K.In s.heap) (I:ObjM s.heap x dx C mA) (hg:PySem.W.plainGet K C name=true) (hh:PySem.W.hasDictIn K C=true)
    (ha:PySem.W.findIn K (.ref C) name=some none) (hv:mA name=some v) (hv':PySem.W.handedIn v=true) (h:Q v { s with toks:=s.toks+1 }):
    wpAny (model prog w) A (getAttr (.ref x) name expr) Q E s:=by
  obtain ⟨od,J,hl⟩:=I.look;exact PySem.W.get_value X J (PySem.W.plainGet_of hg).1 (PySem.W.findObj_own hh ha rfl (by rw [hl,hv])) hv' h
theorem Pi {pl:Sem Bool} {Q:Value × List Value->Shared->Prop} (X:K.In s.heap) (I:ObjM s.heap x dx C mA) (hg:PySem.W.plainGet K C name=true)
    (hf:PySem.W.findIn K (.ref C) name=some (some (.ref f))) (ht:PySem.W.isFn K (.ref f)=true) (hv:mA name=none) (h:Q (.ref f,[.ref x]) s):
    wpAny (model prog w) A (getMethod (.ref x) name pl) Q E s:=by
  obtain ⟨od,J,hl⟩:=I.look;exact PySem.W.method_fn X J (PySem.W.plainGet_of hg).1 (PySem.W.plainGet_of hg).2 hf (beq_iff_eq.mp ht) (by show (PySem.W.lookIn name od).map (·.isSome)=some false;rw [hl,hv];rfl) h
theorem Qw {ns:List Str} {Q:Unit->Shared->Prop} (X:K.In s.heap) (I:ObjM s.heap x dx C mA)
    (hs:PySem.W.findIn K (.ref C) "__setattr__"=some (some (.builtin "object.__setattr__"))) (hp:PySem.W.plainOver K C=true) (ht:PySem.W.takerIn K C name=some none) (hh:PySem.W.hasDictIn K C=true)
    (hw:PySem.Within mA ns) (hsz:ns.length<=sizeLine)
    (h:∀ h',ObjM h' x dx C (λ y=>if y=name then some v else mA y)->Heap.SameBut dx s.heap h'->Q () { s with heap:=h',toks:=s.toks+2 }):
    wpAny (model prog w) A (setAttr (.ref x) name v) Q E s:=by
  obtain ⟨od,J,hl⟩:=I.look;refine PySem.W.set_plain X J hs (PySem.W.osa_open (s:={ s with toks:=s.toks+1 }) (r:=none) X J hp ht λ b=> ?_);obtain ⟨cd,hc,hd'⟩:=PySem.W.any_some hh;have hx:s.heap.get? x=some ⟨.ref C,some dx, .plain, #[]⟩:=I.obj;refine Aa0 (Aa5 (Aa0 (Aa0 (wpAny_loadPart hx (Aa0 (PySem.W.Looks.here (s:={ s with toks:=s.toks+1 }) (PySem.W.looks_clsIn X hc) ?_))))));rw [hd'];refine Aa5 (a:=some dx) (Aa0 (Aa5 (Aa0 ?_)));refine wpAny_nsSet1 (s:={ s with toks:=s.toks+1 }) I.ns λ h' hn2 hs2=> ?_;obtain ⟨oD,esD,epD,hoD,hdD,hcD⟩:=hn2.count (PySem.Within.cons name v hw);refine Aa0 (wpAny_lookBehind hoD (by rw [hdD];exact pastItsLine_dict (Ac5 hcD (by rw [Ac6];omega))) ?_);exact Aa5 (h _ ⟨(hs2.2 _ (Ne.symm I.ne)).trans I.obj,hn2,I.ne⟩ hs2)
theorem Ot {R:Result->Shared->Prop} {vs:List Value} (X:K.In s.heap) (hm:PySem.W.makesIn K C=true)
    (hi:PySem.W.findIn K (.ref C) "__init__"=some (some (.ref f))) (hf:PySem.W.typeIn K (.ref f)=some (.type "function"))
    (h:codeAny (model prog w) (A.under (.builtin "type.__call__" ⟨.ref C::vs,kw⟩)) (.call (.ref f) ⟨.ref (s.heap.objs.size+1)::vs,kw⟩) (PySem.W.InitBack (s.heap.objs.size+1) R)
      { s with heap:=(s.heap.push PySem.W.emptyDict).push (PySem.W.instObj C s.heap.objs.size) }):
    codeAny (model prog w) A (.call (.ref C) ⟨vs,kw⟩) R s:=by
  obtain ⟨hh,g,d,t,os⟩:=s;exact PySem.W.make_core (PySem.W.makes_of X hm) (PySem.W.looks_findIn X hi) (λ self=>PySem.W.bind_fn X self hf) (.inl rfl) h
end
def Bc (f:Str) (v:V):List (Str × V)->List (Str × V)
  | []=>[(f,v)]
  | (g,x)::r=>if g=f then (g,v)::r else (g,x)::Bc f v r
theorem GY (f g:Str) (v:V):∀ fs:List (Str × V),(Bc f v fs).lookup g=if g=f then some v else fs.lookup g
  | []=>by
    show List.lookup g [(f,v)]=_;by_cases h:g=f
    · have hb:(g == f)=true:=beq_iff_eq.mpr h;simp only [List.lookup,hb,if_pos h]
    · have hb:(g == f)=false:=beq_eq_false_iff_ne.mpr h;simp only [List.lookup,hb,if_neg h]
  | (k,x)::r=>by
    have ih:=GY f g v r;rw [show Bc f v ((k,x)::r)=(if k=f then (k,v)::r else (k,x)::Bc f v r) from rfl];by_cases hk:k=f
    · rw [if_pos hk];by_cases h:g=k
      · have hb:(g == k)=true:=beq_iff_eq.mpr h;simp only [List.lookup,hb,if_pos (h.trans hk)]
      · have hb:(g == k)=false:=beq_eq_false_iff_ne.mpr h;simp only [List.lookup,hb,if_neg (λ e:g=f=>h (e.trans hk.symm))]
    · rw [if_neg hk];by_cases h:g=k
      · have hb:(g == k)=true:=beq_iff_eq.mpr h;simp only [List.lookup,hb,if_neg (λ e:g=f=>hk (h.symm.trans e))]
      · have hb:(g == k)=false:=beq_eq_false_iff_ne.mpr h;simp only [List.lookup,hb];exact ih
theorem GP (f:Str) (v:V):∀ fs:List (Str × V),f∈(Bc f v fs).map (·.1)/\∀ g,g∈fs.map (·.1)->g∈(Bc f v fs).map (·.1)
  | []=>⟨by simp [Bc],λ g h=>by simp at h⟩
  | (k,x)::r=>by
    obtain ⟨i1,i2⟩:=GP f v r;rw [show Bc f v ((k,x)::r)=(if k=f then (k,v)::r else (k,x)::Bc f v r) from rfl];by_cases hk:k=f
    · rw [if_pos hk];subst hk;exact ⟨by simp,λ g h=>by simpa using h⟩
    · rw [if_neg hk];refine ⟨?_,λ g h=> ?_⟩
      · rw [Ag9];exact Ac9 _ i1
      · rw [Ag9] at h ⊢;rcases Ab2.mp h with e | e
        · exact Ab2.mpr (.inl e)
        · exact Ac9 _ (i2 g e)
theorem Hc (f:Str) (v:V):∀ fs:List (Str × V),(Bc f v fs).length<=fs.length+1
  | []=>by simp [Bc]
  | (k,x)::r=>by
    have ih:=Hc f v r;rw [show Bc f v ((k,x)::r)=(if k=f then (k,v)::r else (k,x)::Bc f v r) from rfl];by_cases hk:k=f
    · rw [if_pos hk,Ac6,Ac6];omega
    · rw [if_neg hk,Ac6,Ac6];omega
theorem RelO.some_of {o:Option Value} (r:RelO (some v) o):∃ u,o=some u/\RelV v u:=by
  cases o with
  | none=>exact (show False from r).elim
  | some u=>exact ⟨u,rfl,r⟩
theorem RelO.none_of {o:Option Value} (r:RelO none o):o=none:=by
  cases o with
  | none=>rfl
  | some u=>exact (show False from r).elim
theorem Oa (r:RelV v u):PySem.W.handedIn u=true:=by
  cases v with
  | non=>cases (show u=Value.none from r);rfl
  | bl b=>cases (show u=Value.bool b from r);rfl
  | int i=>obtain ⟨t,e⟩:=(show ∃ t,u=Value.int i t from r);cases e;rfl
  | str x=>obtain ⟨t,e⟩:=(show ∃ t,u=Value.str x t from r);cases e;rfl
  | byt b=>obtain ⟨t,e⟩:=(show ∃ t,u=Value.bytes b t from r);cases e;rfl
  | flt b=>obtain ⟨t,e⟩:=(show ∃ t,u=Value.float b t from r);cases e;rfl
  | ref a=>cases (show u=Value.ref a from r);rfl
  | ty n=>cases (show u=Value.type n from r);rfl
section
variable {H':Hp} {h':Heap} {a:Addr} {fs fs':List (Str × V)}
theorem F6 (hok:HOk P w H h) (e:H a=some (.ins C dx fs)):∃ mA,ObjM h a dx C mA/\(∀ f,RelO (fs.lookup f) (mA f))/\PySem.Within mA (fs.map (·.1))/\fs.length<=1000/\H dx=some (.own a):=by
  obtain ⟨d,z,ne,ob,mA,n,r,q⟩:=(show ObjOk P w H h a (.ins C dx fs) from hok a _ e);exact ⟨mA,⟨ob,n,ne⟩,r,q,z,d⟩
end
structure Cls (K:PySem.W.Frag) (C:Addr):Prop where
  pg:PySem.W.plainGet K C Str.empty=true
  hd:PySem.W.hasDictIn K C=true
  po:PySem.W.plainOver K C=true
  sa:PySem.W.findIn K (.ref C) "__setattr__"=some (some (.builtin "object.__setattr__"))
theorem Cls.get {K:PySem.W.Frag} (c:Cls K C) (f:Str):PySem.W.plainGet K C f=true:=c.pg
def NoAttr (K:PySem.W.Frag) (C:Addr) (f:Str):Prop:=PySem.W.findIn K (.ref C) f=some none
theorem NoAttr.taker {K:PySem.W.Frag} {f:Str} (n:NoAttr K C f):PySem.W.takerIn K C f=some none:=by
  unfold PySem.W.takerIn;rw [show PySem.W.findIn K (.ref C) f=some none from n];rfl
structure Con (K:PySem.W.Frag) (C:Addr) (f:Str) (v:V) (u:Value):Prop where
  at_:PySem.W.findIn K (.ref C) f=some (some u)
  rel:RelV v u
  get:PySem.W.specialIn K u "__get__"=some none
  cp:PySem.W.copiedNames.contains f=false
structure Meth (K:PySem.W.Frag) (C:Addr) (m:Str) (f:Addr):Prop where
  at_:PySem.W.findIn K (.ref C) m=some (some (.ref f))
  fn:PySem.W.isFn K (.ref f)=true
  kp:PySem.W.keepIn K (.ref f)=true
section
variable {a:Addr} {fs:List (Str × V)} {f:Str}
theorem L1 {b:Bool} (I:Inv X pins σ H s) (e:H a=some (.ins C dx fs)) (c:Cls X.K C) (n:NoAttr X.K C f) (l:fs.lookup f=some v)
    (h:∀ u s',Inv X pins σ H s'->RelV v u->Q u s'):wpAny (model X.prog X.w) A (getAttr (.ref a) f b) Q E s:=by
  obtain ⟨mA,O,r,_,_,_⟩:=F6 I.hok e;obtain ⟨u,hu,ru⟩:=RelO.some_of (v:=v) (o:=mA f) (by rw [<-l];exact r f);exact Qz I.kIn O (c.get f) c.hd n hu (Oa ru) (h u _ (I.tok _) ru)
theorem Fz {g:Addr} {pl:Sem Bool} {Q:Value × List Value->Shared->Prop} (I:Inv X pins σ H s) (e:H a=some (.ins C dx fs)) (c:Cls X.K C) (k:Meth X.K C m g) (l:fs.lookup m=none)
    (h:Q (.ref g,[.ref a]) s):wpAny (model X.prog X.w) A (getMethod (.ref a) m pl) Q E s:=by
  obtain ⟨mA,O,r,_,_,_⟩:=F6 I.hok e;have hn:mA m=none:=RelO.none_of (by rw [<-l];exact r m);exact Pi I.kIn O (c.get m) k.at_ k.fn hn h
theorem Mp {y:V} {Q:Unit->Shared->Prop} (I:Inv X pins σ H s) (e:H a=some (.ins C dx fs)) (c:Cls X.K C) (n:NoAttr X.K C f) (hl:fs.length<1000) (ry:RelV y u)
    (h:∀ s',Inv X pins σ (upd H a (.ins C dx (Bc f y fs))) s'->Q () s'):wpAny (model X.prog X.w) A (setAttr (.ref a) f u) Q E s:=by
  obtain ⟨mA,O,r,wi,_,ho⟩:=F6 I.hok e;have hz:(fs.map (·.1)).length<=sizeLine:=by rw [Aa1,sizeLine_eq];omega
  refine Qw I.kIn O c.sa c.po n.taker c.hd wi hz λ h' O' sb=>h _ ?_;have hd:∃ o,h'.get? dx=some o:=let ⟨o,_,_,e',_⟩:=O'.ns;⟨o,e'⟩;refine I.write (x:=a) (e:=dx) (by rw [e];exact True.intro) (.inr ho) (λ b q hb z=>(sb.2 b hb).trans z) hd ?_;refine ⟨by rw [Ai O.ne];exact ho,?_,O.ne,O'.obj,_,O'.ns,λ g=> ?_,λ g hg=> ?_⟩
  · have:=Hc f y fs;omega
  · show RelO ((Bc f y fs).lookup g) (if g=f then some u else mA g);rw [GY];by_cases q:g=f
    · rw [if_pos q,if_pos q];exact ry
    · rw [if_neg q,if_neg q];exact r g
  · by_cases q:g=f
    · rw [q];exact (GP f y fs).1
    · refine (GP f y fs).2 g (wi g λ z=>hg ?_);show (if g=f then some u else mA g)=none;rw [if_neg q];exact z
theorem Inv.made (I:Inv X pins σ H s):Inv X pins σ (upd (upd H s.heap.objs.size (.own (s.heap.objs.size+1))) (s.heap.objs.size+1) (.ins C s.heap.objs.size []))
    { s with heap:=(s.heap.push PySem.W.emptyDict).push (PySem.W.instObj C s.heap.objs.size) }:=by
  have e1:(s.heap.push PySem.W.emptyDict).get? s.heap.objs.size=some PySem.W.emptyDict:=Aa6 s.heap rfl;have e2:((s.heap.push PySem.W.emptyDict).push (PySem.W.instObj C s.heap.objs.size)).get? (s.heap.objs.size+1)=some (PySem.W.instObj C s.heap.objs.size):=by
    have:=Aa6 (s.heap.push PySem.W.emptyDict) (o:=PySem.W.instObj C s.heap.objs.size) rfl
    rwa [Ad7] at this
  have e3:(s.heap.push PySem.W.emptyDict).Ns s.heap.objs.size (λ _=>none):=⟨PySem.W.emptyDict, #[],_,e1,rfl,(λ e he=>absurd he (by simp)),λ _=>rfl⟩;have I1:=I.laid (a:=s.heap.objs.size) (o:= .own (s.heap.objs.size+1)) (h':=s.heap.push PySem.W.emptyDict) (t':=s.toks) (λ b u q=>Aa3 _ q) (Aa7 _) ⟨_,e1⟩;refine I1.laid (a:=s.heap.objs.size+1) (o:= .ins C s.heap.objs.size []) (t':=s.toks) (λ b u q=>Aa3 _ q) (Nat.le_of_eq (Ad7 _ _)) ?_;have ne:s.heap.objs.size≠s.heap.objs.size+1:=Ab6 (Nat.lt_succ_self _);refine ⟨by rw [Ai ne,Af],Ad3 _,ne,e2,λ _=>none,(Heap.Ns1.of_empty e3).at λ o q=>Aa3 _ q,λ _=>True.intro,λ y hy=>absurd rfl hy⟩
theorem QL {prog:Program} {env:Env} {f:Str} (hb:attributeBase e f env (eval e env)=eval e env)
    (h:wpAny (model prog w) A (eval e env) (λ o s₁=>wpAny (model prog w) A (getAttr o f true) Q E s₁) E s):wpAny (model prog w) A (eval (.Attribute e f pos) env) Q E s:=
  Attribute_any_ h (by rw [arm_eval_Attribute,hb])
end
def Sf (K:PySem.W.Frag) (ta:TE) (f:Str):TE:=λ σ H Q=>ta σ H λ x H1=>∃ a C dx fs v,x= .ref a/\H1 a=some (.ins C dx fs)/\Cls K C/\NoAttr K C f/\fs.lookup f=some v/\Q v H1
def Xe (K:PySem.W.Frag) (ta tv:TE) (f:Str):TS:=λ D σ H=>tv σ H λ y H1=>ta σ H1 λ x H2=>∃ a C dx fs,x= .ref a/\H2 a=some (.ins C dx fs)/\Cls K C/\NoAttr K C f/\fs.length<1000/\
  D.nx σ (upd H2 a (.ins C dx (Bc f y fs)))
section
variable {value:Expr} {f:Str} {pos' tpos:Pos} {tv:TE}
theorem Sh (he:PE X e ta) (hb:attributeBase e f X.env (eval e X.env)=eval e X.env):PE X (.Attribute e f pos) (Sf X.K ta f):=by
  intro pins s σ H Q I h;refine QL hb (thn (he pins s σ H _ I h) λ u s1 ⟨x,H1,I1,rx,a,C,dx,fs,v,ex,ea,c,n,l,q⟩=> ?_);subst ex;obtain rfl:u=Value.ref a:=rx;exact L1 I1 ea c n l λ u' s2 I2 ru=>⟨v,H1,I2,ru,q⟩
theorem Cu (ha:PE X o ta) (hv:PE X value tv) (hs:swapsWith value (some (.Attribute o f pos')) pos.line X.env=pure false):PS X (.Assign [.Attribute o f pos'] value pos) (Xe X.K ta tv f):=by
  intro pins s σ H D I h;refine plainObj_wpAny_Assign_Attribute (thn (hv pins s σ H _ I h) λ u s1 ⟨y,H1,I1,ry,q⟩=>thn (ha pins s1 σ H1 _ I1 q) λ ov s2 ⟨x,H2,I2,rx,a,C,dx,fs,ex,ea,c,n,l,q2⟩=> ?_) hs;subst ex;obtain rfl:ov=Value.ref a:=rx;exact Mp I2 ea c n l ry λ s3 I3=>⟨σ,_,I3,q2⟩
theorem RV {pl:Sem Bool} {apos:Pos} {args:List Expr} {te:TE} (he:PE X e te) (I:Inv X pins σ H s)
    (h:te σ H λ x H1=>∃ a C dx fs g,x= .ref a/\H1 a=some (.ins C dx fs)/\Cls X.K C/\Meth X.K C m g/\fs.lookup m=none/\
      ∀ s1,Inv X pins σ H1 s1->wpAny (model X.prog X.w) X.A (callWith pos (.ref g) [.ref a] (backTo pos (starEach args X.env)) (backToKw pos (keywordEach [] X.env))) Q X.xe s1)
    (ht:eval (.Call (.Attribute e m apos) args [] pos) X.env=(do
      let ov <-eval e X.env
      standAt apos.atName
      let (f,first) <-holding [ov] (getMethod ov m pl)
      callWith pos f first (backTo pos (starEach args X.env)) (backToKw pos (keywordEach [] X.env)))):
    wpAny (model X.prog X.w) X.A (eval (.Call (.Attribute e m apos) args [] pos) X.env) Q X.xe s:=by
  refine PySem.W.methodCall_KW (pl:=pl) (thn (he pins s σ H _ I h) λ u s1 ⟨x,H1,I1,rx,a,C,dx,fs,g,ex,ea,c,k,l,q⟩=> ?_) ht;subst ex;obtain rfl:u=Value.ref a:=rx;exact Fz I1 ea c k l (q s1 I1)
end
section
variable {c:Value} {b:Bool}
inductive TyOf (K:PySem.W.Frag) (H:Hp):V->Value->Prop where
  | non:TyOf K H .non (.type "NoneType")
  | bl (x:Bool):TyOf K H (.bl x) (.type "bool")
  | int (i:Int):TyOf K H (.int i) (.type "int")
  | str (x:Str):TyOf K H (.str x) (.type "str")
  | flt (x:UInt64):TyOf K H (.flt x) (.type "float")
  | lst {a:Addr} {xs:List V} (e:H a=some (.lst xs)):TyOf K H (.ref a) (.type "list")
  | frz {a:Addr} {o:Obj} {xs:List V} (e:H a=some (.frz o (.lst xs))):TyOf K H (.ref a) (.type "list")
  | tup {a:Addr} {xs:List V} (e:H a=some (.tup xs)):TyOf K H (.ref a) (.type "tuple")
  | dK {a:Addr} {kvs:List (Key × V)} (e:H a=some (.dK kvs)):TyOf K H (.ref a) (.type "dict")
  | dT {a:Addr} {kvs:List (List Key × V)} (e:H a=some (.dT kvs)):TyOf K H (.ref a) (.type "dict")
  | ins {a C dx:Addr} {fs:List (Str × V)} (e:H a=some (.ins C dx fs)) (cl:Cls K C) (ha:PySem.W.findIn K (.ref C) "__class__"=some (some (.builtin "object.__class__")))
      (hn:PySem.W.specialIn K (.builtin "object.__class__") "__get__"=some (some (.builtin "getset_descriptor.__get__"))) (htk:PySem.W.takesIn K (.builtin "object.__class__")=some true)
      (hm:PySem.W.mroIn K C (.type "object")=some true):TyOf K H (.ref a) (.ref C)
theorem N5 {x:V} {t:Value} (I:Inv X pins σ H s) (rx:RelV x u) (ty:TyOf X.K H x t) (e:PySem.W.kitOne X.K t c=some b) (h:∀ tk,Q (.bool b) { s with toks:=tk }):
    wpAny (model X.prog X.w) A (call (.builtin "isinstance") [u,c]) Q E s:=by
  cases ty with
  | non=>cases (show u=Value.none from rx);exact PySem.W.kia_one PySem.W.kitx_none I.kIn True.intro e (λ z=>nomatch z) h
  | bl y=>cases (show u=Value.bool y from rx);exact PySem.W.kia_one PySem.W.kitx_bool I.kIn True.intro e (λ z=>nomatch z) h
  | int i=>obtain ⟨t,q⟩:=(show ∃ t,u=Value.int i t from rx);cases q;exact PySem.W.kia_one PySem.W.kitx_int I.kIn True.intro e (λ z=>nomatch z) h
  | str y=>obtain ⟨t,q⟩:=(show ∃ t,u=Value.str y t from rx);cases q;exact PySem.W.kia_one PySem.W.kitx_str I.kIn True.intro e (λ z=>nomatch z) h
  | flt y=>obtain ⟨t,q⟩:=(show ∃ t,u=Value.float y t from rx);cases q;exact PySem.W.kia_one PySem.W.kitx_float I.kIn True.intro e (λ z=>nomatch z) h
  | @lst a xs ea=>
    cases (show u=Value.ref a from rx);obtain ⟨_,_,n,_,h1⟩:=(show ObjOk X.prog X.w H s.heap a (.lst xs) from I.hok a _ ea);exact PySem.W.kia_one PySem.W.kitx_list I.kIn ⟨_,h1,rfl⟩ e (λ z=>nomatch z) h
  | @frz a ob xs ea=>
    cases (show u=Value.ref a from rx);obtain ⟨_,_,_,n,_,h1⟩:=(show ObjOk X.prog X.w H s.heap a (.frz ob (.lst xs)) from I.hok a _ ea);exact PySem.W.kia_one PySem.W.kitx_list I.kIn ⟨_,h1,rfl⟩ e (λ z=>nomatch z) h
  | @tup a xs ea=>
    cases (show u=Value.ref a from rx);obtain ⟨_,_,_,p⟩:=(show ObjOk X.prog X.w H s.heap a (.tup xs) from I.hok a _ ea);obtain ⟨o,h1,h2,_⟩:=p;exact PySem.W.kia_one PySem.W.kitx_tuple I.kIn ⟨o,h1,h2⟩ e (λ z=>nomatch z) h
  | @dK a kvs ea=>
    cases (show u=Value.ref a from rx);obtain ⟨_,_,vs,_,p⟩:=(show ObjOk X.prog X.w H s.heap a (.dK kvs) from I.hok a _ ea);obtain ⟨o,es,ep,h1,h2,_⟩:=p;exact PySem.W.kia_one PySem.W.kitx_dict I.kIn ⟨o,h1,h2.1⟩ e (λ z=>nomatch z) h
  | @dT a kvs ea=>
    cases (show u=Value.ref a from rx);obtain ⟨_,_,xs,_,o,es,ep,h1,h2,_⟩:=(show ObjOk X.prog X.w H s.heap a (.dT kvs) from I.hok a _ ea);exact PySem.W.kia_one PySem.W.kitx_dict I.kIn ⟨o,h1,h2.1⟩ e (λ z=>nomatch z) h
  | @ins a C dx fs ea cl ha hn htk hm=>
    cases (show u=Value.ref a from rx);obtain ⟨mA,O,_⟩:=F6 I.hok ea;obtain ⟨od,J,_⟩:=O.look;exact PySem.W.kia_one (PySem.W.kitx_own (cl.get _) cl.hd ha hn htk hm) I.kIn J e (λ z=>nomatch z) h
end
structure Room (k:Nat) (A:Around):Prop where
  hd:A.handled=none
  dp:A.depth+3*k+5<recursionLimit
  un:A.units+16*k+200<cLine
theorem Room.mono {j k:Nat} (r:Room k A) (h:j<=k):Room j A:=⟨r.hd,by have:=r.dp;omega,by have:=r.un;omega⟩
theorem Room.deeper {k:Nat} (r:Room (k+1) A) (env:Env):Room k (A.deeper env):=
  ⟨r.hd,by have:=r.dp;show A.depth+1+3*k+5<_;omega,by have:=r.un;show A.units+3+16*k+200<_;omega⟩
theorem L6:(A.under (.builtin "type.__call__" ⟨.ref C::us,kw⟩)).depth=A.depth+1:=by
  first | rfl | simp [Around.under,Code.weight,Code.isCreation,Code.isGuard,Code.isCaller,Code.frames,Code.isFrame,guardIds]
theorem Md:(A.under (.builtin "type.__call__" ⟨.ref C::us,kw⟩)).units=A.units+1:=by
  first | rfl | simp [Around.under,Code.cUnits,Code.frames,Code.isFrame]
theorem Room.make {k:Nat} (r:Room (k+1) A) (C:Addr) (us:List Value) (kw:List (Str × Value)):Room k (A.under (.builtin "type.__call__" ⟨.ref C::us,kw⟩)):=
  ⟨r.hd,by have:=r.dp;rw [L6];omega,by have:=r.un;rw [Md];omega⟩
theorem Room.depth {k:Nat} (r:Room k A):A.depth<recursionLimit:=by have:=r.dp;omega
theorem Room.units {k:Nat} (r:Room k A):A.units+64<cLine:=by have:=r.un;omega
theorem Room.units0 {k:Nat} (r:Room k A):A.units<cLine:=by have:=r.un;omega
def NY:TA:=λ _ H Q=>Q [] H
def Ng (ta:TE) (tr:TA):TA:=λ σ H Q=>ta σ H λ x H1=>tr σ H1 λ xs H2=>Q (x::xs) H2
section
variable {te:TE}
theorem Ab:PA X [] NY:=λ _ _ _ _ H Q I h=>Calls.spliced_nil ⟨[],H,I, .nil,h⟩
theorem Aa (ha:PE X e te) (hr:PA X es t) (hs:starEach (e::es) X.env=(false,eval e X.env)::starEach es X.env:=by rfl):PA X (e::es) (Ng te t):=by
  intro pos pins s σ H Q I h;rw [hs];show wpAny _ _ (spliced ((false,eval e X.env)::backTo pos (starEach es X.env))) _ _ s;refine Calls.spliced_cons (thn (ha pins s σ H _ I h) λ u s1 ⟨x,H1,I1,r1,q1⟩=> ?_);exact thn (hr pos pins s1 σ H1 _ I1 q1) λ us s2 ⟨xs,H2,I2,r2,q2⟩=>⟨x::xs,H2,I2, .cons r1 r2,q2⟩
def W1 (t:TA):TE:=λ σ H Q=>t σ H λ xs H1=>xs.length<=sizeLine/\∀ p,H1 p=none->Q (.ref p) (upd H1 p (.tup xs))
def Ws (t:TA):TE:=λ σ H Q=>t σ H λ xs H1=>xs.length<=sizeLine/\∀ p,H1 p=none->Q (.ref p) (upd H1 p (.lst xs))
theorem AE {x1} (h:PA X es t):PE X (.Tuple es x1 pos) (W1 t):=by
  intro pins s σ H Q I hq;refine wpAny_Tuple_spliced (thn (h pos pins s σ H _ I hq) λ us s1 ⟨xs,H1,I1,r,z,q⟩=>⟨by rw [<-r.length];exact z,?_⟩);have hf:H1 s1.heap.objs.size=none:=I1.hok.fresh (Aa7 _);refine ⟨.ref s1.heap.objs.size,upd H1 s1.heap.objs.size (.tup xs),I1.laid (t':=s1.toks) (λ b u e=>Aa3 _ e) (Aa7 _) ?_,rfl,q _ hf⟩;exact ⟨z,us,r,⟨_,Aa6 _ rfl,rfl,_,rfl⟩⟩
theorem AB (h:PA X es t):PE X (.List es pos) (Ws t):=by
  intro pins s σ H Q I hq;refine wpAny_List_spliced (thn (h pos pins s σ H _ I hq) λ us s1 ⟨xs,H1,I1,r,z,q⟩=>⟨by rw [<-r.length];exact z,?_⟩);have hf:H1 s1.heap.objs.size=none:=I1.hok.fresh (Aa7 _);refine ⟨.ref s1.heap.objs.size,upd H1 s1.heap.objs.size (.lst xs),I1.laid (t':=s1.toks) (λ b u e=>Aa3 _ e) (Aa7 _) ?_,rfl,q _ hf⟩;exact ⟨z,us,0,r,Aa6 _ rfl⟩
end
abbrev Sp:=List V->Hp->VK->XK->Prop
abbrev CXT:=List Env->Hp->Shared->XK->Value->Shared->Prop
structure Env0 (P:Program) (w:World) (K:PySem.W.Frag) (mg:Str->Option Value) (base:Heap) (A:Around) (outer:List Env) (s:Shared) (H:Hp):Prop where
  frames:A.frames=some outer
  mod:Mod K mg base
  bs:∀ b o,base.get? b=some o->s.heap.get? b=some o/\H b=none
  bsz:base.objs.size<=s.heap.objs.size
  funs:s.heap.FunFrames base outer
  frf:∀ b∈frs outer,H b=none
  hok:HOk P w H s.heap
  bare:AllBare s.gens
def CE (outer:List Env) (P:Program) (w:World) (H:Hp) (s:Shared) (Q:VK) (u:Value) (s':Shared):Prop:=
  ∃ v H',s'.os=s.os/\AllBare s'.gens/\Un (frs outer) [] H H' s.heap s'.heap/\HOk P w H' s'.heap/\RelV v u/\Q v H'
def CR (CX:CXT) (outer:List Env) (P:Program) (w:World) (H:Hp) (s:Shared) (Q:VK) (E:XK) (r:Result) (s':Shared):Prop:=
  match r with
  | .ok (.ret u)=>CE outer P w H s Q u s'
  | .ok _=>False
  | .error e=>CX outer H s E e s'
structure FnOk (P:Program) (w:World) (K:PySem.W.Frag) (mg:Str->Option Value) (base:Heap) (CX:CXT) (k:Nat) (f:Addr) (fd:FuncData) (ps:List Str) (sp:Sp):Prop where
  len:∀ vs H Q E,sp vs H Q E->vs.length=ps.length
  run:∀ (A:Around) (outer:List Env) (s:Shared) (H:Hp) (args:Args) (us:List Value) (vs:List V) (Q:VK) (E:XK),Room k A->Env0 P w K mg base A outer s H->BindsTo s fd args (ps.zip us)->Vals vs us->sp vs H Q E->
    codeAny (model P w) A (.call (.ref f) args) (CR CX outer P w H s Q E) s
theorem FnOk.imp {K:PySem.W.Frag} {CX:CXT} {k:Nat} {sp sp':Sp} (F:FnOk P w K mg base CX k f fd ps sp)
    (h:∀ vs H Q E,sp' vs H Q E->sp vs H Q E):FnOk P w K mg base CX k f fd ps sp':=
  ⟨λ vs H Q E q=>F.len vs H Q E (h _ _ _ _ q),λ A outer s H args us vs Q E hr he hb hv hs=>F.run A outer s H args us vs Q E hr he hb hv (h _ _ _ _ hs)⟩
theorem Env0.make {K:PySem.W.Frag} {outer:List Env} (e:Env0 P w K mg base A outer s H) (C:Addr) (us:List Value) (kw:List (Str × Value)):
    Env0 P w K mg base (A.under (.builtin "type.__call__" ⟨.ref C::us,kw⟩)) outer s H:=⟨by first | exact e.frames | (simpa [Around.under,Code.envs,Code.isFrame,pushEnvs] using e.frames),e.mod,e.bs,e.bsz,e.funs,e.frf,e.hok,e.bare⟩
section
variable {s':Shared}
theorem Inv.env0 (I:Inv X pins σ H s):Env0 X.prog X.w X.K X.mg X.base X.A X.stack s H:=
  ⟨I.ok.frames,I.ok.mod,I.bs,Ac5 I.ok.bsz I.sz,I.stack,I.stkFree,I.hok,I.bare⟩
theorem Inv.after {Q:VK} (I:Inv X pins σ H s) (h:CE X.stack X.prog X.w H s Q u s'):EP X pins σ Q u s':=by
  obtain ⟨v,H',os,bare,un,hok,r,q⟩:=h;obtain ⟨hh,g,d,t,os'⟩:=s';obtain rfl:os'=s.os:=os;exact ⟨v,H',I.call (h':=hh) (g':=g) (d':=d) (t':=t) (ch:=[]) un hok bare (λ b z=>absurd z (by simp)),r,q⟩
end
def Ly (sp:Sp) (dvs:List V) (E:XK) (t:TA):TE:=λ σ H Q=>t σ H λ vs H1=>sp (vs++dvs) H1 Q E
def JW (C:Addr) (m:Str) (sp:Sp) (dvs:List V) (E:XK) (ta:TE) (t:TA):TE:=λ σ H Q=>ta σ H λ x H1=>∃ a dx fs,x= .ref a/\H1 a=some (.ins C dx fs)/\fs.lookup m=none/\
  t σ H1 λ vs H2=>sp (x::(vs++dvs)) H2 Q E
def M7 (C:Addr) (sp:Sp) (dvs:List V) (E:XK) (t:TA):TE:=λ σ H Q=>t σ H λ vs H1=>∀ x dx,H1 x=none->H1 dx=none->dx≠x->
  sp (.ref x::(vs++dvs)) (upd (upd H1 dx (.own x)) x (.ins C dx [])) (λ v H2=>v= .non/\Q (.ref x) H2) E
def Binds (K:PySem.W.Frag) (fd:FuncData) (ps:List Str) (ds:List Value):Prop:=
  ∀ (s:Shared) (us:List Value),K.In s.heap->(us++ds).length=ps.length->BindsTo s fd ⟨us,[]⟩ (ps.zip (us++ds))
theorem Binds.all {K:PySem.W.Frag} (h:∀ us:List Value,us.length=ps.length->bindArgs fd ⟨us,[]⟩=pure (ps.zip us)):Binds K fd ps []:=λ s us _ hl=>by
  rw [List.append_nil] at hl ⊢;exact .of_eq (h us hl)
def Fq (CX:CXT) (X:Cx) (E:XK):Prop:=∀ (pins:List (Addr × Obj)) (σ:St) (H:Hp) (s:Shared) (e:Value) (s':Shared),Inv X pins σ H s->CX X.stack H s E e s'->X.xe e s'
section
variable {CX:CXT} {k:Nat} {sp:Sp} {dvs:List V} {ds:List Value} {E:XK} {apos:Pos}
theorem Mb {Q:VK} (F:FnOk X.prog X.w X.K X.mg X.base CX k f fd ps sp) (hr:Room k X.A) (hb:Binds X.K fd ps ds) (hd:Vals dvs ds) (hx:Fq CX X E)
    (I:Inv X pins σ H s) (r:Vals vs us) (h:sp (vs++dvs) H Q E):wpAny (model X.prog X.w) X.A (call (.ref f) us) (EP X pins σ Q) X.xe s:=by
  have r2:Vals (vs++dvs) (us++ds):=r.append hd;have hl:(us++ds).length=ps.length:=by rw [<-r2.length];exact F.len _ _ _ _ h
  refine wpAny_call (codeAny_mono (F.run X.A X.stack s H ⟨us,[]⟩ (us++ds) (vs++dvs) Q E hr I.env0 (hb s us I.kIn hl) r2 h) λ r s' hq=> ?_);cases r with
  | error e=>exact hx pins σ H s e s' I hq
  | ok fl=>
    cases fl with
    | ret u=>exact I.after hq
    | next=>exact False.elim hq
    | brk=>exact False.elim hq
    | cont=>exact False.elim hq
theorem Qm (F:FnOk X.prog X.w X.K X.mg X.base CX k f fd ps sp) (hr:Room k X.A) (hg:Gl X x) (hm:X.mg x=some (.ref f)) (hk:PySem.W.keepIn X.K (.ref f)=true) (hb:Binds X.K fd ps ds) (hd:Vals dvs ds) (hx:Fq CX X E)
    (ha:PA X (e::es) t) (hdb:(x == ("__debug__":Str))=false:=by decide) (he:starEach (e::es) X.env=(false,eval e X.env)::starEach es X.env:=by rfl) (hpl:(backTo pos (starEach es X.env)).any (·.1)=false:=by rfl):
    PE X (.Call (.Name x p) (e::es) [] pos) (Ly sp dvs E t):=by
  intro pins s σ H Q I h;refine Ah9 (Kv I hg hm ?_ hdb);refine PySem.W.callWith_K (h₀:=X.base) I.ok.mod.kin hk (thn (ha pos pins s σ H _ I h) λ us s1 ⟨vs,H1,I1,r,q⟩=>⟨I1.kIn,?_⟩) he hpl;exact Mb F hr hb hd hx I1 r q
theorem QK {pl:Sem Bool} (he:PE X o ta) (c:Cls X.K C) (hm:Meth X.K C m f) (F:FnOk X.prog X.w X.K X.mg X.base CX k f fd ps sp) (hr:Room k X.A) (hb:Binds X.K fd ps ds) (hd:Vals dvs ds) (hx:Fq CX X E) (ha:PA X (e::es) t)
    (hst:starEach (e::es) X.env=(false,eval e X.env)::starEach es X.env:=by rfl) (hpl:(backTo pos (starEach es X.env)).any (·.1)=false:=by rfl)
    (ht:eval (.Call (.Attribute o m apos) (e::es) [] pos) X.env=(do
      let ov <-eval o X.env
      standAt apos.atName
      let (f,first) <-holding [ov] (getMethod ov m pl)
      callWith pos f first (backTo pos (starEach (e::es) X.env)) (backToKw pos (keywordEach [] X.env))):=by rfl):
    PE X (.Call (.Attribute o m apos) (e::es) [] pos) (JW C m sp dvs E ta t):=by
  intro pins s σ H Q I h;refine PySem.W.methodCall_KW (pl:=pl) (thn (he pins s σ H _ I h) λ u s1 ⟨x,H1,I1,rx,a,dx,fs,ex,ea,l,q⟩=> ?_) ht;subst ex;obtain rfl:u=Value.ref a:=rx;refine Fz I1 ea c hm l ?_;refine PySem.W.callWith_K (first:=[.ref a]) (h₀:=X.base) I.ok.mod.kin hm.kp (thn (ha pos pins s1 σ H1 _ I1 q) λ us s2 ⟨vs,H2,I2,r,q2⟩=>⟨I2.kIn,?_⟩) hst hpl;exact Mb (us:= .ref a::us) (vs:= .ref a::vs) F hr hb hd hx I2 (.cons rfl r) q2
theorem OZ {pl:Sem Bool} (he:PE X o ta) (c:Cls X.K C) (hm:Meth X.K C m f) (F:FnOk X.prog X.w X.K X.mg X.base CX k f fd ps sp) (hr:Room k X.A) (hb:Binds X.K fd ps ds) (hd:Vals dvs ds) (hx:Fq CX X E)
    (ht:eval (.Call (.Attribute o m apos) [] [] pos) X.env=(do
      let ov <-eval o X.env
      standAt apos.atName
      let (f,first) <-holding [ov] (getMethod ov m pl)
      callWith pos f first (backTo pos (starEach [] X.env)) (backToKw pos (keywordEach [] X.env))):=by rfl):
    PE X (.Call (.Attribute o m apos) [] [] pos) (JW C m sp dvs E ta NY):=by
  intro pins s σ H Q I h;refine PySem.W.methodCall_KW (pl:=pl) (thn (he pins s σ H _ I h) λ u s1 ⟨x,H1,I1,rx,a,dx,fs,ex,ea,l,q⟩=> ?_) ht;subst ex;obtain rfl:u=Value.ref a:=rx;refine Fz I1 ea c hm l ?_;exact PySem.W.callWith_K0 (first:=[.ref a]) I1.kIn hm.kp (Mb (us:=[.ref a]) (vs:=[.ref a]) F hr hb hd hx I1 (.cons rfl .nil) q)
structure Mk (K:PySem.W.Frag) (C f:Addr):Prop where
  makes:PySem.W.makesIn K C=true
  init:PySem.W.findIn K (.ref C) "__init__"=some (some (.ref f))
  fn:PySem.W.isFn K (.ref f)=true
  kp:PySem.W.keepIn K (.ref C)=true
theorem Pn {Q:VK} (M:Mk X.K C f) (F:FnOk X.prog X.w X.K X.mg X.base CX k f fd ps sp) (hr:Room (k+1) X.A) (hb:Binds X.K fd ps ds) (hd:Vals dvs ds)
    (hx:Fq CX X E) (I:Inv X pins σ H s) (r:Vals vs us)
    (h:∀ x dx,H x=none->H dx=none->dx≠x->sp (.ref x::(vs++dvs)) (upd (upd H dx (.own x)) x (.ins C dx [])) (λ v H2=>v= .non/\Q (.ref x) H2) E):
    wpAny (model X.prog X.w) X.A (call (.ref C) us) (EP X pins σ Q) X.xe s:=by
  have hq:=h (s.heap.objs.size+1) s.heap.objs.size (I.hok.fresh (Nat.le_succ _)) (I.hok.fresh (Aa7 _)) (Ab6 (Nat.lt_succ_self _));have I2:=Inv.made (C:=C) I;have r2:Vals (V.ref (s.heap.objs.size+1)::(vs++dvs)) (Value.ref (s.heap.objs.size+1)::(us++ds)):= .cons rfl (r.append hd);have hl:(Value.ref (s.heap.objs.size+1)::us++ds).length=ps.length:=by
    have e:=r2.length;rw [F.len _ _ _ _ hq] at e;exact e.symm
  refine wpAny_call (Ot (f:=f) I.kIn M.makes M.init (beq_iff_eq.mp M.fn) (codeAny_mono (F.run _ X.stack _ _ ⟨Value.ref (s.heap.objs.size+1)::us,[]⟩ (Value.ref (s.heap.objs.size+1)::(us++ds)) _ _ E (hr.make C us [])
    (I2.env0.make C us []) (hb _ (Value.ref (s.heap.objs.size+1)::us) I2.kIn hl) r2 hq) λ r s' hq'=> ?_))
  cases r with
  | error e=>exact hx pins σ _ _ e s' I2 hq'
  | ok fl=>
    cases fl with
    | ret u=>
      obtain ⟨v,H',I3,rv,ev,q3⟩:=I2.after hq';subst ev;exact ⟨rv,⟨V.ref (s.heap.objs.size+1),H',I3,rfl,q3⟩⟩
    | next=>exact False.elim hq'
    | brk=>exact False.elim hq'
    | cont=>exact False.elim hq'
theorem QZ (M:Mk X.K C f) (F:FnOk X.prog X.w X.K X.mg X.base CX k f fd ps sp) (hr:Room (k+1) X.A) (hg:Gl X x) (hm:X.mg x=some (.ref C)) (hb:Binds X.K fd ps ds) (hd:Vals dvs ds) (hx:Fq CX X E)
    (ha:PA X (e::es) t) (hdb:(x == ("__debug__":Str))=false:=by decide) (he:starEach (e::es) X.env=(false,eval e X.env)::starEach es X.env:=by rfl) (hpl:(backTo pos (starEach es X.env)).any (·.1)=false:=by rfl):
    PE X (.Call (.Name x p) (e::es) [] pos) (M7 C sp dvs E t):=by
  intro pins s σ H Q I h;refine Ah9 (Kv I hg hm ?_ hdb);refine PySem.W.callWith_K (h₀:=X.base) I.ok.mod.kin M.kp (thn (ha pos pins s σ H _ I h) λ us s1 ⟨vs,H1,I1,r,q⟩=>⟨I1.kIn,?_⟩) he hpl;exact Pn M F hr hb hd hx I1 r q
end
section
variable {CX:CXT} {k:Nat} {ks:List Str} {sp:Sp} {E:XK} {apos kpos:Pos} {kws:List Keyword} {te:TE} {tk:TA} {nm:Option Str}
structure KBinds (K:PySem.W.Frag) (fd:FuncData) (ps ks:List Str) (g:List Value->List Value->List Value) (gV:List V->List V->List V):Prop where
  to:∀ (s:Shared) (us ws:List Value),K.In s.heap->(g us ws).length=ps.length->BindsTo s fd ⟨us,ks.zip ws⟩ (ps.zip (g us ws))
  rel:∀ {vs:List V} {us:List Value} {zs:List V} {ws:List Value},Vals vs us->Vals zs ws->Vals (gV vs zs) (g us ws)
variable {g:List Value->List Value->List Value} {gV:List V->List V->List V}
end
structure FnScope (N P:List Str) (sc:Scope):Prop where
  kind:sc.kind= .function
  co:sc.isCoroutine=false
  gen:sc.isGenerator=false
  nd:N.Nodup
  pre:N.take P.length=P
  par:∀ x∈P,sc.names.lookup x=some .local\/sc.names.lookup x=some .cell
  nofree:∀ y∈sc.names,y.2≠ .free
theorem JY {kindOf:Str->Option NameKind} {x:Str}:∀ {binds:List (Str × Value)} {m:Str->Option Value},(∀ v,(x,v)∉binds)->bindL kindOf binds m x=m x
  | [],_,_=>rfl
  | (n,v)::r,m,h=>by
    unfold bindL;rw [JY λ w hw=>h w (Ac9 _ hw)];split
    · have:x≠n:=by rintro rfl;exact h v Ad1
      simp [this]
    · rfl
theorem JZ {kindOf:Str->Option NameKind} {x:Str}:∀ {binds:List (Str × Value)} {m:Str->Option Value},(∀ v,(x,v)∉binds)->bindC kindOf binds m x=m x
  | [],_,_=>rfl
  | (n,v)::r,m,h=>by
    unfold bindC;rw [JZ λ w hw=>h w (Ac9 _ hw)];split
    · rfl
    · have:x≠n:=by rintro rfl;exact h v Ad1
      simp [this]
theorem JR {kindOf:Str->Option NameKind} {x:Str} {v:Value}:∀ {P:List Str} {vs:List Value} {i:Nat} {m:Str->Option Value},P.Nodup->P[i]?=some x->vs[i]?=some v->kindOf x=some .local->
    bindL kindOf (P.zip vs) m x=some v
  | [],_,_,_,_,h,_,_=>by simp at h
  | _::_,[],_,_,_,_,h,_=>by simp at h
  | p::P,w::vs,0,m,nd,h1,h2,hk=>by
    simp at h1 h2;subst h1;subst h2;show bindL kindOf ((p,w)::P.zip vs) m p=_;unfold bindL;rw [JY λ v hv=>(List.nodup_cons.mp nd).1 (List.of_mem_zip hv).1,if_pos hk];simp
  | p::P,w::vs,i+1,m,nd,h1,h2,hk=>by
    show bindL kindOf ((p,w)::P.zip vs) m x=_;unfold bindL;exact JR (i:=i) (List.nodup_cons.mp nd).2 (by simpa using h1) (by simpa using h2) hk
theorem J7 {kindOf:Str->Option NameKind} {x:Str} {v:Value}:∀ {P:List Str} {vs:List Value} {i:Nat} {m:Str->Option Value},P.Nodup->P[i]?=some x->vs[i]?=some v->kindOf x≠some .local->
    bindC kindOf (P.zip vs) m x=some v
  | [],_,_,_,_,h,_,_=>by simp at h
  | _::_,[],_,_,_,_,h,_=>by simp at h
  | p::P,w::vs,0,m,nd,h1,h2,hk=>by
    simp at h1 h2;subst h1;subst h2;show bindC kindOf ((p,w)::P.zip vs) m p=_;unfold bindC;rw [JZ λ v hv=>(List.nodup_cons.mp nd).1 (List.of_mem_zip hv).1,if_neg hk];simp
  | p::P,w::vs,i+1,m,nd,h1,h2,hk=>by
    show bindC kindOf ((p,w)::P.zip vs) m x=_;unfold bindC;exact J7 (i:=i) (List.nodup_cons.mp nd).2 (by simpa using h1) (by simpa using h2) hk
def start (N:List Str) (vs:List V):St:=vs.map some++Ab5 (N.length - vs.length) none
def Oc (CX:CXT) (P:Program) (w:World) (K:PySem.W.Frag) (mg:Str->Option Value) (base:Heap) (N:List Str) (qual:Str) (scope:Scope) (f:Addr) (cd:Value) (A:Around) (outer:List Env) (s:Shared) (H:Hp) (E:XK):Cx where
  prog:=P
  w:=w
  K:=K
  mg:=mg
  base:=base
  A:=A.deeper (envOfC qual scope s.heap.objs.size f cd)
  N:=N
  s₀:=s
  H₀:=H
  env:=envOfC qual scope s.heap.objs.size f cd
  outer:=outer
  stack:=envOfC qual scope s.heap.objs.size f cd::outer
  ex:=[]
  calm:=true
  fn:=λ _=>true
  pn:=[]
  xe:=λ e s'=>wpAny (model P w) (A.deeper (envOfC qual scope s.heap.objs.size f cd)) (leaving (envOfC qual scope s.heap.objs.size f cd) e) (λ _ s''=>CX outer H s E e s'') (λ e' s''=>CX outer H s E e' s'') s'
theorem Lc {sc:Scope} {n:Nat} (h:sc.names.lookup x=some .cell):∃ c,(cellsFrom n sc.names []).lookup x=some c:=by
  have q:=PySem.W.cellsFrom_some sc.names n [] (.inl h);exact Option.isSome_iff_exists.mp q
theorem Nw {CX:CXT} {K:PySem.W.Frag} {N:List Str} {qual:Str} {scope:Scope} {cd:Value} {outer:List Env} {s1:Shared} {E:XK}
    (S:FnScope N ps scope) (hd:A.handled=none) (e0:Env0 P w K mg base A outer s H) (hl:vs.length=ps.length) (r:Vals vs us)
    (x:InCallC s s.heap.objs.size (bindL (envOfC qual scope s.heap.objs.size f cd).kindOf (ps.zip us) λ _=>none) (cellsFrom (s.heap.objs.size+1) scope.names []) (bindC (envOfC qual scope s.heap.objs.size f cd).kindOf (ps.zip us) λ _=>none) s1):
    Inv (Oc CX P w K mg base N qual scope f cd A outer s H E) [] (start N vs) H s1:=by
  have hpl:ps.length<=N.length:=by have:=congrArg List.length S.pre;rw [Af6] at this;omega
  obtain ⟨h1,tk,rfl,hk⟩:=x.done;have noA:∀ b:Addr,b∉(Oc CX P w K mg base N qual scope f cd A outer s H E).ex:=λ b z=>absurd (show b∈([]:List Addr) from z) (by simp);refine ⟨⟨e0.mod,S.kind,rfl,rfl,Aa7 _,λ y z c h1 h2=> ?_,λ y hy=> ?_,λ y c _ h=> ?_,λ _=>hd,Around.frames_deeper e0.frames, .inr ⟨rfl,rfl⟩,λ b z=>absurd z (noA b),e0.bs,e0.bsz,λ b _ _=>noA b,λ b z=>absurd z (noA b),e0.funs,e0.frf⟩,
    rfl,e0.bare,Un.kept hk,⟨_,x.toInCall.ns,λ i y v h1 h2 h3=> ?_⟩,λ y c h=>⟨_,x.cell y c h⟩,e0.hok.fresh (Aa7 _),λ y c h=> ?_,λ p hp=>absurd (show p∈([]:List (Addr × Obj)) from hp) (by simp),e0.hok.kept hk,?_⟩
  · exact name_of_addr x.apart (PySem.mem_of_lookup h1) (PySem.mem_of_lookup h2)
  · have hy:scope.names.lookup y=some .cell\/scope.names.lookup y=some .free:=hy;rcases hy with hy | hy
    · exact Lc hy
    · exact absurd rfl (S.nofree _ (PySem.mem_of_lookup hy))
  · exact Nat.le_of_lt (x.above y c (PySem.mem_of_lookup h))
  · have hi:i<vs.length:=by
      unfold start at h2;by_cases hi:i<vs.length
      · exact hi
      · rw [Ae8 (by simpa using hi)] at h2;rw [List.getElem?_replicate] at h2;split at h2 <;> cases h2
    have ha:vs[i]?=some v:=by
      unfold start at h2;rw [Af0 (by simpa using hi),Ac4] at h2;cases e:vs[i]? with
      | none=>rw [e] at h2;cases h2
      | some a=>rw [e] at h2;cases h2;rfl
    obtain ⟨u,hu,rv⟩:=r.get ha;have hp:ps[i]?=some y:=by
      rw [<-S.pre,List.getElem?_take_of_lt (by omega)];exact h1
    have ndP:ps.Nodup:=by rw [<-S.pre];exact S.nd.sublist (List.take_sublist _ _)
    refine ⟨u,rv,?_⟩;rcases S.par y (List.mem_of_getElem? hp) with k | k
    · exact .inl ⟨k,JR ndP hp hu k⟩
    · obtain ⟨c,e⟩:=Lc (n:=s.heap.objs.size+1) k;refine .inr ⟨.inl k,c,e,?_⟩;have q:=x.cell y c e;rw [J7 ndP hp hu (by show scope.names.lookup y≠_;rw [k];decide)] at q;exact q
  · exact e0.hok.fresh (Nat.le_of_lt (x.above y c (PySem.mem_of_lookup h)))
  · unfold start;show _=N.length;rw [Ac0,Aa1,List.length_replicate];omega
theorem YY {CX:CXT} {K:PySem.W.Frag} {k:Nat} {name qual:Str} {params:Arguments} {body:List Stmt} {scope:Scope} {dV kV doc pm cdv ct oc:Value} {an od:Option Addr}
    {osl:Array (Option Value)} {N:List Str} {sp:Sp} (lk:K.lookup f=some ⟨oc,od, .func (PySem.W.fnOf name qual params body scope dV kV doc pm an cdv ct),osl⟩) (hcd:PySem.W.codeIn K cdv qual=true) (S:FnScope N ps scope)
    (len:∀ vs H Q E,sp vs H Q E->vs.length=ps.length)
    (hbody:∀ (A:Around) (outer:List Env) (s:Shared) (H:Hp) (vs:List V) (Q:VK) (E:XK),Room k (A.deeper (envOfC qual scope s.heap.objs.size f cdv))->sp vs H Q E->
      ∃ t,PSs (Oc CX P w K mg base N qual scope f cdv A outer s H E) body t/\t { nx:=λ _ H'=>Q .non H',rt:=Q } (start N vs) H):
    FnOk P w K mg base CX (k+1) f (PySem.W.fnOf name qual params body scope dV kV doc pm an cdv ct) ps sp:=by
  refine ⟨len,λ A outer s H args us vs Q E hr e0 hb r hsp=> ?_⟩;have hl:=len _ _ _ _ hsp;have KX:K.In s.heap:=e0.mod.kin.keeps λ b o e=>(e0.bs b o e).1;have lim:s.heap.NoLimit:=e0.mod.nolimit.keeps λ b o e=>(e0.bs b o e).1;have hkind:∀ y∈ps.zip us,scope.names.lookup y.1=some .local\/(scope.names.lookup y.1=some .cell/\((cellsFrom (s.heap.objs.size+1) scope.names []).lookup y.1).isSome=true):=λ ⟨n,v⟩ hy=>by
    rcases S.par n (List.of_mem_zip hy).1 with q | q
    · exact .inl q
    · exact .inr ⟨q,PySem.W.cellsFrom_some _ _ _ (.inl q)⟩
  refine codeAny_call_function hr.depth (KX _ _ lk) rfl S.co S.gen rfl (PySem.W.codeRec_of KX hcd) (hb _ _ _ _ ?_);refine wpAny_newFunctionEnv_cells S.kind hkind λ env he s1 x=> ?_;subst he;refine ⟨lim.keeps x.toInCall.keep,codeAny_func ?_⟩;obtain ⟨t,ht,hq⟩:=hbody A outer s H vs Q E (hr.deeper _) hsp;have I:Inv (Oc CX P w K mg base N qual scope f cdv A outer s H E) [] (start N vs) H s1:=Nw S hr.hd e0 hl r x;refine Af1 (ht [] s1 (start N vs) H _ I hq) (λ fl s' hs=> ?_) λ e s' hs=>hs;have fin:∀ {σ':St} {H':Hp} {v:V} {u:Value},Inv (Oc CX P w K mg base N qual scope f cdv A outer s H E) [] σ' H' s'->RelV v u->Q v H'->CE outer P w H s Q u s':=
    λ {σ' H' v u} J rv q=>⟨v,H',J.os,J.bare,J.base,J.hok,rv,q⟩
  cases fl with
  | ret u=>
    obtain ⟨v,σ',H',J,rv,q⟩:=hs;exact fin J rv q
  | next=>
    obtain ⟨σ',H',J,q⟩:=hs;exact fin (v:=V.non) (u:=Value.none) J rfl q
  | brk=>
    obtain ⟨_,_,_,q⟩:=hs;exact False.elim q
  | cont=>
    obtain ⟨_,_,_,q⟩:=hs;exact False.elim q
section
variable {id T:String} {r:List V->Hp->VK->Prop}
def tCB (r:List V->Hp->VK->Prop) (t:TA):TE:=λ σ H Q=>t σ H λ vs H1=>r vs H1 Q
theorem Am (hc:BY X (.builtin id) r) (hg:Gl X x) (hm:X.mg x=none) (hv:bootBuiltins x=some (.builtin id)) (ha:PA X (e::es) t) (hn:x≠"__name__":=by decide) (hdb:(x == ("__debug__":Str))=false:=by decide)
    (he:starEach (e::es) X.env=(false,eval e X.env)::starEach es X.env:=by rfl) (hpl:(backTo pos (starEach es X.env)).any (·.1)=false:=by rfl):PE X (.Call (.Name x p) (e::es) [] pos) (tCB r t):=by
  intro pins s σ H Q I h;refine Ah9 (Cd I hg hm hv ?_ hn hdb);exact PyProof.Rows.callWith_builtin1 (thn (ha pos pins s σ H _ I h) λ us s1 ⟨vs,H1,I1,r1,q1⟩=>hc pins s1 σ H1 vs us Q I1 r1 q1) he hpl
theorem As (hc:BY X (.type T) r) (hg:Gl X x) (hm:X.mg x=none) (hv:bootBuiltins x=some (.type T)) (ha:PA X (e::es) t) (hn:x≠"__name__":=by decide) (hdb:(x == ("__debug__":Str))=false:=by decide)
    (he:starEach (e::es) X.env=(false,eval e X.env)::starEach es X.env:=by rfl) (hpl:(backTo pos (starEach es X.env)).any (·.1)=false:=by rfl):PE X (.Call (.Name x p) (e::es) [] pos) (tCB r t):=by
  intro pins s σ H Q I h;refine Ah9 (Cd I hg hm hv ?_ hn hdb);exact PyProof.Rows.callWith_type1 (thn (ha pos pins s σ H _ I h) λ us s1 ⟨vs,H1,I1,r1,q1⟩=>hc pins s1 σ H1 vs us Q I1 r1 q1) he hpl
end
end L2
section
variable {H H':L2.Hp} {X:L2.Cx} {pos px:PySem.Pos} {s:PySem.Shared} {n i t' m:Nat} {xs ys:List L2.V} {w:PySem.World} {σ:L2.St} {pins:List (PySem.Addr × PySem.Obj)} {p a l it D:PySem.Addr} {v y:L2.V} {A:PySem.Around} {x:PySem.Str} {E Q:PySem.Value->PySem.Shared->Prop} {F:PySem.Addr->Prop} {P prog:PySem.Program} {u:PySem.Value} {tc:L2.TT} {h h':PySem.Heap} {scope:PySem.Scope} {tg elt iter e:PySem.Expr} {ifs elts es:List PySem.Expr} {b t1 t2:Bool} {B:Prop} {T:String} {sp:L2.Sp} {kvs:List (L2.Key × L2.V)} {g:L2.TG} {wi:L2.TI} {o:L2.HO} {ns:List Int} {its:List PySem.Value} {mg:PySem.Str->Option PySem.Value} {lo hi:Option Int} {fd:PySem.FuncData} {ps:List PySem.Str} {XP:(PySem.Str->Option PySem.Value)->PySem.Heap->Prop} {QO:Option Int->L2.Hp->Prop}
namespace HT
open PySem PyProof.Rows
section
def sIx (n d:Nat):Option Int->Nat
  | none=>d
  | some v=>if v<0 then (v+(n:Int)).toNat else min v.toNat n
theorem S7 (n d:Nat) (hd:d<=n) (o:Option Int):sIx n d o<=n:=by
  cases o with
  | none=>exact hd
  | some v=>
    show (if v<0 then (v+(n:Int)).toNat else min v.toNat n)<=n;by_cases hv:v<0
    · rw [if_pos hv];omega
    · rw [if_neg hv];exact Nat.min_le_right _ _
theorem Na (v:Int) (n d:Nat):(if v<0 then max (v+(n:Int)) 0 else min v (n:Int))=((sIx n d (some v):Nat):Int):=by
  show (if v<0 then max (v+(n:Int)) 0 else min v (n:Int))=(((if v<0 then (v+(n:Int)).toNat else min v.toNat n):Nat):Int);by_cases hv:v<0
  · simp only [if_pos hv];omega
  · simp only [if_neg hv];omega
theorem MD (lo hi:Option Int) (n:Nat):Builtin.Slice.sliceAdjust lo hi 1 (n:Int)=(((sIx n 0 lo:Nat):Int),((sIx n n hi:Nat):Int)):=by
  have h1:¬ ((1:Int)<0):=by omega
  unfold Builtin.Slice.sliceAdjust;simp only [h1,if_false];refine Prod.ext ?_ ?_
  · cases lo with
    | none=>rfl
    | some v=>exact Na v n 0
  · cases hi with
    | none=>rfl
    | some v=>exact Na v n n
theorem MB (i j:Nat):Builtin.Slice.slicePlaces (i:Int) (j:Int) 1=j - i:=by
  unfold Builtin.Slice.slicePlaces;have h1:(1:Int)>0:=by omega
  simp only [h1,if_true,Int.ediv_one];split <;> omega
theorem IH {v:Value} {o:Option Int} {Q:Option Int->Shared->Prop} (p:IsPart v o) (h:Q o s):wpAny (model prog w) A (Builtin.Slice.slicePartIndex v) Q E s:=by
  cases p with
  | none=>exact slicePart_none h
  | int i t=>exact slicePart_int h
theorem DJ {sl:Addr} {vl vu:Value} {Q:Int × Int × Nat->Shared->Prop} (hs:s.heap.IsSliceOf sl vl vu .none) (pl:IsPart vl lo) (pu:IsPart vu hi)
    (h:Q (((sIx n 0 lo:Nat):Int),1,sIx n n hi - sIx n 0 lo) s):wpAny (model prog w) A (Builtin.Slice.sliceApplied (.ref sl) (pure (n:Int))) Q E s:=by
  obtain ⟨os,hos,hcs,hds⟩:=id hs;unfold Builtin.Slice.sliceApplied Builtin.Slice.sliceFields;refine Aa0 (Aa0 (Ab8 hos hds (x:=vl) rfl (Aa0 (Ab8 hos hds (x:=vu) rfl (Aa0 (Ab8 hos hds (x:= .none) rfl (Aa5 ?_)))))));refine Aa0 (slicePart_none ?_);show wpAny _ _ (if ((1:Int) == 0)=true then _ else _) _ _ s;rw [if_neg (by decide)];refine Aa0 (IH pl (Aa0 (IH pu (Aa0 (Aa5 ?_)))));show wpAny _ _ (match Builtin.Slice.sliceAdjust lo hi 1 (n:Int) with | (lo,hi)=>pure (lo,(1:Int),Builtin.Slice.slicePlaces lo hi 1)) _ _ s;rw [MD lo hi n];show wpAny _ _ (pure (((sIx n 0 lo:Nat):Int),(1:Int),Builtin.Slice.slicePlaces ((sIx n 0 lo:Nat):Int) ((sIx n n hi:Nat):Int) 1)) _ _ s;rw [MB];exact Aa5 h
theorem PL (xs:Array Value) (i k:Nat):((Aa9 k).filterMap λ (m:Nat)=>xs[((i:Int)+(m:Int)*1).toNat]?).toArray=((xs.toList.drop i).take k).toArray:=by
  have e:(λ (m:Nat)=>xs[((i:Int)+(m:Int)*1).toNat]?)=λ m=>xs[i+m]?:=by
    funext m;have:((i:Int)+(m:Int)*1).toNat=i+m:=by omega
    rw [this]
  rw [e];have:=pick_run xs i k;rw [List.filterMap_map] at this;have e2:((λ x=>xs[x]?)∘λ x=>i+x)=λ m=>xs[i+m]?:=rfl;rw [e2] at this;rw [this]
theorem getItem_tuple_cut {t sl:Addr} {items:Array Value} {vl vu:Value} (ht:IsTup s.heap t items) (hs:s.heap.IsSliceOf sl vl vu .none) (pl:IsPart vl lo) (pu:IsPart vu hi)
    (hw:¬ (sIx items.size 0 lo=0/\sIx items.size items.size hi=items.size))
    (h:Q (.ref s.heap.objs.size) { s with heap:=s.heap.push { cls:= .type "tuple",data:= .seq ((items.toList.drop (sIx items.size 0 lo)).take (sIx items.size items.size hi - sIx items.size 0 lo)).toArray } })
    (hsz:items.size<=sizeLine):wpAny (model prog w) A (getItem (.ref t) (.ref sl)) Q E s:=by
  have htake:sizeOk (.seq ((items.toList.drop (sIx items.size 0 lo)).take (sIx items.size items.size hi - sIx items.size 0 lo)).toArray):=by
    show ((items.toList.drop (sIx items.size 0 lo)).take (sIx items.size items.size hi - sIx items.size 0 lo)).toArray.size<=sizeLine;rw [Ab0,Af6,List.length_drop,Ad2];omega
  have hj:sIx items.size items.size hi<=items.size:=S7 _ _ (Aa7 _) hi;obtain ⟨os,hos,hcs,hds⟩:=id hs;have hTs:s.TypeIs (.ref sl) "slice":=⟨os,hos,hcs⟩;unfold getItem
  try with_reducible refine Ad5 ?_
  first | refine Aa0 (Aa5 ?_) | skip
  refine Aa0 (wpAny_sequenceKey ht.typeIs (by decide) ?_);refine Aa0 (Ab4 (name:=Str.ofString "__getitem__") ht.typeIs PyProof.Rows.slot_tuple_getitem
    (Ab9 PyProof.Rows.slot_tuple_getitem ht.typeIs entry_tuple_getitem ?_ (args_tuple_getitem _ _)))
  show wpAny _ _ (Builtin.Tuple.tupleItemsOf (.ref t) >>= _) _ _ s;refine Aa0 (tupleItemsOf_ ht ?_);refine Aa0 (wpAny_typeOf hTs ?_);rw [if_pos (by decide)];refine Aa0 (DJ hs pl pu ?_);have hno:¬ ((((sIx items.size 0 lo:Nat):Int) == 0&&(1:Int) == 1&&(sIx items.size items.size hi - sIx items.size 0 lo) == items.size)=true):=by
    intro q;rw [Ad9,Ad9] at q;have q1:((sIx items.size 0 lo:Nat):Int)=0:=eq_of_beq q.1.1;have q2:sIx items.size items.size hi - sIx items.size 0 lo=items.size:=eq_of_beq q.2;exact hw ⟨by omega,by omega⟩
  show wpAny _ _ (if (((sIx items.size 0 lo:Nat):Int) == 0&&(1:Int) == 1&&(sIx items.size items.size hi - sIx items.size 0 lo) == items.size)=true then _ else _) _ _ s;rw [if_neg hno,PL]
  first
    | exact Aa0 (m:=Builtin.Tuple.tupleExact _) (Ae3 (Aa5 ⟨_,rfl,Aa5 h⟩) htake)
    | exact Aa0 (m:=Builtin.Tuple.tupleExact _) (Ae3 (Aa0 (Aa5 (Aa5 ⟨_,rfl,Aa5 h⟩))) htake)
    | exact Aa0 (Aa0 (m:=Builtin.Tuple.tupleExact _) (Ae3 (Aa5 (Aa5 ⟨_,rfl,Aa5 h⟩)) htake))
    | exact Aa0 (Aa0 (m:=Builtin.Tuple.tupleExact _) (Ae3 (Aa5 ⟨_,rfl,Aa5 h⟩) htake))
end
end HT
namespace L2
open PySem PySem.Spec PyProof.Rows
abbrev TO:=St->Hp->(Option Int->Hp->Prop)->Prop
def PO (X:Cx) (e:Option Expr) (t:TO):Prop:=
  ∀ (pins:List (Addr × Obj)) (s:Shared) (σ:St) (H:Hp) (Q:Option Int->Hp->Prop),Inv X pins σ H s->t σ H Q->
    wpAny (model X.prog X.w) X.A (evalPart e X.env) (λ u s'=>∃ o H',Inv X pins σ H' s'/\IsPart u o/\Q o H') X.xe s
def MK:TO:=λ _ H Q=>Q none H
def RD (t:TE):TO:=λ σ H Q=>t σ H λ x H1=>∃ i,x= .int i/\Q (some i) H1
theorem IR:∀ {us:List Value},Vals (ns.map V.int) us->IntsAre us ns:=by
  induction ns with
  | nil=>intro us r;rw [List.map_nil] at r;cases r;exact .nil
  | cons n ns ih=>
    intro us r;rw [Ag9] at r;cases r with
    | cons r1 r2=>
      obtain ⟨t,e⟩:=r1;subst e;exact .cons n t (ih r2)
section
variable {te:TE} {lo hi:Option Expr} {tl th:TO} {p2:Pos}
theorem Da:PO X none MK:=by
  intro pins s σ H Q I h;rw [evalPart_none];exact Aa5 ⟨none,H,I, .none,h⟩
theorem C7 (h:PE X e te):PO X (some e) (RD te):=by
  intro pins s σ H Q I hw;rw [evalPart_some];refine thn (h pins s σ H _ I hw) λ u s1 ⟨x,H1,I1,r1,q1⟩=> ?_;obtain ⟨i,rfl,q⟩:=q1;obtain ⟨t,rfl⟩:=r1;exact ⟨some i,H1,I1, .int i t,q⟩
def SlR (X:Cx) (r:V->Option Int->Option Int->Hp->VK->Prop):Prop:=
  ∀ (pins:List (Addr × Obj)) (s:Shared) (σ:St) (H:Hp) (x:V) (v vl vu:Value) (lo hi:Option Int) (sl:Addr) (Q:VK),Inv X pins σ H s->RelV x v->s.heap.IsSliceOf sl vl vu .none->IsPart vl lo->IsPart vu hi->r x lo hi H Q->
    ∃ T id,typeLookup (.type T) "__getitem__"=pure (some (.builtin id))/\s.TypeIs v T/\wpAny (model X.prog X.w) X.A (getItem v (.ref sl)) (EP X pins σ Q) X.xe s
def tSl (r:V->Option Int->Option Int->Hp->VK->Prop) (te:TE) (tl th:TO):TE:=λ σ H Q=>te σ H λ x H1=>tl σ H1 λ l H2=>th σ H2 λ u H3=>r x l u H3 Q
theorem Cr {r:V->Option Int->Option Int->Hp->VK->Prop} (hr:SlR X r) (he:PE X e te) (hl:PO X lo tl) (hu:PO X hi th):PE X (.Subscript e (.Slice lo hi none p2) pos) (tSl r te tl th):=by
  intro pins s σ H Q I h;refine Subscript_ (thn (he pins s σ H _ I h) λ v s1 ⟨x,H1,I1,r1,q1⟩=> ?_);refine wpAny_Slice (thn (hl pins s1 σ H1 _ I1 q1) λ vl s2 ⟨l,H2,I2,pl,q2⟩=>thn (hu pins s2 σ H2 _ I2 q2) λ vu s3 ⟨u,H3,I3,pu,q3⟩=> ?_);rw [evalPart_none];refine Aa5 ?_;have I4:Inv X pins σ H3 { s3 with heap:=s3.heap.push { cls:= .type "slice",data:= .fields #[vl,vu, .none] } }:=I3.kept (t':=s3.toks) λ b ob q=>Aa3 _ q;obtain ⟨T,id,hT,ht,hg⟩:=hr pins { s3 with heap:=s3.heap.push { cls:= .type "slice",data:= .fields #[vl,vu, .none] } } σ H3 x v vl vu l u s3.heap.objs.size Q I4 r1 (Heap.IsSliceOf.new ..) pl pu q3;show wpAny (model X.prog X.w) X.A (subscriptTail e (.Slice lo hi none p2) v (.ref s3.heap.objs.size)) (EP X pins σ Q) X.xe { s3 with heap:=s3.heap.push { cls:= .type "slice",data:= .fields #[vl,vu, .none] } };exact tail_any (ops:=[.ref s3.heap.objs.size,v]) ht hT hg (by with_unfolding_all rfl)
def Em (xs:List V) (lo hi:Option Int):List V:=(xs.drop (HT.sIx xs.length 0 lo)).take (HT.sIx xs.length xs.length hi - HT.sIx xs.length 0 lo)
theorem GV (xs:List V) (lo hi:Option Int):(Em xs lo hi).length<=xs.length:=by
  unfold Em;rw [Af6,List.length_drop];omega
def aD (K:PySem.W.Frag):V->Option Int->Option Int->Hp->VK->Prop:=λ x lo hi H Q=>∃ a xs,x= .ref a/\SqT K H a xs/\
  ¬ (HT.sIx xs.length 0 lo=0/\HT.sIx xs.length xs.length hi=xs.length)/\∀ p,H p=none->Q (.ref p) (upd H p (.tup (Em xs lo hi)))
theorem SC:SlR X (aD X.K):=by
  intro pins s σ H x v vl vu lo hi sl Q I rx hs pl pu h;obtain ⟨a,xs,rfl,hx,hw,q⟩:=h;cases rx;obtain ⟨its,r,ht,hz⟩:=I.tuple hx;have hlen:its.toArray.size=xs.length:=by rw [Ab0];exact r.length.symm
  refine ⟨"tuple",_,PyProof.Rows.slot_tuple_getitem.lookup,ht.typeIs,?_⟩;refine HT.getItem_tuple_cut ht hs pl pu (by rw [hlen];exact hw) ?_ (by rw [hlen];exact hz);rw [hlen];refine ⟨.ref s.heap.objs.size,_,I.laid (t':=s.toks) (o:= .tup (Em xs lo hi)) (λ b ob q=>Aa3 _ q) (Aa7 _) ?_,rfl,q _ (I.hok.fresh (Aa7 _))⟩;exact ⟨Ac5 (GV xs lo hi) hz,_,(r.drop (HT.sIx xs.length 0 lo)).take (HT.sIx xs.length xs.length hi - HT.sIx xs.length 0 lo),IsTup.new _ _⟩
end
def ixN (n:Nat) (i:Int):Option Nat:=if 0<=i then (if i<n then some i.toNat else none) else if -(n:Int)<=i then some (i+n).toNat else none
def atI {α:Type} (xs:List α) (i:Int):Option α:=(ixN xs.length i).bind λ j=>xs[j]?
theorem Nq {i:Int} {j:Nat} (h:ixN n i=some j):seqIndex? i n=some j/\j<n/\ -(n:Int)<=i/\i<n:=by
  unfold ixN at h;by_cases h0:0<=i
  · rw [if_pos h0] at h;by_cases h1:i<n
    · rw [if_pos h1] at h;have e:i.toNat=j:=Ae2.inj h;exact ⟨by rw [seqIndex_of h0 h1,e],by omega,by omega,h1⟩
    · rw [if_neg h1] at h;cases h
  · rw [if_neg h0] at h;by_cases h1: -(n:Int)<=i
    · rw [if_pos h1] at h;have e:(i+n).toNat=j:=Ae2.inj h;exact ⟨by rw [seqIndex_neg (by omega) h1,e],by omega,h1,by omega⟩
    · rw [if_neg h1] at h;cases h
theorem KG {α:Type} {xs:List α} {i:Int} {v:α} (h:atI xs i=some v):∃ j,seqIndex? i xs.length=some j/\xs[j]?=some v/\j<xs.length/\ -(xs.length:Int)<=i/\i<xs.length:=by
  unfold atI at h;cases e:ixN xs.length i with
  | none=>rw [e] at h;cases h
  | some j=>
    rw [e] at h;obtain ⟨h1,h2,h3,h4⟩:=Nq e;exact ⟨j,h1,h,h2,h3,h4⟩
theorem AH {α:Type} {xs:List α} {j:Nat} {v:α} (h:xs[j]?=some v):atI xs (j:Int)=some v:=by
  have hj:j<xs.length:=(Ad4.mp h).1;have e:ixN xs.length (j:Int)=some j:=by
    unfold ixN;rw [if_pos (by omega),if_pos (by omega)];simp
  unfold atI;rw [e];exact h
def Q3 (b:Expr):Prop:=∀ o i,subscripted b false o i=operate [o,i] (getItem o i)
def IxR (X:Cx) (r:R2):Prop:=
  ∀ (value slice:Expr) (pins:List (Addr × Obj)) (s:Shared) (σ:St) (H:Hp) (x y:V) (v u:Value) (Q:VK),Inv X pins σ H s->RelV x v->RelV y u->r x y H Q->
    subscripted slice false v u=operate [v,u] (getItem v u)->wpAny (model X.prog X.w) X.A (subscriptTail value slice v u) (EP X pins σ Q) X.xe s
def MtR (X:Cx) (id:String) (r:V->List V->Hp->VK->Prop):Prop:=
  ∀ (pins:List (Addr × Obj)) (s:Shared) (σ:St) (H:Hp) (x:V) (xs:List V) (v:Value) (us:List Value) (Q:VK),Inv X pins σ H s->RelV x v->Vals xs us->r x xs H Q->
    wpAny (model X.prog X.w) X.A (call (.builtin id) (v::us)) (EP X pins σ Q) X.xe s
section
variable {a b:Expr} {ta tb:TE}
theorem Ar {r:R2} (hr:IxR X r) (ha:PE X a ta) (hb:PE X b tb) (hs:Q3 b):PE X (.Subscript a b pos) (tOp r ta tb):=by
  intro pins s σ H Q I h;exact Subscript_ (Sd ha hb I h λ v u s2 x y H2 I2 rx ry q=>hr a b pins s2 σ H2 x y v u Q I2 rx ry q (hs _ _))
def Td (K:PySem.W.Frag):R2:=λ x y H Q=>∃ p xs i v,x= .ref p/\y= .int i/\SqL K H p xs/\atI xs i=some v/\Q v H
def SM (K:PySem.W.Frag):R2:=λ x y H Q=>∃ p xs i v,x= .ref p/\y= .int i/\SqT K H p xs/\atI xs i=some v/\Q v H
def ZL:R2:=λ x y H Q=>∃ z i c,x= .str z/\y= .int i/\z.length<=sizeLine/\atI z.cps.toList i=some c/\Q (.str ⟨#[c]⟩) H
theorem QP:IxR X (Td X.K):=by
  intro value slice pins s σ H x y v u Q I rx ry h hs;obtain ⟨p,xs,i,z,rfl,rfl,hq,he,q⟩:=h;cases rx;obtain ⟨t,rfl⟩:=ry;obtain ⟨its,r,pl,hz⟩:=I.list hq;obtain ⟨j,h1,h2,h3,h4,h5⟩:=KG he;obtain ⟨w,ew,rw'⟩:=r.get h2;have hl:=r.length;have hn:=GE;have fin:EP X pins σ Q w s:=⟨z,H,I,rw',q⟩;by_cases h0:0<=i
  · have hj:i.toNat=j:=by
      rw [seqIndex_of h0 h5] at h1;exact Ae2.inj h1
    exact item_listR pl.isList h0 (by omega) (by rw [hj];simpa using ew) fin hs
  · have hj:(i+(its.toArray.size:Int)).toNat=j:=by
      rw [seqIndex_neg (by omega) h4] at h1;rw [Ab0, <-hl];exact Ae2.inj h1
    exact subscriptTail_builtinR (x:=w) pl.isList.typeIs slot_list_getitem.lookup
      (wpAny_getItem_list_neg (Q:=λ r s'=>r=w/\EP X pins σ Q r s') pl.isList (by omega) (by rw [Ab0] <;> omega) (by omega) (by rw [hj];simpa using ew) ⟨rfl,fin⟩) hs
theorem S8:IxR X (SM X.K):=by
  intro value slice pins s σ H x y v u Q I rx ry h hs;obtain ⟨p,xs,i,z,rfl,rfl,hq,he,q⟩:=h;cases rx;obtain ⟨t,rfl⟩:=ry;obtain ⟨its,r,pl,hz⟩:=I.tuple hq;obtain ⟨j,h1,h2,h3,h4,h5⟩:=KG he;obtain ⟨w,ew,rw'⟩:=r.get h2;have hl:=r.length;have hn:=GE;have fin:EP X pins σ Q w s:=⟨z,H,I,rw',q⟩;exact subscriptTail_builtinR (x:=w) pl.typeIs slot_tuple_getitem.lookup
    (getItem_tuple (j:=j) (Q:=λ r s'=>r=w/\EP X pins σ Q r s') pl (by omega) (by omega) (by rw [Ab0, <-hl];exact h1) (by simpa using ew) ⟨rfl,fin⟩) hs
theorem Mf:IxR X ZL:=by
  intro value slice pins s σ H x y v u Q I rx ry h hs;obtain ⟨z,i,c,rfl,rfl,hz,he,q⟩:=h;obtain ⟨t,rfl⟩:=rx;obtain ⟨t',rfl⟩:=ry;obtain ⟨j,h1,h2,h3,h4,h5⟩:=KG he;have hl:z.cps.toList.length=z.length:=by simp [Str.length]
  rw [hl] at h1 h4 h5;have hn:=GE;exact tail_any (typeIs_str s z t) slot_str_getitem.lookup (getItem_str (c:=c) (by
    have e1:decide (i< -(2 ^ 63:Int))=false:=decide_eq_false (by omega);have e2:decide (i>=2 ^ 63)=false:=decide_eq_false (by omega);rw [e1,e2,Bool.or_false]) (by rw [h1];simpa using h2) ⟨.str ⟨#[c]⟩,H,I.tok _,⟨_,rfl⟩,q⟩) hs
theorem L7 (its:List Value) (n j:Nat) (u:Value):Obj.mapSeq (·.setIfInBounds j u) { cls:= .type "list",data:= .seq its.toArray n }={ cls:= .type "list",data:= .seq (its.set j u).toArray n }:=by
  simp [Obj.mapSeq]
theorem Inv.lst (I:Inv X pins σ H s) (h:H p=some (.lst xs)):
    ∃ (its:List Value) (n:Nat),Vals xs its/\s.heap.get? p=some { cls:= .type "list",data:= .seq its.toArray n }/\xs.length<=sizeLine:=by
  obtain ⟨z,its,n,r,e⟩:=I.hok p _ h;exact ⟨its,n,r,e,z⟩
theorem Inv.lstUpd {its':List Value} {n':Nat} {f:Obj->Obj} (I:Inv X pins σ H s) (h:H p=some (.lst xs))
    (ho:s.heap.get? p=some { cls:= .type "list",data:= .seq its.toArray n }) (hf:f { cls:= .type "list",data:= .seq its.toArray n }={ cls:= .type "list",data:= .seq its'.toArray n' }) (r:Vals ys its') (hz:ys.length<=sizeLine) (t:Nat):
    Inv X pins σ (upd H p (.lst ys)) { s with heap:=s.heap.update p f,toks:=t }:=by
  have e:(s.heap.update p f).get? p=some { cls:= .type "list",data:= .seq its'.toArray n' }:=by
    rw [Af2 f ho (by rw [hf] <;> rfl),hf]
  refine I.write (x:=p) (e:=p) (by rw [h];trivial) (.inl rfl) (λ b u hb q=>(Af4 _ _ (Ne.symm hb)).trans q) ⟨_,e⟩ ?_;exact ⟨hz,its',n',r,e⟩
def YX:V->V->V->Hp->(Hp->Prop)->Prop:=λ o i v H Q=>∃ p xs k j,o= .ref p/\i= .int k/\H p=some (.lst xs)/\ixN xs.length k=some j/\Q (upd H p (.lst (xs.set j v)))
theorem Lv:VI X YX:=by
  intro pins s σ H o i v ov iv u Q I ro ri rv h;obtain ⟨p,xs,k,j,rfl,rfl,hp,hj,q⟩:=h;cases ro;obtain ⟨t,rfl⟩:=ri;obtain ⟨its,n,r,ho,hz⟩:=I.lst hp;obtain ⟨h1,h2,h3,h4⟩:=Nq hj;have hl:=r.length;have hn:=GE;have I':Inv X pins σ (upd H p (.lst (xs.set j v))) { s with heap:=s.heap.update p (Obj.mapSeq (·.setIfInBounds j u)) }:=
    I.lstUpd hp ho (L7 its n j u) (r.set rv j) (by rw [List.length_set];exact hz) s.toks
  by_cases h0:0<=k
  · have hk:k.toNat=j:=by
      rw [seqIndex_of h0 h4] at h1;exact Ae2.inj h1
    exact PySem.W.ki_setAt ho h0 (by omega) (by rw [Ab0, <-hl];exact h4) (by rw [hk];exact ⟨_,I',q⟩)
  · have hk:(k+(its.toArray.size:Int)).toNat=j:=by
      rw [seqIndex_neg (by omega) h3] at h1;rw [Ab0, <-hl];exact Ae2.inj h1
    exact PySem.W.ki_setBack ho (by omega) (by rw [Ab0, <-hl];exact h3) (by omega) (by rw [hk];exact ⟨_,I',q⟩)
theorem Kk (lo hi:Option Int) (n:Nat):(sliceBounds lo hi none n).1=((HT.sIx n 0 lo:Nat):Int)/\(sliceBounds lo hi none n).2.1=((HT.sIx n n hi:Nat):Int)/\(sliceBounds lo hi none n).2.2=1:=by
  refine ⟨?_,?_,rfl⟩
  · cases lo with
    | none=>simp [sliceBounds,HT.sIx]
    | some i=>
      simp only [sliceBounds,HT.sIx,Option.getD_none,show (1:Int)>0 by decide,if_true];by_cases h:i<0
      · simp only [h,if_true] <;> omega
      · simp only [h,if_false] <;> omega
  · cases hi with
    | none=>simp [sliceBounds,HT.sIx]
    | some i=>
      simp only [sliceBounds,HT.sIx,Option.getD_none,show (1:Int)>0 by decide,if_true];by_cases h:i<0
      · simp only [h,if_true] <;> omega
      · simp only [h,if_false] <;> omega
theorem Jv (its:List Value) (lo hi:Option Int):slicePick its.toArray lo hi none=((its.drop (HT.sIx its.length 0 lo)).take (HT.sIx its.length its.length hi - HT.sIx its.length 0 lo)).toArray:=by
  obtain ⟨h1,h2,h3⟩:=Kk lo hi its.toArray.size;unfold slicePick;rw [h1,h2,h3];simp only [sliceRange_one,pick_run,Ab0] <;> rfl
def Tl (K:PySem.W.Frag):V->Option Int->Option Int->Hp->VK->Prop:=λ x lo hi H Q=>∃ a xs,x= .ref a/\SqL K H a xs/\∀ p,H p=none->Q (.ref p) (upd H p (.lst (Em xs lo hi)))
theorem Nj:SlR X (Tl X.K):=by
  intro pins s σ H x v vl vu lo hi sl Q I rx hs pl pu h;obtain ⟨a,xs,rfl,hx,q⟩:=h;cases rx;obtain ⟨its,r,ht,hz⟩:=I.list hx;have hlen:=r.length;refine ⟨"list",_,slot_list_getitem.lookup,ht.isList.typeIs,?_⟩;refine wpAny_getItem_list_slice ht.isList hs pl pu .none (by simp) ?_ (by rw [Ab0] <;> omega);rw [Jv, <-hlen];refine ⟨.ref s.heap.objs.size,_,I.laid (t':=s.toks) (o:= .lst (Em xs lo hi)) (λ b ob q=>Aa3 _ q) (Aa7 _) ?_,rfl,q _ (I.hok.fresh (Aa7 _))⟩;exact ⟨Ac5 (GV xs lo hi) hz,_,0,(r.drop (HT.sIx xs.length 0 lo)).take (HT.sIx xs.length xs.length hi - HT.sIx xs.length 0 lo),Aa6 _ rfl⟩
def B5:V->Bool
  | .non=>true
  | .bl _=>true
  | .int _=>true
  | .str _=>true
  | _=>false
def eqV:V->V->Bool
  | .non, .non=>true
  | .bl a, .bl b=>a == b
  | .bl a, .int b=>(if a then 1 else 0) == b
  | .int a, .bl b=>a == (if b then 1 else 0)
  | .int a, .int b=>a == b
  | .str a, .str b=>a == b
  | _,_=>false
theorem Pg {x:V} {v:Value} (ry:RelV y u) (rx:RelV x v) (fy:B5 y=true) (fx:B5 x=true):SeqAt.EqAt A s u v (eqV y x):=by
  cases y with
  | non=>
    cases ry;cases x with
    | non=>cases rx;exact SeqAt.EqAt.same _
    | bl b=>cases rx;exact SeqAt.EqAt.none_bool b
    | int b=>obtain ⟨t,rfl⟩:=rx;exact SeqAt.EqAt.none_int b t
    | str b=>obtain ⟨t,rfl⟩:=rx;exact SeqAt.EqAt.none_str b t
    | _=>exact absurd (show false=true from fx) Ab1
  | bl a=>
    cases ry;cases x with
    | non=>cases rx;exact SeqAt.EqAt.bool_none a
    | bl b=>cases rx;exact SeqAt.EqAt.bool_bool a b
    | int b=>obtain ⟨t,rfl⟩:=rx;exact SeqAt.EqAt.bool_int a b t
    | str b=>obtain ⟨t,rfl⟩:=rx;exact SeqAt.EqAt.bool_str a b t
    | _=>exact absurd (show false=true from fx) Ab1
  | int a=>
    obtain ⟨t',rfl⟩:=ry;cases x with
    | non=>cases rx;exact SeqAt.EqAt.int_none a t'
    | bl b=>cases rx;exact SeqAt.EqAt.int_bool a t' b
    | int b=>obtain ⟨t,rfl⟩:=rx;exact SeqAt.EqAt.int_int a t' b t
    | str b=>obtain ⟨t,rfl⟩:=rx;exact SeqAt.EqAt.int_str a t' b t
    | _=>exact absurd (show false=true from fx) Ab1
  | str a=>
    obtain ⟨t',rfl⟩:=ry;cases x with
    | non=>cases rx;exact SeqAt.EqAt.str_none a t'
    | bl b=>cases rx;exact SeqAt.EqAt.str_bool a t' b
    | int b=>obtain ⟨t,rfl⟩:=rx;exact SeqAt.EqAt.str_int a t' b t
    | str b=>obtain ⟨t,rfl⟩:=rx;exact SeqAt.EqAt.str_str a t' b t
    | _=>exact absurd (show false=true from fx) Ab1
  | _=>exact absurd (show false=true from fy) Ab1
def eqU (x:V) (u:Value):Bool:=match u with
  | .none=>eqV .non x
  | .bool b=>eqV (.bl b) x
  | .int i _=>eqV (.int i) x
  | .str z _=>eqV (.str z) x
  | _=>false
theorem Qb {x:V} (r:RelV y u) (f:B5 y=true):eqU x u=eqV y x:=by
  cases y with
  | non=>cases r;rfl
  | bl b=>cases r;rfl
  | int i=>obtain ⟨t,rfl⟩:=r;rfl
  | str z=>obtain ⟨t,rfl⟩:=r;rfl
  | _=>exact absurd (show false=true from f) Ab1
theorem F1 {x:V}:∀ {xs:List V} {us:List Value},Vals xs us->xs.all B5=true->us.any (eqU x)=xs.any λ y=>eqV y x
  | _,_, .nil,_=>rfl
  | y::xs,u::us, .cons r t,f=>by
    rw [List.all_cons,Ad9] at f;rw [List.any_cons,List.any_cons,Qb r f.1,F1 t f.2]
theorem Ez {A:Around} {s:Shared} {x:V} {v:Value} (rx:RelV x v) (fx:B5 x=true):∀ {xs:List V} {us:List Value},Vals xs us->xs.all B5=true->∀ u∈us,SeqAt.EqAt A s u v (eqU x u)
  | _,_, .nil,_=>λ u hu=>by cases hu
  | y::xs,u::us, .cons r t,f=>λ u' hu=>by
    rw [List.all_cons,Ad9] at f;rcases Ab2.mp hu with rfl | hu
    · rw [Qb r f.1];exact Pg r rx f.1 fx
    · exact Ez rx fx t f.2 u' hu
def inV (x:V) (xs:List V):Bool:=xs.any λ y=>eqV y x
def rIn (K:PySem.W.Frag) (neg:Bool):R2:=λ x y H Q=>∃ p xs,y= .ref p/\(SqL K H p xs\/SqT K H p xs)/\B5 x=true/\xs.all B5=true/\Q (.bl (if neg then !inV x xs else inV x xs)) H
theorem Oh:OpR X (compareOp .In) (rIn X.K false):=by
  intro pins s σ H x y v u Q I rx ry h;obtain ⟨p,xs,rfl,hq,fx,fs,q⟩:=h;cases ry;rcases hq with hq | hq
  · obtain ⟨its,r,pl,hz⟩:=I.list hq;refine SeqAt.in_listAt (eqU x) pl.isList (λ w hw=>Ez rx fx r fs w (by simpa using hw)) ⟨.bl _,H,I,rfl,?_⟩;rw [show its.toArray.any (eqU x)=its.any (eqU x) by simp,F1 r fs];exact q
  · obtain ⟨its,r,pl,hz⟩:=I.tuple hq;refine SeqAt.in_tupleAt (eqU x) pl (λ w hw=>Ez rx fx r fs w (by simpa using hw)) ⟨.bl _,H,I,rfl,?_⟩;rw [show its.toArray.any (eqU x)=its.any (eqU x) by simp,F1 r fs];exact q
theorem Kx:OpR X (compareOp .NotIn) (rIn X.K true):=by
  intro pins s σ H x y v u Q I rx ry h;obtain ⟨p,xs,rfl,hq,fx,fs,q⟩:=h;cases ry;rcases hq with hq | hq
  · obtain ⟨its,r,pl,hz⟩:=I.list hq;refine SeqAt.notIn_listAt (eqU x) pl.isList (λ w hw=>Ez rx fx r fs w (by simpa using hw)) ⟨.bl _,H,I,rfl,?_⟩;rw [show its.toArray.any (eqU x)=its.any (eqU x) by simp,F1 r fs];exact q
  · obtain ⟨its,r,pl,hz⟩:=I.tuple hq;refine SeqAt.notIn_tupleAt (eqU x) pl (λ w hw=>Ez rx fx r fs w (by simpa using hw)) ⟨.bl _,H,I,rfl,?_⟩;rw [show its.toArray.any (eqU x)=its.any (eqU x) by simp,F1 r fs];exact q
theorem KS:BY X (.type "list") (λ xs H Q=>∃ p ys,xs=[.ref p]/\(SqL X.K H p ys\/SqT X.K H p ys)/\∀ l,H l=none->Q (.ref l) (upd H l (.lst ys))):=by
  intro pins s σ H xs us Q I r h;obtain ⟨p,ys,rfl,hq,q⟩:=h;obtain ⟨u,rfl,rx⟩:=FZ r;cases rx;have fin:∀ (its:List Value),Vals ys its->ys.length<=sizeLine->∀ (h':Heap) (c':Nat),(∀ b o',s.heap.get? b=some o'->h'.get? b=some o')->
      h'.get? s.heap.objs.size=some { cls:= .type "list",dict:=none,data:= .seq its.toArray c',slots:= #[] }->EP X pins σ Q (.ref s.heap.objs.size) { s with heap:=h' }:=λ its r' hz h' c' kp e=>
    ⟨.ref s.heap.objs.size,_,I.laid (t':=s.toks) kp (Aa7 _) (show ObjOk X.prog X.w _ h' _ (.lst ys) from ⟨hz,its,c',r',e⟩),rfl,q _ (I.hok.fresh (Aa7 _))⟩
  rcases hq with hq | hq
  · obtain ⟨its,r',pl,hz⟩:=I.list hq;have hlen:=r'.length;obtain ⟨o,ho,hc,n,hd⟩:=pl.isList;exact call_list_seq p (.inl rfl) ho hc hd (λ h' c' kp e=>fin its r' hz h' c' kp e) (by simp only [Ab0] <;> omega)
  · obtain ⟨its,r',pl,hz⟩:=I.tuple hq;have hlen:=r'.length;obtain ⟨o,ho,hc,n,hd⟩:=pl;exact call_list_seq p (.inr rfl) ho hc hd (λ h' c' kp e=>fin its r' hz h' c' kp e) (by simp only [Ab0] <;> omega)
theorem Jw:BY X (.type "tuple") (λ xs H Q=>∃ p ys,xs=[.ref p]/\((SqL X.K H p ys/\∀ l,H l=none->Q (.ref l) (upd H l (.tup ys)))\/(SqT X.K H p ys/\Q (.ref p) H))):=by
  intro pins s σ H xs us Q I r h;obtain ⟨p,ys,rfl,h⟩:=h;obtain ⟨u,rfl,rx⟩:=FZ r;cases rx;rcases h with ⟨hq,q⟩ | ⟨hq,q⟩
  · obtain ⟨its,r',pl,hz⟩:=I.list hq;have hlen:=r'.length;refine call_tuple_list pl.isList (λ h' kp=> ?_) (by simp only [Ab0] <;> omega);have I1:Inv X pins σ H { s with heap:=h' }:=I.kept (t':=s.toks) kp;have I2:Inv X pins σ (upd H h'.objs.size (.tup ys)) { s with heap:=h'.push { cls:= .type "tuple",data:= .seq its.toArray } }:=
      I1.laid (t':=s.toks) (λ b o e=>Aa3 _ e) (Aa7 _) (show ObjOk X.prog X.w _ _ _ (.tup ys) from ⟨hz,its,r',IsTup.new _ _⟩)
    exact ⟨.ref h'.objs.size,_,I2,rfl,q _ (I1.hok.fresh (Aa7 _))⟩
  · obtain ⟨its,r',pl,hz⟩:=I.tuple hq;exact call_tuple_same pl ⟨.ref p,H,I,rfl,q⟩
def tyV (K:PySem.W.Frag) (T:String) (x:V) (H:Hp):Prop:=match x with
  | .str _=>T="str"
  | .int _=>T="int"
  | .ref p=>(T="list"/\∃ xs,SqL K H p xs)\/(T="tuple"/\∃ o,K.lookup p=some o/\o.cls= .type "tuple"/\o.dict=none)\/
      (T="dict"/\((∃ kvs,H p=some (.dK kvs))\/∃ kvs,H p=some (.dT kvs)))\/(T="set"/\∃ S n,H p=some (.set S n))
  | _=>False
theorem P4 {x:V} {v:Value} (I:Inv X pins σ H s) (r:RelV x v) (ty:tyV X.K T x H):
    s.TypeIs v T/\∀ a,v= .ref a->∃ ob,s.heap.get? a=some ob/\ob.dict=none:=by
  cases x with
  | str z=>
    obtain ⟨t,rfl⟩:=r;cases (show T="str" from ty);exact ⟨typeIs_str s z t,λ _ e=>nomatch e⟩
  | int i=>
    obtain ⟨t,rfl⟩:=r;cases (show T="int" from ty);exact ⟨typeIs_int s i t,λ _ e=>nomatch e⟩
  | ref p=>
    cases r;rcases ty with ⟨rfl,xs,hq⟩ | ⟨rfl,o,hk,hc,hd⟩ | ⟨rfl,hk⟩ | ⟨rfl,S,n,hk⟩
    · obtain ⟨its,_,pl,_⟩:=I.list hq;refine ⟨pl.isList.typeIs,λ a e=> ?_⟩;cases e;obtain ⟨o,n,e,c,hd,_⟩:=pl;exact ⟨o,e,hd⟩
    · refine ⟨⟨o,I.kIn p o hk,hc⟩,λ a e=> ?_⟩;cases e;exact ⟨o,I.kIn _ o hk,hd⟩
    · have z:∃ o,s.heap.get? p=some o/\o.ExactDict:=by
        rcases hk with ⟨kvs,hk⟩ | ⟨kvs,hk⟩
        · obtain ⟨_,_,_,_,o,_,_,e,ex,_⟩:=I.hok p _ hk;exact ⟨o,e,ex⟩
        · obtain ⟨_,_,_,_,o,_,_,e,ex,_⟩:=I.hok p _ hk;exact ⟨o,e,ex⟩
      obtain ⟨o,e,ex⟩:=z;refine ⟨⟨o,e,ex.1⟩,λ a e2=> ?_⟩;cases e2;exact ⟨o,e,ex.2.1⟩
    · obtain ⟨o,_,_,_,e,ex,_⟩:=I.hok p _ hk;refine ⟨⟨o,e,ex.1⟩,λ a e2=> ?_⟩;cases e2;exact ⟨o,e,ex.2.1⟩
  | _=>exact False.elim ty
def S4 (K:PySem.W.Frag) (T:String) (r:V->List V->Hp->VK->Prop) (to:TE):TE:=λ σ H Q=>to σ H λ x H1=>tyV K T x H1/\r x [] H1 Q
def tBM (K:PySem.W.Frag) (T:String) (r:V->List V->Hp->VK->Prop) (to:TE) (t:TA):TE:=λ σ H Q=>to σ H λ x H1=>tyV K T x H1/\t σ H1 λ xs H2=>r x xs H2 Q
variable {o:Expr} {to:TE} {t:TA} {name:Str} {apos cpos:Pos} {id:String} {r:V->List V->Hp->VK->Prop}
theorem SN (pa:PlainAttrs T) (slot:Slot T name id) (hty:typeOf (.builtin id)=pure (.type "method_descriptor")) (hm:MtR X id r) (ho:PE X o to)
    (hbase:attributeBase o name X.env (eval o X.env)=eval o X.env:=by rfl) (hline:(apos.endLine == cpos.line)=true:=by rfl):PE X (.Call (.Attribute o name apos) [] [] cpos) (S4 X.K T r to):=by
  intro pins s σ H Q I h;refine wpAny_Call_method0_late hbase hline (thn (ho pins s σ H _ I h) λ v s1 ⟨x,H1,I1,r1,ty,q1⟩=> ?_);obtain ⟨h1,h2⟩:=P4 I1 r1 ty;exact ⟨T,id,pa,slot,hty,h1,h2,Calls.callWith_builtin rfl (PySem.evalArgs_none (hm pins s1 σ H1 x [] v [] Q I1 r1 .nil q1))⟩
theorem VA (pa:PlainAttrs T) (slot:Slot T name id) (hty:typeOf (.builtin id)=pure (.type "method_descriptor")) (hm:MtR X id r) (ho:PE X o to) (ha:PA X (e::es) t)
    (hbase:attributeBase o name X.env (eval o X.env)=eval o X.env:=by rfl)
    (hfew:((backTo cpos (starEach (e::es) X.env)).all (λ x=> !x.1)&&(backToKw cpos (keywordEach [] X.env)).all (λ x=>x.1.isSome)
      && decide ((e::es).length+([]:List Keyword).length+(if ([]:List Keyword).isEmpty then 0 else 1)<30))=true:=by rfl)
    (hline:(apos.endLine == cpos.line)=true:=by rfl) (hs:starEach (e::es) X.env=(false,eval e X.env)::starEach es X.env:=by rfl) (hplain:(backTo cpos (starEach es X.env)).any (·.1)=false:=by rfl):
    PE X (.Call (.Attribute o name apos) (e::es) [] cpos) (tBM X.K T r to t):=by
  intro pins s σ H Q I h;refine wpAny_Call_method_late hbase hfew hline rfl (thn (ho pins s σ H _ I h) λ v s1 ⟨x,H1,I1,r1,ty,q1⟩=> ?_);obtain ⟨h1,h2⟩:=P4 I1 r1 ty;refine ⟨T,id,pa,slot,hty,h1,h2,?_⟩;have hA:=ha cpos pins s1 σ H1 _ I1 q1;rw [hs] at hA ⊢;refine Calls.callWith_builtin (by show (false||(backTo cpos (starEach es X.env)).any (·.1))=false;rw [hplain] <;> rfl) (Calls.evalArgs_plain ?_);exact thn hA λ us s2 ⟨vs,H2,I2,r2,q2⟩=>hm pins s2 σ H2 x vs v us Q I2 r1 r2 q2
end
def MtM (X:Cx) (id:String) (r:V->List V->Hp->VK->Prop):Prop:=
  ∀ (pins:List (Addr × Obj)) (s:Shared) (σ:St) (H:Hp) (x:V) (xs:List V) (v:Value) (us:List Value) (Q:VK),Inv X pins σ H s->RelV x v->Vals xs us->r x xs H Q->
    wpAny (model X.prog X.w) X.A (call (.builtin id) (v::us)) (EP X pins σ Q) X.xe s
theorem Vals.one:∀ {x:V} {us:List Value},Vals [x] us->∃ u,us=[u]/\RelV x u
  | _,_, .cons r .nil=>⟨_,rfl,r⟩
theorem Vals.zero:∀ {us:List Value},Vals [] us->us=[]
  | _, .nil=>rfl
theorem Vals.dropLast {us:List Value} (h:Vals xs us):Vals xs.dropLast us.dropLast:=by
  induction h with
  | nil=>exact .nil
  | cons r t ih=>
    cases t with
    | nil=>exact .nil
    | cons q t'=>exact .cons r ih
theorem Vals.eraseIdx:∀ {xs:List V} {us:List Value} (i:Nat),Vals xs us->Vals (xs.eraseIdx i) (us.eraseIdx i)
  | _,_,_, .nil=> .nil
  | _,_,0, .cons _ t=>t
  | _,_,i+1, .cons r t=> .cons r (Vals.eraseIdx i t)
theorem Vals.rep {us:List Value} (h:Vals xs us):∀ k:Nat,Vals (Ab5 k xs).flatten (Ab5 k us).flatten
  | 0=> .nil
  | k+1=>by
    rw [List.replicate_succ,List.replicate_succ,List.flatten_cons,List.flatten_cons];exact Vals.append h (Vals.rep h k)
theorem MA {α:Type} (l:List α):l.eraseIdx (l.length - 1)=l.dropLast:=by
  induction l with
  | nil=>rfl
  | cons a r ih=>
    cases r with
    | nil=>rfl
    | cons b r=>
      have e:(a::b::r).length - 1=((b::r).length - 1)+1:=by
        have h1:(a::b::r).length=r.length+2:=rfl;have h2:(b::r).length=r.length+1:=rfl;omega
      rw [e,List.eraseIdx_cons_succ,ih]
      all_goals rfl
theorem J3 {α:Type}:∀ (l:List α) (i:Nat),(l.eraseIdx i).length<=l.length
  | [],_=>Aa7 _
  | _::_,0=>Nat.le_succ _
  | _::r,i+1=>Nat.succ_le_succ (J3 r i)
theorem J8 (its:List Value):∀ (k:Nat) (acc:List Value),
    List.foldl (λ x1 x2=>x1++x2) acc.toArray (Ab5 k its.toArray)=(acc++(Ab5 k its).flatten).toArray
  | 0,acc=>by simp
  | k+1,acc=>by
    have e:acc.toArray++its.toArray=(acc++its).toArray:=by simp
    have e2:(acc++its)++(Ab5 k its).flatten=acc++(Ab5 (k+1) its).flatten:=by
      rw [List.replicate_succ,List.flatten_cons,List.append_assoc]
    rw [<-e2, <-J8 its k (acc++its), <-e,List.replicate_succ,List.foldl_cons]
section
variable {b:Addr} {zs:List V}
theorem Inv.lset {its':List Value} {f:Array Value->Array Value} (I:Inv X pins σ H s) (hH:H l=some (.lst xs))
    (e:s.heap.get? l=some { cls:= .type "list",data:= .seq its.toArray n }) (hf:f its.toArray=its'.toArray) (hv:Vals ys its') (hz:ys.length<=sizeLine):
    Inv X pins σ (upd H l (.lst ys)) { s with heap:=s.heap.update l (Obj.mapSeq f),toks:=t' }:=by
  have q:=PySem.IsL.update e f;rw [hf] at q;refine I.write (x:=l) (e:=l) (by rw [hH];exact trivial) (.inl rfl) (λ b' u hb hu=>(Af4 s.heap (Obj.mapSeq f) (Ne.symm hb)).trans hu) ⟨_,q⟩ ?_;exact ⟨hz,its',_,hv,q⟩
theorem Inv.lnew (I:Inv X pins σ H s) (hv:Vals ys its) (hz:ys.length<=sizeLine):
    Inv X pins σ (upd H s.heap.objs.size (.lst ys)) { s with heap:=s.heap.push { cls:= .type "list",data:= .seq its.toArray },toks:=t' }:=
  I.laid (λ _ _ q=>Aa3 _ q) (Aa7 _) ⟨hz,its,0,hv,Aa6 _ rfl⟩
theorem Inv.fresh (I:Inv X pins σ H s):H s.heap.objs.size=none:=I.hok.fresh (Aa7 _)
theorem Inv.lstM (I:Inv X pins σ H s) (hH:H l=some (.lst xs)):xs.length<=sizeLine/\∃ (its:List Value) (n:Nat),Vals xs its/\xs.length=its.length/\s.heap.get? l=some { cls:= .type "list",data:= .seq its.toArray n }:=by
  obtain ⟨z,its,n,r,e⟩:=I.hok l _ hH;exact ⟨z,its,n,r,r.length,e⟩
theorem Pu (h:n<=sizeLine):Builtin.List.listTooLong n=false:=by
  unfold Builtin.List.listTooLong;exact decide_eq_false (by omega)
end
section
def rAppend:V->List V->Hp->VK->Prop:=λ x vs H Q=>∃ l xs y,x= .ref l/\vs=[y]/\H l=some (.lst xs)/\xs.length<sizeLine/\Q .non (upd H l (.lst (xs++[y])))
theorem Bw:MtM X "list.append" rAppend:=by
  intro pins s σ H x vs v us Q I rx rv h;obtain ⟨l,xs,y,rfl,rfl,hH,hz,q⟩:=h;cases rx;obtain ⟨u,rfl,ru⟩:=rv.one;obtain ⟨z,its,n,r,hl,e⟩:=I.lstM hH;refine call_meets F.slot_list_append ⟨_,e,rfl⟩ F.entry_list_append (F.args_list_append_2 _ _) (PySem.list_append l its.toArray n u (by rw [Ab0];omega)) ⟨e,?_⟩;refine ⟨.non,_,I.lset (its':=its++[u]) hH e (by simp) (r.append (.cons ru .nil)) ?_,rfl,q⟩;rw [Ac0,List.length_singleton];omega
def rPop:V->List V->Hp->VK->Prop:=λ x vs H Q=>∃ l xs y,x= .ref l/\vs=[]/\H l=some (.lst xs)/\xs[xs.length - 1]?=some y/\Q y (upd H l (.lst xs.dropLast))
theorem PN:MtM X "list.pop" rPop:=by
  intro pins s σ H x vs v us Q I rx rv h;obtain ⟨l,xs,y,rfl,rfl,hH,hy,q⟩:=h;cases rx;have hus:=rv.zero;subst hus;obtain ⟨z,its,n,r,hl,e⟩:=I.lstM hH;obtain ⟨u,hu,ru⟩:=r.get hy;have hy':its.toArray[its.toArray.size - 1]?=some u:=by
    show its.toArray[its.length - 1]?=some u;rw [<-Af8, <-hl];exact hu
  refine call_meets F.slot_list_pop ⟨_,e,rfl⟩ F.entry_list_pop (F.args_list_pop_1 _) (MeetsSeq.list_pop_last l its.toArray n u hy' (by rw [Ab0];omega)) ⟨e,?_⟩;refine ⟨y,_,I.lset (its':=its.dropLast) hH e ?_ r.dropLast ?_,ru,q⟩
  · show its.toArray.eraseIdxIfInBounds (its.toArray.size - 1)=its.dropLast.toArray;rw [Ab0,List.eraseIdxIfInBounds_toArray,MA]
  · rw [List.length_dropLast];omega
def rPopAt:V->List V->Hp->VK->Prop:=λ x vs H Q=>∃ l xs i k y,x= .ref l/\vs=[.int i]/\H l=some (.lst xs)/\ -(2 ^ 63)<=i/\i<2 ^ 63/\seqIndex? i xs.length=some k/\xs[k]?=some y/\Q y (upd H l (.lst (xs.eraseIdx k)))
theorem LR:MtM X "list.pop" rPopAt:=by
  intro pins s σ H x vs v us Q I rx rv h;obtain ⟨l,xs,i,k,y,rfl,rfl,hH,h1,h2,hk,hy,q⟩:=h;cases rx;obtain ⟨u,rfl,ru⟩:=rv.one;obtain ⟨t,rfl⟩:=ru;obtain ⟨z,its,n,r,hl,e⟩:=I.lstM hH;obtain ⟨w,hw,rw'⟩:=r.get hy;refine call_meets F.slot_list_pop ⟨_,e,rfl⟩ F.entry_list_pop (F.args_list_pop_2 _ _)
    (MeetsSeq.list_pop_at l its.toArray n i t k w (fitsIndex_both h1 h2) (by rw [Ab0, <-hl];exact hk) (by rw [<-Af8];exact hw) (by rw [Ab0];omega)) ⟨e,?_⟩
  refine ⟨y,_,I.lset (its':=its.eraseIdx k) hH e ?_ (r.eraseIdx k) ?_,rw',q⟩
  · show its.toArray.eraseIdxIfInBounds k=(its.eraseIdx k).toArray;rw [List.eraseIdxIfInBounds_toArray]
  · have:=J3 xs k;omega
def X3:R2:=λ x y H Q=>∃ l k xs,x= .ref l/\y= .int k/\H l=some (.lst xs)/\ -(2 ^ 63)<=k/\k<2 ^ 63/\xs.length*k.toNat<=sizeLine/\
  ∀ p,H p=none->Q (.ref p) (upd H p (.lst (Ab5 k.toNat xs).flatten))
theorem Rq {α:Type} (xs:List α) (k:Nat):(Ab5 k xs).flatten.length=k*xs.length:=by
  induction k with
  | zero=>simp
  | succ k ih=>rw [List.replicate_succ,List.flatten_cons,Ac0,ih,Nat.succ_mul,Nat.add_comm]
theorem Pd:OpR X (binaryOp .Mult) X3:=by
  intro pins s σ H x y v u Q I rx ry h;obtain ⟨l,k,xs,rfl,rfl,hH,h1,h2,hz,q⟩:=h;cases rx;obtain ⟨t,rfl⟩:=ry;obtain ⟨z,its,n,r,hl,e⟩:=I.lstM hH;have hlen:its.toArray.size*k.toNat<=sizeLine:=by rw [Ab0, <-hl];exact hz
  have hcap:¬ its.toArray.size*k.toNat>(2 ^ 63 - 1) / 8:=by
    have:(sizeLine:Nat)<=(2 ^ 63 - 1) / 8:=by decide
    omega
  have hfit:¬ (!Builtin.List.listFitsIndex k)=true:=by
    rw [fitsIndex_both h1 h2];exact Ab1
  have hlong:¬ Builtin.List.listTooLong (its.toArray.size*k.toNat)=true:=by
    rw [Pu hlen];exact Ab1
  have hnew:List.foldl (λ x1 x2=>x1++x2) #[] (Ab5 (if its.toArray.isEmpty=true then 0 else k.toNat) its.toArray)=(Ab5 k.toNat its).flatten.toArray:=by
    have f0:∀ m:Nat,List.foldl (λ x1 x2=>x1++x2) #[] (Ab5 m its.toArray)=(Ab5 m its).flatten.toArray:=λ m=>by
      have:=J8 its m [];rw [List.nil_append] at this;exact this
    rw [f0];cases its with
    | nil=>simp
    | cons a r'=>rw [if_neg (by simp)]
  refine wpAny_binaryOp_repeat_ref (T:="list") (U:="int") (by decide) ⟨_,e,rfl⟩ (λ s'=>typeIs_int s' k t) noFill_list_mul F.fills_int_mul F.slot_int_rmul repeat_list F.slot_int_index.lookup
    (call_meets F.slot_int_rmul (typeIs_int s k t) F.entry_int_rmul (F.args_int_rmul_2 _ _) (int___rmul___int_list k t l its.toArray n)
      ⟨e,rfl,⟨_,e,rfl⟩,call_meets F.slot_list_mul ⟨_,e,rfl⟩ F.entry_list_mul (F.args_list_mul_2 _ _) (AutoListH.list___mul___list_int_3 l its.toArray n k t hfit hcap hlong) ⟨e,?_⟩⟩)
  rw [hnew];exact ⟨.ref _,_,I.lnew (t':=s.toks) (r.rep k.toNat) (by rw [Rq,Nat.mul_comm];exact hz),rfl,q _ I.fresh⟩
end
end L2
namespace Att
open PySem PySem.W PySem.Calls PyProof.Rows
theorem Hs {P:Params}:∀ (ns:List Int) (vs:List Value),WellAll P h vs (ns.map WData.int)->IntsAre vs ns:=by
  intro ns
  induction ns with
  | nil=>
    intro vs w;rw [List.map_nil] at w;cases w;exact .nil
  | cons n ns ih=>
    intro vs w;rw [Ag9] at w;cases w with
    | cons a b=>
      cases a;exact .cons _ _ (ih _ b)
theorem Od {l:OpenLaw} (hn:l.most=some n) {P:Params} {args:List WData} {vals:List Value}
    (hpre:l.row.toRowW.claim.pre args=true) (hwl:WellAll P h vals args):
    ∃ a vs ns,vals=[Value.ref a]/\args=[WData.list (ns.map WData.int)]/\h.get? a=some { cls:= .type "list",data:= .seq vs.toArray }/\IntsAre vs ns/\ns.length<=n:=by
  have hsh:WShape.hasAll [] args [.list .int]=true:=(pre_splitW hpre).1;have hc:l.pre.holds [] { args:=args }=true:=(pre_splitW hpre).2;obtain ⟨d,r,rfl,h1,h2⟩:=hasAllW_cons hsh;obtain rfl:=hasAllW_nil h2;obtain ⟨xs,rfl,h3⟩:=hasW_list h1;obtain ⟨ns,rfl⟩:=items_int h3;have hlen:ns.length<=n:=by
    unfold OpenLaw.pre at hc;have h4:(WTm.not (.lt (.lit (.int (n:Int))) (.len (.arg 0)))).holds [] { args:=[.list (ns.map .int)] }=true:=by
      have h4:=(holds_andW hc).1;rw [hn] at h4;exact h4
    have h5:=condW_of h4 (w_not (w_lt w_lit (w_len_list (w_arg rfl))));rw [Aa1] at h5;refine Nat.le_of_not_lt λ q=> ?_;have q':(n:Int)<((ns.length:Nat):Int):=by omega
    first
      | (rw [decide_eq_true q'] at h5;exact absurd h5 (by decide))
      | (simp at h5;omega)
  cases hwl with
  | cons w1 w2=>
    cases w2;cases w1 with
    | list ho hall=>exact ⟨_,_,ns,rfl,rfl,ho,Hs ns _ hall,hlen⟩
theorem NI (l:OpenLaw) (args:List WData):l.row.toRowW.claim.post args (.bool true) args=true:=
  postW_of (r:=l.row.toRowW) (X:=(true == true))
    (show WShape.has [] (.bool true) .bool=true by first | rfl | decide | simp [WShape.has,WShape.arms,WShape.armsAll])
    (show (WTm.eq .res (.lit (.bool true))).value [] { args:=args,res:=some (.bool true),after:=args }=some (.bool (true == true)) from w_eq_bool (w_res rfl) w_lit) rfl
theorem attach_call {l:OpenLaw} {q:Program} {loose:List Str} {YP:World->Heap->Prop} {d:DefRec}
    (hn:l.most=some n) (hdf:d.params.defaults=[])
    (call:∀ (w:World) (s₀ s₁:Shared) (mg mb:Str->Option Value) (fa:Addr) (o:Obj) (pm cd doc:Value) (a:Addr) (vs:List Value) (ns:List Int),
      Ground q loose [] XP w s₀ mg mb s₁.heap->YP w s₁.heap->
      s₁.heap.get? fa=some o->o.data= .func (docDef d.name d.params d.body d.scope pm cd doc)->s₁.heap.CodeRec cd d.name->mg d.name=some (.ref fa)->
      s₁.heap.get? a=some { cls:= .type "list",data:= .seq vs.toArray }->IntsAre vs ns->ns.length<=n->s₁.gens= #[]->
      codeAny (model l.prog w) callerA (.call (.ref fa) ⟨[.ref a],[]⟩) (λ r s'=>r= .ok (.ret (.bool true))/\OldK s₁.heap s'.heap/\s'.os=s₁.os/\AllBare s'.gens) s₁):
    WalkO q loose XP YP l.row.toRowW d [] (λ f vs=>PySem.call f vs):=by
  intro w s₀ s₁ mg mb G Y fa o pm cd doc dV kV ho hd hcd hD hmg hg args vals as hpre hlay hrd hwl hlo;obtain rfl:dV= .none:=Dflts.none hD hdf;obtain rfl:kV= .none:=Dflts.noKw hD;obtain ⟨a,vs,ns,rfl,rfl,hobj,hints,hlen⟩:=Od hn hpre hwl;refine enter_call (codeAny_mono (call w s₀ s₁ mg mb fa o pm cd doc a vs ns G Y ho (fd_plain hd) hcd hmg hobj hints hlen hg) λ r s' hq=> ?_);obtain ⟨rfl,h2,h3,h4⟩:=hq;exact ⟨.inl ⟨.bool true, .bool true,[],rfl,λ _=>rfl, .bool true,NI l _,λ _=>⟨List.Pairwise.nil,λ _ hm=>(nomatch hm)⟩⟩,h2,h3,h4⟩
end Att
namespace L2
open PySem PySem.Spec PyProof.Rows
theorem JS:∀ {vs:List Value} {ns:List Int},IntsAre vs ns->Vals (ns.map V.int) vs
  | _,_, .nil=> .nil
  | _,_, .cons n t h=> .cons ⟨t,rfl⟩ (JS h)
def Sg (H:Hp):Prop:=∀ b,H b=none\/∃ o xs,H b=some (.frz o (.lst xs))
theorem Ox {K:PySem.W.Frag} {mb:Str->Option Value} {CX:CXT} {k:Nat} {fa:Addr} {s₁:Shared} {vs:List Value}
    (KX:K.In s₁.heap) (hns:s₁.heap.Ns mainGlobals mg) (hb:s₁.heap.Ns builtinsNs mb) (hbb:∀ x:Str,x≠"__name__"->mb x=bootBuiltins x) (hlim:s₁.heap.NoLimit) (hg:s₁.gens= #[])
    (ha:s₁.heap.get? a=some { cls:= .type "list",data:= .seq vs.toArray }) (hi:IntsAre vs ns) (hl:ns.length<=sizeLine) (hr:Room k callerA)
    (F:∀ base:Heap,K.In base->base.Ns mainGlobals mg->FnOk P w K mg base CX k fa fd [x] sp) (hbind:∀ (s:Shared) (u:Value),BindsTo s fd ⟨[u],[]⟩ [(x,u)])
    (hsp:∀ H:Hp,Sg H->SqL K H a (ns.map V.int)->sp [.ref a] H (λ v _=>v= .bl true) λ _ _ _=>False)
    (hCX:∀ H e s',CX [] H s₁ (λ _ _ _=>False) e s'->False):
    codeAny (model P w) callerA (.call (.ref fa) ⟨[.ref a],[]⟩) (λ r s'=>r= .ok (.ret (.bool true))/\OldK s₁.heap s'.heap/\s'.os=s₁.os/\AllBare s'.gens) s₁:=by
  have rv:=JS hi;have lenV:=hi.length;have core:∀ H:Hp,Sg H->SqL K H a (ns.map V.int)->HOk P w H s₁.heap->(∀ b,H b≠none->b=a)->(H a≠none->K.lookup a=none)->
      codeAny (model P w) callerA (.call (.ref fa) ⟨[.ref a],[]⟩) (λ r s'=>r= .ok (.ret (.bool true))/\OldK s₁.heap s'.heap/\s'.os=s₁.os/\AllBare s'.gens) s₁:=by
    intro H hO hS hok hA hK;have base_of:∀ {b:Addr} {o:Obj},s₁.heap.get? b=some o->H b=none->(KL s₁.heap H).get? b=some o:=λ e n=>OC e n;have noA:∀ {b:Addr} {o:Obj} {es:Array DictEntry} {ep:Nat},s₁.heap.get? b=some o->o.data= .dict es ep->H b=none:=λ {b o es ep} e d=>by
      cases q:H b with
      | none=>rfl
      | some u=>
        have e':b=a:=hA b (by rw [q];simp);subst e';rw [ha] at e;cases e;have d':Data.seq vs.toArray _=Data.dict es ep:=d;cases d'
    have nsK:∀ {b:Addr} {m:Str->Option Value},s₁.heap.Ns b m->(KL s₁.heap H).Ns b m:=λ {b m} ⟨o,es,ep,e,d,r⟩=>⟨o,es,ep,base_of e (noA e d),d,r⟩;have hKb:K.In (KL s₁.heap H):=λ b o e=>base_of (KX b o e) (by
      cases q:H b with
      | none=>rfl
      | some u=>
        have e':b=a:=hA b (by rw [q];simp);subst e';rw [hK (by rw [q];simp)] at e;cases e)
    have hM:Mod K mg (KL s₁.heap H):=⟨hKb,nsK hns,⟨mb,nsK hb,hbb⟩,let ⟨mc,h1,h2⟩:=hlim;⟨mc,nsK h1,h2⟩⟩;have e0:Env0 P w K mg (KL s₁.heap H) callerA [] s₁ H:=⟨rfl,hM,λ b o e=>Rb e,Nat.le_of_eq (NA _ _),trivial,λ b hb=>absurd (show b∈([]:List Addr) from hb) (by simp),hok, .of_eq hg⟩;refine codeAny_mono ((F _ hKb (nsK hns)).run callerA [] s₁ H ⟨[.ref a],[]⟩ [.ref a] [.ref a] _ _ hr e0 (hbind s₁ (.ref a)) (.cons rfl .nil) (hsp H hO hS)) λ r s' h=> ?_;cases r with
    | error e=>exact (hCX H e s' h).elim
    | ok fl=>
      cases fl with
      | next=>exact False.elim h
      | brk=>exact False.elim h
      | cont=>exact False.elim h
      | ret u=>
        obtain ⟨v,H',os,bare,un,hok',r',q⟩:=h;have q':v= .bl true:=q;subst q';obtain rfl:u=Value.bool true:=r';refine ⟨rfl,OldK.of_keep λ b o e=> ?_,os,bare⟩;cases q:H b with
        | none=>exact un.keep b o e q (by intro z;exact absurd (show b∈([]:List Addr) from z) (by simp)) (by simp)
        | some u=>
          rcases hO b with z | ⟨ob,xs,z⟩
          · rw [q] at z;cases z
          · have z2:=un.frzs b ob _ z;obtain ⟨e1,_⟩:=hok b _ z;obtain ⟨e2,_⟩:=hok' b _ z2;rw [e] at e1;cases e1;exact e2
  cases hk:K.lookup a with
  | some o=>
    have e:=KX a o hk;rw [ha] at e;cases e;refine core (λ _=>none) (λ _=> .inl rfl) (.inr ⟨_,vs.toArray,_,hk,rfl,rfl,rfl,by rw [Ab0,lenV];exact hl,by simpa using rv⟩) (λ b u z=>by have z':(none:Option HO)=some u:=z;cases z') (λ b z=>absurd rfl z) λ z=>absurd rfl z
  | none=>
    refine core (λ b=>if b=a then some (.frz { cls:= .type "list",data:= .seq vs.toArray } (.lst (ns.map V.int))) else none) (λ b=> ?_) (.inl (.inr ⟨{ cls:= .type "list",data:= .seq vs.toArray },if_pos rfl⟩)) (λ b u z=> ?_) (λ b z=> ?_) λ _=>hk
    · by_cases hb:b=a
      · exact .inr ⟨_,_,if_pos hb⟩
      · exact .inl (if_neg hb)
    · by_cases hb:b=a
      · have z':=(if_pos hb).symm.trans z;cases z';subst hb;exact ⟨ha,by rw [Aa1];exact hl,vs,_,rv,ha⟩
      · have z':=(if_neg hb).symm.trans z;cases z'
    · by_cases hb:b=a
      · exact hb
      · exact absurd (if_neg hb) z
theorem walk_of {l:PySem.W.OpenLaw} {k:Nat} {q:Program} {loose:List Str} {YP:World->Heap->Prop} {d:DefRec} {K:Params->PySem.W.Frag} {CX:World->CXT} {sp:World->Sp}
    (hn:l.most=some n) (hn2:n<=sizeLine) (hdf:d.params.defaults=[]) (hr:Room k callerA)
    (hY:∀ (w:World) (h:Heap),YP w h->(K w.params).In h)
    (F:∀ (w:World) (mg:Str->Option Value) (fa:Addr) (h:Heap),(K w.params).In h->h.Ns mainGlobals mg->mg d.name=some (.ref fa)->
      ∃ fd:FuncData,(∀ (s:Shared) (u:Value),BindsTo s fd ⟨[u],[]⟩ [(x,u)])/\
        ∀ base:Heap,(K w.params).In base->base.Ns mainGlobals mg->FnOk l.prog w (K w.params) mg base (CX w) k fa fd [x] (sp w))
    (hsp:∀ (w:World) (H:Hp) (a:Addr) (ns:List Int),ns.length<=n->Sg H->SqL (K w.params) H a (ns.map V.int)->sp w [.ref a] H (λ v _=>v= .bl true) λ _ _ _=>False)
    (hCX:∀ (w:World) (H:Hp) (s:Shared) (e:Value) (s':Shared),CX w [] H s (λ _ _ _=>False) e s'->False):
    PySem.W.WalkO q loose XP YP l.row.toRowW d [] (λ f vs=>PySem.call f vs):=by
  refine Att.attach_call hn hdf λ w s₀ s₁ mg mb fa o pm cd doc a vs ns G Y ho hd hcd hmg hobj hints hlen hg=> ?_;have KX:=hY w _ Y;obtain ⟨fd,hb,hF⟩:=F w mg fa _ KX G.T.g hmg;exact Ox KX G.T.g G.T.b G.T.builtins G.T.nolimit hg hobj hints (Ac5 hlen hn2) hr hF hb (λ H hO hS=>hsp w H a ns hlen hO hS) λ H e s'=>hCX w H s₁ e s'
abbrev CX0:CXT:=λ _ _ _ _ _ _=>False
abbrev E0:XK:=λ _ _ _=>False
theorem MI:Fq CX0 X E0:=λ _ _ _ _ _ _ _ h=>h.elim
structure Fun (K:PySem.W.Frag) (x qual:Str) (st:Stmt) (f:Addr) (fd:FuncData):Prop where
  ex:∃ (oc:Value) (od:Option Addr) (kV doc pm:Value) (an:Option Addr) (cdv ct:Value) (osl:Array (Option Value)),
    fd=PySem.W.fnOf x qual (Gf st) (E7 st) (Ah st) .none kV doc pm an cdv ct/\K.lookup f=some ⟨oc,od, .func fd,osl⟩/\PySem.W.codeIn K cdv qual=true
  kp:PySem.W.keepIn K (.ref f)=true
section
variable {K:PySem.W.Frag} {base:Heap}
theorem Fun.ok {qual:Str} {st:Stmt} {f:Addr} {N:List Str} {k:Nat} (F:Fun K x qual st f fd) (S:FnScope N ps (Ah st)) (len:∀ vs H Q E,sp vs H Q E->vs.length=ps.length)
    (hbody:∀ (cdv:Value) (A:Around) (outer:List Env) (s:Shared) (H:Hp) (vs:List V) (Q:VK) (E:XK),Room k (A.deeper (envOfC qual (Ah st) s.heap.objs.size f cdv))->sp vs H Q E->
      ∃ t,PSs (Oc CX0 P w K mg base N qual (Ah st) f cdv A outer s H E).nox (E7 st) t/\t { nx:=λ _ H'=>Q .non H',rt:=Q } (start N vs) H):FnOk P w K mg base CX0 (k+1) f fd ps sp:=by
  obtain ⟨oc,od,kV,doc,pm,an,cdv,ct,osl,rfl,lk,hcd⟩:=F.ex;refine YY lk hcd S len λ A outer s H vs Q E hr hsp=> ?_;obtain ⟨t,h,q⟩:=hbody cdv A outer s H vs Q E hr hsp;exact ⟨t,h.nox,q⟩
theorem fun_mk {qual:Str} {st:Stmt} {f:Addr} {oc:Value} {od an:Option Addr} {osl:Array (Option Value)} {kV doc pm cdv ct:Value} (l:K.lookup f=some ⟨oc,od, .func (PySem.W.fnOf x qual (Gf st) (E7 st) (Ah st) .none kV doc pm an cdv ct),osl⟩)
    (c:PySem.W.codeIn K cdv qual=true) (k:PySem.W.keepIn K (.ref f)=true):Fun K x qual st f (PySem.W.fnOf x qual (Gf st) (E7 st) (Ah st) .none kV doc pm an cdv ct):=⟨⟨oc,od,kV,doc,pm,an,cdv,ct,osl,rfl,l,c⟩,k⟩
end
section
theorem pv (i:Nat) (hN:X.N[i]?=some x:=by rfl) (hv:Vis X.env.scope x:=by first | exact Or.inl rfl | exact Or.inr (Or.inl rfl) | exact Or.inr (Or.inr rfl)) (hd:(x == ("__debug__":Str))=false:=by decide)
    (hcd:(x == ("__classdict__":Str))=false:=by decide):PE X (.Name x pos) (PZ i):=SY hN hv hd hcd
end
theorem B2 {A:Prop} (h:B):if false=true then A else B:=by
  rw [if_neg Ab1];exact h
theorem DI {A:Prop} (h:A):if true=true then A else B:=by
  rw [if_pos rfl];exact h
def Same (H H':Hp):Prop:=∀ b o,H b=some o->H' b=some o
theorem Same.refl (H:Hp):Same H H:=λ _ _ h=>h
theorem Same.trans {H1 H2:Hp} (a:Same H H1) (b:Same H1 H2):Same H H2:=λ c o h=>b c o (a c o h)
theorem Same.free (e:Same H H') (h:H' l=Option.none):H l=Option.none:=by
  cases q:H l with
  | none=>rfl
  | some o=>
    rw [e l o q] at h;cases h
theorem Same.seq {K:PySem.W.Frag} (e:Same H H') (h:SqL K H a xs):SqL K H' a xs:=by
  rcases h with (h | ⟨o,h⟩) | h
  · exact .inl (.inl (e _ _ h))
  · exact .inl (.inr ⟨o,e _ _ h⟩)
  · exact .inr h
section
variable {κ:Type} [DecidableEq κ]
def Hl (kvs:List (κ × V)) (k:κ):Option V:=(kvs.find? λ kv=>decide (kv.1=k)).map (·.2)
def IL (kvs:List (κ × V)) (k:κ) (v:V):List (κ × V):=
  if (kvs.any λ kv=>decide (kv.1=k))=true then kvs.map (λ kv=>if kv.1=k then (kv.1,v) else kv) else kvs++[(k,v)]
theorem K3 {p:κ × V} {r:List (κ × V)} {k:κ} (e:p.1=k):Hl (p::r) k=some p.2:=by simp [Hl,List.find?_cons,e]
theorem K6 {p:κ × V} {r:List (κ × V)} {k:κ} (e:¬ p.1=k):Hl (p::r) k=Hl r k:=by simp [Hl,List.find?_cons,e]
theorem G0 (kvs:List (κ × V)) (k:κ) (v:V):(IL kvs k v).length<=kvs.length+1:=by
  unfold IL;split
  · rw [Aa1];omega
  · rw [Ac0,Ac6,List.length_nil];omega
theorem RelO.getD {o:Option V} {u:Option Value} {d:V} {d':Value} (r:RelO o u) (rd:RelV d d'):RelV (o.getD d) (u.getD d'):=by
  cases o with
  | none=>cases u with
    | none=>exact rd
    | some _=>exact (show False from r).elim
  | some _=>cases u with
    | none=>exact (show False from r).elim
    | some _=>exact r
theorem KV.val {kvs:List (κ × V)} {vs:List (κ × Value)} (r:KV kvs vs) (k:κ):RelO (Hl kvs k) (valueAt vs k):=by
  unfold KV at r
  induction r with
  | nil=>exact True.intro
  | @cons p q ps qs h t ih=>
    obtain ⟨h1,h2⟩:=h;by_cases e:p.1=k
    · have e':q.1=k:=h1.symm.trans e;have b:valueAt (q::qs) k=some q.2:=by simp [valueAt,List.find?_cons,e']
      rw [K3 e,b];exact h2
    · have e':¬ q.1=k:=λ z=>e (h1.trans z);have b:valueAt (q::qs) k=valueAt qs k:=by simp [valueAt,List.find?_cons,e']
      rw [K6 e,b];exact ih
theorem KV.any {kvs:List (κ × V)} {vs:List (κ × Value)} (r:KV kvs vs) (k:κ):(kvs.any λ kv=>decide (kv.1=k))=vs.any λ kv=>decide (kv.1=k):=by
  unfold KV at r
  induction r with
  | nil=>rfl
  | cons h t ih=>rw [List.any_cons,List.any_cons,ih,h.1]
theorem KV.repl {kvs:List (κ × V)} {vs:List (κ × Value)} (r:KV kvs vs) (k:κ) (ry:RelV y u):
    KV (kvs.map λ kv=>if kv.1=k then (kv.1,y) else kv) (vs.map λ kv=>if kv.1=k then (kv.1,u) else kv):=by
  unfold KV at r ⊢
  induction r with
  | nil=>exact .nil
  | @cons p q ps qs h t ih=>
    rw [Ag9,Ag9];refine .cons ?_ ih;obtain ⟨h1,h2⟩:=h;by_cases e:p.1=k
    · rw [if_pos e,if_pos (h1.symm.trans e)];exact ⟨h1,ry⟩
    · rw [if_neg e,if_neg (λ z=>e (h1.trans z))];exact ⟨h1,h2⟩
theorem KV.put {kvs:List (κ × V)} {vs:List (κ × Value)} (r:KV kvs vs) (k:κ) (ry:RelV y u):KV (IL kvs k y) (stored vs k u):=by
  unfold IL stored;rw [r.any k];by_cases e:(vs.any λ kv=>decide (kv.1=k))=true
  · rw [if_pos e,if_pos e];exact r.repl k ry
  · rw [if_neg e,if_neg e];exact Paired.snoc r ⟨rfl,ry⟩
theorem KV.length {kvs:List (κ × V)} {vs:List (κ × Value)} (r:KV kvs vs):kvs.length=vs.length:=Paired.length r
end
theorem M0 {k:Key} (r:RelV (kV k) u):(Bj P w).is k u=true:=by
  cases k with
  | inl i=>obtain ⟨t,e⟩:=(show ∃ t,u=Value.int i t from r);subst e;exact Lm P w i t
  | inr x=>obtain ⟨t,e⟩:=(show ∃ t,u=Value.str x t from r);subst e;exact LK P w x t
theorem JN {P:Program} {w:World}:∀ {ks:List Key} {us:List Value},Vals (ks.map kV) us->ItemsAre (Bj P w) ks us
  | [],_,r=>by rw [List.map_nil] at r;cases r;exact .nil
  | k::ks,_,r=>by
    rw [Ag9] at r;cases r with
    | cons h t=>exact .cons (M0 h) (JN t)
abbrev KT (H:Hp):List (List Key × V)->List (List Key × Addr × Value)->Prop:=Paired λ p q=>p.1=q.1/\H q.2.1=some (.tup (p.1.map kV))/\RelV p.2 q.2.2
theorem KT.val {kvs:List (List Key × V)} {xs:List (List Key × Addr × Value)} (r:KT H kvs xs) (k:List Key):RelO (Hl kvs k) ((atKey xs k).map (·.2)):=by
  induction r with
  | nil=>exact True.intro
  | @cons p q ps qs h t ih=>
    obtain ⟨h1,_,h2⟩:=h;by_cases e:p.1=k
    · have e':q.1=k:=h1.symm.trans e;have b:atKey (q::qs) k=some q.2:=by simp [atKey,List.find?_cons,e']
      rw [K3 e,b];exact h2
    · have e':¬ q.1=k:=λ z=>e (h1.trans z);have b:atKey (q::qs) k=atKey qs k:=by simp [atKey,List.find?_cons,e']
      rw [K6 e,b];exact ih
section
theorem Rz {u:HO} (ok:HOk P w H h) (e:Rd H a u):ObjOk P w H h a u:=e.ok ok
theorem Pk (ok:HOk P w H h) (e:Rd H a (.dK kvs)):kvs.length<=sizeLine/\(a == sysModules)=false/\∃ vs,KV kvs vs/\h.DictOf (Bj P w) a vs:=
  show ObjOk P w H h a (.dK kvs) from Rz ok e
theorem MZ (ok:HOk P w H h) (e:H a=some (.dK kvs)):kvs.length<=sizeLine/\(a == sysModules)=false/\∃ vs,KV kvs vs/\h.DictOf (Bj P w) a vs:=Pk ok (.inl e)
theorem PX {ks:List Key} (ok:HOk P w H h) (e:H a=some (.tup (ks.map kV))):(tupleKind (Bj P w)).is h ks a:=by
  obtain ⟨_,its,r,o,h1,h2,n,h3⟩:=(show ObjOk P w H h a (.tup (ks.map kV)) from ok a _ e);exact ⟨o,its.toArray,n,h1,h2,h3,by simpa using JN r⟩
theorem R8 {kvs:List (List Key × V)} (ok:HOk P w H h) (e:Rd H a (.dT kvs)):kvs.length<=sizeLine/\(a == sysModules)=false/\
    ∃ xs,KT H kvs xs/\h.DictOfH (tupleKind (Bj P w)) a xs:=by
  obtain ⟨z,y,xs,r,o,es,ep,h1,h2,h3,h4,h5⟩:=(show ObjOk P w H h a (.dT kvs) from Rz ok e);refine ⟨z,y,xs,r,o,es,ep,h1,h2,h3,h4,λ x hx=> ?_,h5⟩;have all:∀ {l:List (List Key × V)} {m:List (List Key × Addr × Value)},KT H l m->∀ x∈m,(tupleKind (Bj P w)).is h x.1 x.2.1:=by
    intro l m q
    induction q with
    | nil=>intro x hx;exact nomatch hx
    | @cons p q ps qs hq t ih=>
      intro x hx;rcases Ab2.mp hx with e | hx
      · subst e;exact PX ok (by rw [<-hq.1];exact hq.2.1)
      · exact ih x hx
  exact all r x hx
end
def DGet (H:Hp) (a:Addr) (y:V) (r:Option V):Prop:=
  (∃ kvs k,Rd H a (.dK kvs)/\y=kV k/\r=Hl kvs k)\/∃ kvs k b,Rd H a (.dT kvs)/\y= .ref b/\H b=some (.tup (k.map kV))/\r=Hl kvs k
theorem DGet.k {H:Hp} {a:Addr} {kvs:List (Key × V)} {k:Key} (e:H a=some (.dK kvs)):DGet H a (kV k) (Hl kvs k):= .inl ⟨kvs,k, .inl e,rfl,rfl⟩
section
variable {r:Value} {o:Option V}
theorem Inv.big (I:Inv X pins σ H s):sysModules<s.heap.objs.size:=by
  have h:mainGlobals<s.heap.objs.size:=(I.mod.glob.keeps I.bk).lt;exact Nat.lt_trans (by decide) h
theorem NU (hu:A.units+1<cLine) (I:Inv X pins σ H s) (g:DGet H a y (some v)) (ry:RelV y u) (h:∀ w' s',Inv X pins σ H s'->RelV v w'->Q w' s'):
    wpAny (model X.prog X.w) A (getItem (.ref a) u) Q E s:=by
  rcases g with ⟨kvs,k,e,ey,l⟩ | ⟨kvs,k,b,e,ey,eb,l⟩
  · subst ey;obtain ⟨z,hd,vs,rel,dd⟩:=Pk I.hok e;obtain ⟨w',hw,rw'⟩:=RelO.some_of (v:=v) (o:=valueAt vs k) (by rw [l];exact rel.val k);exact wpAny_getItem_of (M0 ry) dd.mapOf hw (h w' _ (I.tok _) rw')
  · subst ey;cases (show u=Value.ref b from ry);obtain ⟨z,hd,xs,rel,dd⟩:=R8 I.hok e;obtain ⟨w',hw,rw'⟩:=RelO.some_of (v:=v) (o:=(atKey xs k).map (·.2)) (by rw [l];exact rel.val k);obtain ⟨p,hp,hp2⟩:=Ah6.mp hw;refine wpAny_getItem_heap (tupleKind_room_in1 hu) (PX I.hok eb) dd hp ?_;rw [hp2];exact h w' _ (I.tok _) rw'
theorem Kz {ob:HO} (I:Inv X pins σ H s) (mu:Mut (H a)) (hs:Heap.SameBut a s.heap h') (he:∃ q,h'.get? a=some q) (new:ObjOk X.prog X.w (upd H a ob) h' a ob):
    Inv X pins σ (upd H a ob) { s with heap:=h',toks:=t' }:=
  I.write (x:=a) (e:=a) mu (.inl rfl) (λ b q hb z=>(hs.2 b hb).trans z) he new
theorem Mw {vs:List (Key × Value)} (z:kvs.length<=sizeLine) (hd:(a == sysModules)=false) (rel:KV kvs vs) (dd:h'.DictOf (Bj P w) a vs):
    ObjOk P w H' h' a (.dK kvs):=⟨z,hd,vs,rel,dd⟩
end
def Y5 (i:Expr):Prop:=∀ ov iv,subscripted i false ov iv=operate [ov,iv] (getItem ov iv)
theorem Rw {env:Env} {value slice:Expr} {id:String}
    (hl:typeLookup (.type T) "__getitem__"=pure (some (.builtin id))) (hs:Y5 slice)
    (h:wpAny (model prog w) A (eval value env) (λ o s₁=>wpAny (model prog w) A (eval slice env) (λ i s₂=>s₂.TypeIs o T/\wpAny (model prog w) A (getItem o i) Q E s₂) E s₁) E s):
    wpAny (model prog w) A (eval (.Subscript value slice pos) env) Q E s:=by
  refine Subscript_ (Af1 h (λ o s₁ h₁=>Af1 h₁ (λ i s₂ h₂=> ?_) λ _ _ x=>x) λ _ _ x=>x);obtain ⟨hT,h₂⟩:=h₂;unfold subscriptTail;refine Aa0 ?_;rw [getitemInPython_of_ne hT.not_modules];refine Aa0 (wpAny_specialOf hT hl ?_);have fin:wpAny (model prog w) A (subscripted slice false o i) (λ r s₃=>wpAny (model prog w) A (letTemporaryGo value o r >>= λ _=>pure r) Q E s₃) E s₂:=by
    rw [hs o i];exact wpAny_operating (Af1 h₂ (λ r s₃ h₃=>Aa0 (wpAny_letTemporaryGo (Aa5 h₃))) λ _ _ x=>x)
  first
    | exact Aa5 (Aa0 fin)
    | exact Aa0 (Aa5 (Aa0 fin))
    | exact Aa0 fin
theorem K4 {o:Option V} (I:Inv X pins σ H s) (g:DGet H a y o):s.TypeIs (.ref a) "dict":=by
  rcases g with ⟨kvs,k,e,_,_⟩ | ⟨kvs,k,b,e,_,_,_⟩
  · obtain ⟨_,_,vs,_,dd⟩:=Pk I.hok e;exact dd.typeIs
  · obtain ⟨_,_,xs,_,dd⟩:=R8 I.hok e;exact dd.typeIs
def RJ (td ty:TE):TE:=λ σ H Q=>td σ H λ x H1=>ty σ H1 λ y H2=>∃ a v,x= .ref a/\DGet H2 a y (some v)/\Q v H2
section
variable {o i value:Expr} {pos' tpos:Pos} {td ty tv:TE}
theorem De (hu:X.A.units+1<cLine) (ho:PE X o td) (hi:PE X i ty) (hs:Y5 i):PE X (.Subscript o i pos) (RJ td ty):=by
  intro pins s σ H Q I h;refine Rw PySem.F.slot_dict_getitem.lookup hs (thn (ho pins s σ H _ I h) λ u s1 ⟨x,H1,I1,rx,q1⟩=>thn (hi pins s1 σ H1 _ I1 q1) λ iv s2 ⟨y,H2,I2,ry,a,v,ex,g,q2⟩=> ?_);subst ex;obtain rfl:u=Value.ref a:=rx;exact ⟨K4 I2 g,NU hu I2 g ry λ w' s3 I3 rw'=>⟨v,H2,I3,rw',q2⟩⟩
end
theorem HV (h:Heap) (hb:sysModules<h.objs.size):ObjOk P w H (h.push { cls:= .type "dict",data:= .dict #[] }) h.objs.size (.dK []):=
  ⟨Ad3 _,beq_eq_false_iff_ne.mpr (Ne.symm (Ab6 hb)),[], .nil,Heap.DictOf.new h⟩
def SK:TE:=λ _ H Q=>∀ p,H p=none->Q (.ref p) (upd H p (.dK []))
section
theorem Ld:PE X (.Dict [] [] pos) SK:=λ pins s σ H Q I h=>
  wpAny_Dict_empty ⟨.ref s.heap.objs.size,_,I.laid (a:=s.heap.objs.size) (o:= .dK []) (t':=s.toks) (λ _ _ q=>Aa3 _ q) (Aa7 _) (HV s.heap I.big),rfl,h _ (I.hok.fresh (Aa7 _))⟩
end
def FE:List (TE × TE)->St->Hp->(List (V × V)->Hp->Prop)->Prop
  | [],_,H,Q=>Q [] H
  | (tk,tv)::r,σ,H,Q=>tk σ H λ x H1=>tv σ H1 λ y H2=>FE r σ H2 λ ps H3=>Q ((x,y)::ps) H3
abbrev VV:List (V × V)->List (Value × Value)->Prop:=Paired λ p q=>RelV p.1 q.1/\RelV p.2 q.2
def PPs (X:Cx) (pos:Pos) (keys:List (Option Expr)) (values:List Expr) (trs:List (TE × TE)):Prop:=
  ∀ (pins:List (Addr × Obj)) (s:Shared) (σ:St) (H:Hp) (Q:List (V × V)->Hp->Prop),Inv X pins σ H s->FE trs σ H Q->
    wpAny (model X.prog X.w) X.A (evalPairs (pairTrees keys values X.env pos)) (λ vs s'=>∃ ps H',Inv X pins σ H' s'/\VV ps vs/\Q ps H') X.xe s
theorem CF:PPs X pos [] [] []:=λ pins s σ H Q I h=>pairTrees_nil_walk ⟨[],H,I, .nil,h⟩
theorem Bb {k v:Expr} {ks:List (Option Expr)} {vs:List Expr} {tk tv:TE} {trs:List (TE × TE)} (hk:PE X k tk) (hv:PE X v tv) (hr:PPs X pos ks vs trs):
    PPs X pos (some k::ks) (v::vs) ((tk,tv)::trs):=λ pins s σ H Q I h=>
  pairTrees_cons_walk (thn (hk pins s σ H _ I h) λ u s1 ⟨x,H1,I1,rx,q1⟩=>thn (hv pins s1 σ H1 _ I1 q1) λ w2 s2 ⟨y,H2,I2,ry,q2⟩=>
    thn (hr pins s2 σ H2 _ I2 q2) λ ws s3 ⟨ps,H3,I3,rel,q3⟩=>⟨(x,y)::ps,H3,I3, .cons ⟨rx,ry⟩ rel,q3⟩)
def AR (kvs more:List (Key × V)):List (Key × V):=more.foldl (λ acc kv=>IL acc kv.1 kv.2) kvs
theorem KV.merge:∀ {more:List (Key × V)} {rs:List (Key × Value)} {kvs:List (Key × V)} {vs:List (Key × Value)},KV more rs->KV kvs vs->KV (AR kvs more) (merged vs rs):=by
  intro more rs kvs vs r;unfold KV at r
  induction r generalizing kvs vs with
  | nil=>intro q;exact q
  | @cons p q ps qs h t ih=>
    intro r0;have e:KV (IL kvs p.1 p.2) (stored vs q.1 q.2):=by
      have:=r0.put p.1 h.2;rw [<-h.1];exact this
    exact ih e
theorem BL:∀ (more kvs:List (Key × V)),(AR kvs more).length<=kvs.length+more.length
  | [],kvs=>by show kvs.length<=kvs.length+0;omega
  | p::r,kvs=>by
    have h1:=BL r (IL kvs p.1 p.2);have h2:=G0 kvs p.1 p.2;show (AR (IL kvs p.1 p.2) r).length<=_;rw [Ac6];omega
theorem Iy {P:Program} {w:World}:∀ {kvs:List (Key × V)} {ws:List (Value × Value)},VV (kvs.map λ kv=>(kV kv.1,kv.2)) ws->∃ rs,Carries (Bj P w) ws rs/\KV kvs rs
  | [],_,r=>by rw [List.map_nil] at r;cases r;exact ⟨[],True.intro, .nil⟩
  | p::kvs,_,r=>by
    rw [Ag9] at r;cases r with
    | @cons a b as bs h t=>
      obtain ⟨rs,c,q⟩:=Iy (P:=P) (w:=w) t;obtain ⟨b1,b2⟩:=b;exact ⟨(p.1,b2)::rs,⟨M0 h.1,rfl,c⟩, .cons ⟨rfl,h.2⟩ q⟩
def RN (trs:List (TE × TE)):TE:=λ σ H Q=>∀ p,H p=none->FE trs σ (upd H p (.dK [])) λ ps H2=>H2 p=some (.dK [])/\∃ kvs:List (Key × V),ps=kvs.map (λ kv=>(kV kv.1,kv.2))/\kvs.length<=15/\Q (.ref p) (upd H2 p (.dK (AR [] kvs)))
theorem CH {keys:List (Option Expr)} {values:List Expr} {trs:List (TE × TE)} (h:PPs X pos keys values trs) (hall:keys.all (·.isSome)=true) (hl:keys.length=values.length) (h0:keys≠[])
    (h15:keys.length<=15):PE X (.Dict keys values pos) (RN trs):=by
  intro pins s σ H Q I q;have hn:=I.hok.fresh (Aa7 s.heap.objs.size);have I1:=I.laid (a:=s.heap.objs.size) (o:= .dK []) (h':=s.heap.push { cls:= .type "dict",data:= .dict #[] }) (t':=s.toks) (λ _ _ q=>Aa3 _ q) (Aa7 _) (HV s.heap I.big);refine wpAny_Dict_walk (knd:=Bj X.prog X.w) hall hl h0 h15 (thn (h pins _ σ _ _ I1 (q _ hn)) λ ws s2 ⟨ps,H2,I2,rel,e,kvs,ep,lk,q2⟩=> ?_);subst ep;obtain ⟨rs,c,rk⟩:=Iy (P:=X.prog) (w:=X.w) rel;obtain ⟨z,hd,vs0,r0,dd⟩:=MZ I2.hok e;cases r0;refine ⟨rs,c,dd,λ h' dd' hs=>⟨.ref s.heap.objs.size,_,?_,rfl,q2⟩⟩;have hz:(AR [] kvs).length<=sizeLine:=by
    have h1:=BL kvs [];rw [List.length_nil] at h1;rw [sizeLine_eq];omega
  have he:∃ q,h'.get? s.heap.objs.size=some q:=let ⟨q,_,_,hq,_⟩:=dd';⟨q,hq⟩;exact Kz I2 (by rw [e];exact True.intro) hs he (Mw hz hd (rk.merge .nil) dd')
structure M1 (X:Cx) (o:Expr) (m:Str) (apos:Pos) (e:Expr) (cpos:Pos):Prop where
  base:attributeBase o m X.env (eval o X.env)=eval o X.env
  few:((backTo cpos (starEach [e] X.env)).all (λ x=> !x.1)&&(backToKw cpos (keywordEach [] X.env)).all (λ x=>x.1.isSome)
    && decide (([e]:List Expr).length+([]:List Keyword).length+(if ([]:List Keyword).isEmpty then 0 else 1)<30))=true
  line:(apos.endLine == cpos.line)=true
  trees:backTo cpos (starEach [e] X.env)=[(false,eval e X.env)]
structure M2 (X:Cx) (o:Expr) (m:Str) (apos:Pos) (e f:Expr) (cpos:Pos):Prop where
  base:attributeBase o m X.env (eval o X.env)=eval o X.env
  few:((backTo cpos (starEach [e,f] X.env)).all (λ x=> !x.1)&&(backToKw cpos (keywordEach [] X.env)).all (λ x=>x.1.isSome)
    && decide (([e,f]:List Expr).length+([]:List Keyword).length+(if ([]:List Keyword).isEmpty then 0 else 1)<30))=true
  line:(apos.endLine == cpos.line)=true
  trees:backTo cpos (starEach [e,f] X.env)=[(false,eval e X.env),(false,eval f X.env)]
def Bm (cells:List (Str × Addr)):List (Str × NameKind)->List (Str × Addr)->List (Str × Addr)
  | [],acc=>acc
  | (n,k)::r,acc=>Bm cells r (if k= .free then (match cells.lookup n with | some a=>(n,a)::acc | none=>acc) else acc)
theorem Ff {env:Env}:∀ (names:List (Str × NameKind)) (acc:List (Str × Addr)),(∀ y∈names,y.2= .free->∃ c,env.cells.lookup y.1=some c)->
    (forIn names acc λ (x:Str × NameKind) (r:List (Str × Addr))=>
      (if (x.2 == NameKind.free)=true then (do let a <-cellOf env x.1;pure (ForInStep.yield ((x.1,a)::r))) else pure (ForInStep.yield r):Sem (ForInStep (List (Str × Addr)))))=(pure (Bm env.cells names acc):Sem (List (Str × Addr)))
  | [],acc,_=>rfl
  | (n,k)::GQ,acc,h=>by
    rw [Ah1];have ih:=λ acc'=>Ff (env:=env) GQ acc' λ y hy=>h y (Ac9 _ hy);by_cases hk:k= .free
    · subst hk;obtain ⟨c,hc⟩:=h (n, .free) Ad1 rfl;have hc:env.cells.lookup n=some c:=hc;have e:cellOf env n=pure c:=by unfold cellOf;rw [hc]
      simp only [beq_self_eq_true,if_true,e,pure_bind,Bm,hc];exact ih _
    · have hb:(k == NameKind.free)=false:=by simpa using hk
      simp only [hb,Ag1,if_false,pure_bind,Bm,if_neg hk];exact ih _
theorem Fd {env:Env} (h:∀ y∈scope.names,y.2= .free->∃ c,env.cells.lookup y.1=some c):closureFor scope env=pure (Bm env.cells scope.names []):=by
  have e:=Ff (env:=env) scope.names [] h;unfold closureFor;simp only [bind_pure_comp,bind_pure,map_pure] at*;exact e
theorem Iz {cells:List (Str × Addr)}:∀ (names:List (Str × NameKind)) (acc:List (Str × Addr)),(∀ x c,acc.lookup x=some c->cells.lookup x=some c)->∀ x c,(Bm cells names acc).lookup x=some c->cells.lookup x=some c
  | [],acc,h,x,c,e=>h x c e
  | (n,k)::r,acc,h,x,c,e=>by
    refine Iz r _ ?_ x c e;intro y d q;split at q
    · split at q
      · rename_i a ha
        rw [Ag5] at q;split at q
        · rename_i hy
          cases q;rw [eq_of_beq hy];exact ha
        · exact h y d q
      · exact h y d q
    · exact h y d q
theorem HM {cells:List (Str × Addr)}:∀ (names:List (Str × NameKind)) (acc:List (Str × Addr)) (x:Str),(((x,NameKind.free)∈names/\∃ c,cells.lookup x=some c)\/∃ c,acc.lookup x=some c)->∃ c,(Bm cells names acc).lookup x=some c
  | [],acc,x,h=>by
    rcases h with ⟨h,_⟩ | h
    · cases h
    · exact h
  | (n,k)::r,acc,x,h=>by
    refine HM r _ x ?_;have up:(∃ c,acc.lookup x=some c)->∃ c,(if k= .free then (match cells.lookup n with | some a=>(n,a)::acc | none=>acc) else acc).lookup x=some c:=by
      rintro ⟨c,hc⟩;split
      · split
        · rename_i a ha
          rw [Ag5];split
          · exact ⟨_,rfl⟩
          · exact ⟨c,hc⟩
        · exact ⟨c,hc⟩
      · exact ⟨c,hc⟩
    rcases h with ⟨h,c,hc⟩ | h
    · rcases Ab2.mp h with e | e
      · cases e;right;refine ⟨c,?_⟩;rw [if_pos rfl,hc,Ag5,beq_self_eq_true]
      · exact .inl ⟨e,c,hc⟩
    · exact .inr (up h)
theorem Ie (env:Env) (x:Str):∀ names:List (Str × NameKind),
    (names.map λ (n,k)=>if (k == NameKind.free&&env.scope.kind == .function&&env.kindOf n == some .cell) then (n,NameKind.cell) else (n,k)).lookup x=
      (names.lookup x).map λ k=>if (k == NameKind.free&&env.scope.kind == .function&&env.kindOf x == some .cell)=true then NameKind.cell else k
  | []=>rfl
  | (n,k)::r=>by
    have ih:=Ie env x r;show List.lookup x ((if (k == NameKind.free&&env.scope.kind == .function&&env.kindOf n == some .cell)=true then (n,NameKind.cell) else (n,k))::_)=_;cases hx:x == n with
    | true=>
      have e:x=n:=eq_of_beq hx;subst e;by_cases hc:(k == NameKind.free&&env.scope.kind == .function&&env.kindOf x == some .cell)=true
      · rw [if_pos hc,Ag5,Ag5,beq_self_eq_true];simp only [Option.map_some,if_pos hc]
      · rw [if_neg hc,Ag5,Ag5,beq_self_eq_true];simp only [Option.map_some,if_neg hc]
    | false=>
      have e:(List.lookup x ((n,k)::r))=List.lookup x r:=by rw [Ag5,hx]
      rw [e, <-ih];split <;> rw [Ag5,hx]
structure BlkScope (X:Cx) (scope:Scope) (own:List Str) (fr:List (Str × Nat)):Prop where
  kind:scope.kind= .function
  nocell:∀ y∈scope.names,y.2≠ .cell
  loc:∀ y∈scope.names,y.2= .local->scope.names.lookup y.1=some .local
  free:∀ y∈scope.names,y.2= .free->(X.env.scope.names.lookup y.1=some .cell\/X.env.scope.names.lookup y.1=some .free)
  fr:∀ p∈fr,X.N[p.2]?=some p.1/\(p.1,NameKind.free)∈scope.names
  only:∀ x,(x,NameKind.free)∈scope.names->scope.names.lookup x=some .free
def Bu (X:Cx) (scope:Scope) (own:List Str) (fr:List (Str × Nat)) (C:Addr) (ex:List Addr) (s:Shared) (H:Hp):Cx where
  prog:=X.prog
  w:=X.w
  K:=X.K
  mg:=X.mg
  base:=X.base
  A:=X.A
  N:=own++fr.map (·.1)
  s₀:=s
  H₀:=H
  env:=compEnvC scope (Bm X.env.cells scope.names []) C X.env
  outer:=X.stack
  stack:=X.stack
  ex:=ex
  fn:=λ _=>false
  calm:=X.calm
  pn:=[]
  xe:=λ _ _=>False
def F3 (own:List Str) (fr:List (Str × Nat)) (σ:St):St:=own.map (λ _=>none)++fr.map (λ p=>(σ[p.2]?).getD none)
section
variable {own:List Str} {fr:List (Str × Nat)} {fp:List Addr}
theorem BlkScope.cells (S:BlkScope X scope own fr) (ok:X.Ok):∀ y∈scope.names,y.2= .free->∃ c,X.env.cells.lookup y.1=some c:=λ y hy e=>ok.has y.1 (S.free y hy e)
theorem Inv.block {m:Str->Option Value} (I:Inv X pins σ H s) (S:BlkScope X scope own fr) (hf:∀ b∈fp,Dk X pins H b) (hlt:∀ b∈fp,b<s.heap.objs.size)
    (hns:h'.Ns s.heap.objs.size m) (k:∀ b o,s.heap.get? b=some o->h'.get? b=some o):
    Inv (Bu X scope own fr s.heap.objs.size fp s H) [] (F3 own fr σ) H { s with heap:=h',toks:=t' }:=by
  have cs:∀ x c,(Bm X.env.cells scope.names []).lookup x=some c->X.env.cells.lookup x=some c:=Iz _ _ (λ _ _ e=>by simp at e);have ck:∀ c v,s.heap.IsCell c v->h'.IsCell c v:=λ c v ⟨o,ho,hd⟩=>⟨o,k _ _ ho,hd⟩;have kf:∀ x,(x,NameKind.free)∈scope.names->∃ c,X.env.cells.lookup x=some c/\(Bm X.env.cells scope.names []).lookup x=some c:=λ x hx=>by
    obtain ⟨c0,e0⟩:=S.cells I.ok (x, .free) hx rfl;obtain ⟨c,e⟩:=HM (cells:=X.env.cells) scope.names [] x (.inl ⟨hx,c0,e0⟩);exact ⟨c,cs _ _ e,e⟩
  have rel:∀ x,(compEnvC scope (Bm X.env.cells scope.names []) s.heap.objs.size X.env).kindOf x=(scope.names.lookup x).map λ k=>if (k == NameKind.free&&X.env.scope.kind == .function&&X.env.kindOf x == some .cell)=true then NameKind.cell else k:=λ x=>Ie X.env x scope.names
  have nc:∀ x,scope.names.lookup x≠some .cell:=λ x e=>S.nocell _ (PySem.mem_of_lookup e) rfl;refine ⟨⟨I.ok.mod,S.kind,I.ok.glob,I.ok.blt,Aa7 _,λ x y c e1 e2=>I.ok.inj x y c (cs _ _ e1) (cs _ _ e2),λ x hx=> ?_,λ x c e _=>(nomatch e),I.ok.hd,I.ok.frames, .inl rfl,
    λ b hb=>⟨Ab6 (hlt b hb),λ x c e=>(hf b hb).2.2.2.2.1 x c (cs _ _ e)⟩,I.bs,Ac5 I.ok.bsz I.sz,λ b o e hb=> ?_,λ b hb z=>(Ab2.mp (I.stkSub b z)).elim (hf b hb).2.1 (hf b hb).2.2.1,I.stack,I.stkFree⟩,
    rfl,I.bare,Un.kept k,⟨m,hns,λ i x v e1 e2 e3=> ?_⟩,λ x c e=> ?_,I.hok.fresh (Aa7 _),λ x c e=>I.freeC x c (cs _ _ e),λ p hp=>absurd (show p∈([]:List (Addr × Obj)) from hp) (by simp),I.hok.kept k,?_⟩
  · have hx:(compEnvC scope (Bm X.env.cells scope.names []) s.heap.objs.size X.env).kindOf x=some .cell\/(compEnvC scope (Bm X.env.cells scope.names []) s.heap.objs.size X.env).kindOf x=some .free:=hx;rw [rel x] at hx;have q:scope.names.lookup x=some .free:=by
      cases e:scope.names.lookup x with
      | none=>rw [e] at hx;simp at hx
      | some kk=>
        rw [e] at hx;simp only [Option.map_some,Ae2.injEq] at hx;by_cases hk:kk= .free
        · rw [hk]
        · have hb:(kk == NameKind.free)=false:=by simpa using hk
          simp only [hb,Bool.false_and,Ag1,if_false] at hx;rcases hx with hx | hx
          · rw [hx] at e;exact absurd e (nc x)
          · exact absurd hx hk
    obtain ⟨c,_,e⟩:=kf x (PySem.mem_of_lookup q);exact ⟨c,e⟩
  · rcases (hf b hb).2.2.2.1 with z | z
    · exact I.ok.noex b o e z
    · exact absurd (Ab3 (Aa8 (I.ok.bs b o e).1) z) (Nat.lt_irrefl _)
  · have e1:(own++fr.map (·.1))[i]?=some x:=e1;have e2:(F3 own fr σ)[i]?=some (some v):=e2;unfold F3 at e2;by_cases hi:i<own.length
    · rw [Af0 (by simpa using hi),Ac4] at e2;rw [Aa4 hi] at e2;simp at e2
    · rw [Ae8 (by simpa using hi),Ac4,Aa1] at e2;rw [Ae8 (by omega),Ac4] at e1;cases ep:fr[i - own.length]? with
      | none=>rw [ep] at e1;simp at e1
      | some p=>
        rw [ep] at e1 e2;simp only [Option.map_some,Ae2.injEq] at e1 e2;subst e1;obtain ⟨h1,h2⟩:=S.fr p (List.mem_of_getElem? ep);have e4:σ[p.2]?=some (some v):=by
          cases q:σ[p.2]? with
          | none=>rw [q] at e2;simp at e2
          | some z=>rw [q] at e2;simp at e2;rw [e2]
        have kx:=S.free _ h2 rfl;obtain ⟨m0,hn0,hl0⟩:=I.loc;obtain ⟨u,r,l⟩:=hl0 p.2 p.1 v h1 e4 (kx.elim (λ z=> .inr (.inl z)) λ z=> .inr (.inr z));refine ⟨u,r,?_⟩;rcases l with ⟨z,_⟩ | ⟨_,c,hc,hcell⟩
        · have z:X.env.scope.names.lookup p.1=some .local:=z;rcases kx with y | y <;> (rw [y] at z;cases z)
        · obtain ⟨c',q1,q2⟩:=kf p.1 h2;rw [hc] at q1;cases q1;refine .inr ⟨?_,c,q2,ck _ _ hcell⟩;show (compEnvC scope (Bm X.env.cells scope.names []) s.heap.objs.size X.env).kindOf p.1=some .cell\/(compEnvC scope (Bm X.env.cells scope.names []) s.heap.objs.size X.env).kindOf p.1=some .free;have e3:(compEnvC scope (Bm X.env.cells scope.names []) s.heap.objs.size X.env).kindOf p.1=some .local\/(compEnvC scope (Bm X.env.cells scope.names []) s.heap.objs.size X.env).kindOf p.1=some .cell\/(compEnvC scope (Bm X.env.cells scope.names []) s.heap.objs.size X.env).kindOf p.1=some .free:=e3;rcases e3 with e3 | e3
          · exfalso;rw [rel] at e3;cases e:scope.names.lookup p.1 with
            | none=>rw [e] at e3;cases e3
            | some kk=>
              rw [e] at e3;simp only [Option.map_some,Ae2.injEq] at e3;by_cases hk:kk= .free
              · subst hk;split at e3 <;> cases e3
              · have hb:(kk == NameKind.free)=false:=by simpa using hk
                simp only [hb,Bool.false_and,Ag1,if_false] at e3;subst e3;have:=S.only p.1 h2;rw [this] at e;cases e
          · exact e3
  · obtain ⟨v,z⟩:=I.cell x c (cs _ _ e);exact ⟨v,ck _ _ z⟩
  · unfold F3;show _=(own++fr.map (·.1)).length;simp
end
theorem K5 {R:Result->Shared->Prop} {target:Expr} {it acc:Value} {env:Env} (I:Nat->Shared->Prop)
    (turn:∀ n s,I n s->wpAny (model prog w) A (pyNext it) (λ r s₁=>match r with
      | none=>R (.ok .next) s₁
      | some v=>wpAny (model prog w) A (letOwnedTupleGo target it v) (λ _ s₁'=>wpAny (model prog w) A (assign target env v) (λ _ s₂=>
          wpAny (model prog w) A (forIn ifs true λ c r=>if r=true then do let ok <-isTrue c env (eval c env);pure (ForInStep.yield ok) else pure (ForInStep.yield r)) (λ ok s₃=>
            if ok=true then wpAny (model prog w) A (eval elt env) (λ x s₄=>
              wpAny (model prog w) A (call (.builtin "list.append") [acc,x]) (λ _ s₅=>∃ m,m<n/\I m s₅) (λ _ _=>False) s₄) (λ _ _=>False) s₃
            else ∃ m,m<n/\I m s₃) (λ _ _=>False) s₂) (λ _ _=>False) s₁') (λ _ _=>False) s₁) (λ _ _=>False) s)
    (n:Nat) (h:I n s):codeAny (model prog w) A (.compLoop (.ListComp elt [⟨target,iter,ifs,0⟩] scope pos) 0 it acc env) R s:=by
  refine codeAny_loop rfl I (λ n s hI=> ?_) n h;show wpAny _ A ((compTurn (.ListComp elt [⟨target,iter,ifs,0⟩] scope pos) 0 it acc env).onRaise (λ x=>do noteFrame x env;theTreesLotGoes x)) _ _ s;refine wpAny_noted ?_;rw [compTurn_list];refine Aa0 (wpAny_standAt (Aa0 (Af1 (turn n s hI) (λ r s₁ h₁=> ?_) λ _ _ f=>f.elim)));cases r with
  | none=>exact Aa5 h₁
  | some v=>
    refine Aa0 (Af1 h₁ (λ _ s₁' h₁'=>Aa0 (Af1 h₁' (λ _ s₂ h₂=>Aa0 (Af1 h₂ (λ ok s₃ h₃=> ?_) λ _ _ f=>f.elim)) λ _ _ f=>f.elim)) λ _ _ f=>f.elim);cases ok with
    | false=>exact Aa5 ⟨rfl,h₃⟩
    | true=>
      exact Aa0 (Aa0 (Af1 h₃ (λ x s₄ h₄=>Aa0 (Af1 h₄ (λ _ s₅ h₅=>Aa5 (Aa5 ⟨rfl,h₅⟩)) λ _ _ f=>f.elim)) λ _ _ f=>f.elim))
section
def PTs (X:Cx) (ifs:List Expr) (tc:TT):Prop:=
  ∀ (pins:List (Addr × Obj)) (s:Shared) (σ:St) (H:Hp) (Q:Bool->Hp->Prop),Inv X pins σ H s->tc σ H Q->
    wpAny (model X.prog X.w) X.A (forIn ifs true λ c r=>if r=true then do let ok <-isTrue c X.env (eval c X.env);pure (ForInStep.yield ok) else pure (ForInStep.yield r)) (TP X pins σ Q) X.xe s
def LX:TT:=λ _ H Q=>Q true H
theorem AL:PTs X [] LX:=λ _ _ _ H _ I h=>wpAny_tests_nil ⟨H,I,h⟩
theorem E3 {c:Expr} (h:PT X c tc):PTs X [c] tc:=λ pins s σ H Q I q=>wpAny_tests_one (h pins s σ H Q I q)
def Kp (σ0 σ:St):Prop:=σ.length=σ0.length/\∀ (i:Nat) (v:V),σ0[i]?=some (some v)->σ[i]?=some (some v)
theorem Kp.refl (σ:St):Kp σ σ:=⟨rfl,λ _ _ h=>h⟩
theorem Kp.set {σ0:St} (k:Kp σ0 σ) (h:σ0[i]?=some none):Kp σ0 (σ.set i (some v)):=by
  refine ⟨by rw [List.length_set];exact k.1,λ j u e=> ?_⟩;by_cases hj:i=j
  · subst hj;rw [h] at e;cases e
  · rw [List.getElem?_set_ne hj];exact k.2 j u e
def EV (J:It) (σ0:St) (g:TG) (tc:TT) (te:TE) (Q:VK) (H1:Hp) (D:Addr):Prop:=
  ∃ W:Nat->Nat->List V->Hp->Prop,(∃ m,W 0 m [] (upd H1 D (.lst [])))/\∀ i m ys H,W i m ys H->
    (J.stop i H/\Q (.ref D) H)\/(J.go i H/\∃ N:List V->Hp->Prop,(∀ ys' H',N ys' H'->∃ m',m'<m/\W (i+1) m' ys' H')/\∀ x H',J.yld i H x H'->g x σ0 H' λ σ2 H2=>Kp σ0 σ2/\tc σ2 H2 λ b H3=>
      if b=true then te σ2 H3 λ y H4=>H4 D=some (.lst ys)/\ys.length<sizeLine/\N (ys++[y]) (upd H4 D (.lst (ys++[y]))) else N ys H3)
def Ke (wi:TI) (own:List Str) (fr:List (Str × Nat)) (g:TG) (tc:TT) (te:TE):TE:=λ σ H Q=>wi σ H λ J H1=>∀ D,H1 D=none->EV J (F3 own fr σ) g tc te Q H1 D
theorem LE {own:List Str} {fr:List (Str × Nat)} {te:TE} (hc:X.calm=true) (S:BlkScope X scope own fr)
    (hg:∀ C ex s H,PG (Bu X scope own fr C ex s H) tg g) (ht:∀ C ex s H,PTs (Bu X scope own fr C ex s H) ifs tc) (he:∀ C ex s H,PE (Bu X scope own fr C ex s H) elt te)
 {fp:List Addr} {tn:Nat->Heap->Prop} {J:It}
    (I:Inv X pins σ H s) (T:Turn X.prog X.w X.K tg J fp it tn) (st:tn 0 s.heap) (hf:∀ b∈fp,Dk X pins H b) {Q:VK}
    (h:∀ D,H D=none->EV J (F3 own fr σ) g tc te Q H D)
    {RR:Value->Addr->Result->Shared->Prop}
    (hR:∀ D C H' s',Inv X pins σ H' s'->(∃ m,s'.heap.Ns C m)->Dk X pins H' C->Q (.ref D) H'->RR (.ref D) C (.ok .next) s'):
    wpAny (model X.prog X.w) X.A (newList []) (λ acc s₃=>wpAny (model X.prog X.w) X.A (newFunctionEnv scope X.env.globals (Bm X.env.cells scope.names []) [] X.env.qual none .none (some X.env)) (λ cenv s₄=>
      codeAny (model X.prog X.w) X.A (.compStart (.ListComp elt [⟨tg,iter,ifs,0⟩] scope pos) 0 (.ref it) acc { cenv with scope:=relabel scope X.env }) (RR acc cenv.locals) s₄) E s₃) E s:=by
  have hDn:H s.heap.objs.size=none:=I.fresh;obtain ⟨W,⟨m0,w0⟩,turn⟩:=h s.heap.objs.size hDn;have I3:Inv X pins σ (upd H s.heap.objs.size (.lst [])) { s with heap:=s.heap.push { cls:= .type "list",data:= .seq ([]:List Value).toArray },toks:=s.toks }:=I.lnew .nil (Ad3 _);refine Ae3 ?_;generalize hs3:({ s with heap:=s.heap.push { cls:= .type "list",data:= .seq ([]:List Value).toArray } }:Shared)=s3 at I3 ⊢;have I3:Inv X pins σ (upd H s.heap.objs.size (.lst [])) s3:=I3;have old3:∀ b o,s.heap.get? b=some o->s3.heap.get? b=some o:=λ b o e=>by rw [<-hs3];exact Aa3 _ e
  have hobj:∀ b∈fp,∃ o,s.heap.get? b=some o/\∀ v,o.data≠ .cell v:=T.obj 0 _ st;have hne:∀ b∈fp,b≠s.heap.objs.size:=λ b hb=>by obtain ⟨o,e,_⟩:=hobj b hb;exact Ab6 (Aa8 e)
  have hf3:∀ b∈fp,Dk X pins (upd H s.heap.objs.size (.lst [])) b:=λ b hb=>⟨by rw [Ai (hne b hb)];exact (hf b hb).1,(hf b hb).2⟩;have hlt3:∀ b∈fp,b<s3.heap.objs.size:=λ b hb=>by obtain ⟨o,e,_⟩:=hobj b hb;exact Aa8 (old3 b o e)
  refine wpAny_newFunctionEnv S.nocell (by intro y hy;simp at hy) (λ h₁ hns hsb=> ?_) S.kind;have keep:∀ b o,s3.heap.get? b=some o->h₁.get? b=some o:=λ b o e=>hsb.extBut b o (Ab6 (Aa8 e)) (Aa3 _ e);have J0:=I3.block (t':=s3.toks+([]:List (Str × Value)).length) S hf3 hlt3 hns keep;have st3:tn 0 h₁:=T.keep 0 _ _ st λ b hb o e=>keep b o (old3 b o e);have loop:codeAny (model X.prog X.w) X.A (.compLoop (.ListComp elt [⟨tg,iter,ifs,0⟩] scope pos) 0 (.ref it) (.ref s.heap.objs.size) (compEnvC scope (Bm X.env.cells scope.names []) s3.heap.objs.size X.env))
      (RR (.ref s.heap.objs.size) s3.heap.objs.size) { s3 with heap:=h₁,toks:=s3.toks+([]:List (Str × Value)).length }:=by
    have stat:∀ {H':Hp},(∀ b∈fp,H' b=none)->∀ b∈fp,Dk (Bu X scope own fr s3.heap.objs.size fp s3 (upd H s.heap.objs.size (.lst []))) [] H' b:=λ {H'} hn b hb=>
      ⟨hn b hb,Ab6 (hlt3 b hb),J0.ok.exfs b hb, .inl hb,(J0.ok.exf b hb).2,λ p hp=>absurd (show p∈([]:List (Addr × Obj)) from hp) (by simp)⟩
    refine K5 (λ n s'=>∃ i ys H',Inv (Bu X scope own fr s3.heap.objs.size fp s3 (upd H s.heap.objs.size (.lst []))) [] (F3 own fr σ) H' s'/\tn i s'.heap/\(∀ b∈fp,H' b=none)/\W i n ys H') ?_ m0
      ⟨0,[],_,J0,st3,λ b hb=>(hf3 b hb).1,w0⟩
    rintro n s4 ⟨i,ys,H4,I4,st4,fr4,w4⟩;rcases turn i n ys H4 w4 with ⟨stop,q⟩ | ⟨go,N,hN,step⟩
    · refine thn (T.done (Bu X scope own fr s3.heap.objs.size fp s3 (upd H s.heap.objs.size (.lst []))) rfl rfl rfl hc i [] s4 _ H4 (λ _ _=>False) I4 (stat fr4) st4 stop) λ r s5 ⟨hr,I5⟩=> ?_;subst hr;obtain ⟨m,hn,_⟩:=id I5.loc;exact hR _ _ H4 s5 (I3.call' I5.os I5.base I5.hok I5.bare λ b hb=>⟨(hf3 b hb).2.2.2.1,(hf3 b hb).2.1,(hf3 b hb).2.2.2.2.1,(hf3 b hb).2.2.2.2.2⟩) ⟨m,hn⟩ (I3.fpOk (Aa7 _) I5.free) q
    · refine thn (T.item (Bu X scope own fr s3.heap.objs.size fp s3 (upd H s.heap.objs.size (.lst []))) rfl rfl rfl hc i [] s4 _ H4 (λ _ _=>False) I4 (stat fr4) st4 go) λ r s5 ⟨u,hr,h5⟩=> ?_;subst hr;refine thn h5 λ _ s6 ⟨x,H6,I6,r6,y6,st6,fr6⟩=> ?_;have I6':=I6.pinned (stat fr6) (T.obj _ _ st6);refine thn (hg _ _ _ _ _ s6 _ H6 x u _ I6' r6 (step x H6 y6)) λ _ s7 ⟨σ7,H7,I7,kp,q7⟩=> ?_;refine thn (ht _ _ _ _ _ s7 σ7 H7 _ I7 q7) λ b s8 ⟨H8,I8,q8⟩=> ?_;have again:∀ {s9:Shared} {H9:Hp} {ys':List V},Inv (Bu X scope own fr s3.heap.objs.size fp s3 (upd H s.heap.objs.size (.lst []))) ([]++IN fp s6.heap) σ7 H9 s9->N ys' H9->
          ∃ m,m<n/\∃ i ys H',Inv (Bu X scope own fr s3.heap.objs.size fp s3 (upd H s.heap.objs.size (.lst []))) [] (F3 own fr σ) H' s9/\tn i s9.heap/\(∀ b∈fp,H' b=none)/\W i m ys H':=λ {s9 H9 ys'} I9 n9=>by
        obtain ⟨m',hm,w9⟩:=hN ys' H9 n9;refine ⟨m',hm,i+1,ys',H9,I9.unpinned.weak kp.1.symm kp.2,T.keep _ _ _ st6 λ b hb o e=>(I9.pin (b,o) (Ac8 _ (Ac8 _ (DO hb e)))).1,λ b hb=> ?_,w9⟩;obtain ⟨o,e,d⟩:=T.obj _ _ st6 b hb;exact (I9.pin (b,o) (Ac8 _ (Ac8 _ (DO hb e)))).2.1
      cases b with
      | false=>
        rw [if_neg Ab1] at q8 ⊢;exact again I8 q8
      | true=>
        rw [if_pos rfl] at q8 ⊢;refine thn (he _ _ _ _ _ s8 σ7 H8 _ I8 q8) λ xv s9 ⟨y,H9,I9,r9,hD,hl,n9⟩=> ?_;refine thn (Bw _ s9 σ7 H9 (.ref s.heap.objs.size) [y] (.ref s.heap.objs.size) [xv] (λ _ H'=>H'=upd H9 s.heap.objs.size (.lst (ys++[y]))) I9 rfl (.cons r9 .nil) ⟨_,ys,y,rfl,rfl,hD,hl,rfl⟩) λ _ s10 ⟨_,H10,I10,_,q10⟩=> ?_;subst q10;exact again I10 n9
  exact codeAny_compStart_list loop (T.self _ 0 _ _ _ st3 loop)
theorem Nl {own:List Str} {fr:List (Str × Nat)} {te:TE} (hc:X.calm=true) (S:BlkScope X scope own fr) (hi:PI X tg iter wi)
    (hg:∀ C ex s H,PG (Bu X scope own fr C ex s H) tg g) (ht:∀ C ex s H,PTs (Bu X scope own fr C ex s H) ifs tc) (he:∀ C ex s H,PE (Bu X scope own fr C ex s H) elt te)
    (hs:∀ x,foldedSetIterable iter X.env x=pure x:=by intro _;rfl):PE X (.ListComp elt [⟨tg,iter,ifs,0⟩] scope pos) (Ke wi own fr g tc te):=by
  intro pins s σ H Q I h;rw [eval_ListComp];refine wpAny_comprehension_free (use:=none) rfl hs (Fd (S.cells I.ok)) S.kind S.loc (thn (hi pins s σ H _ I h) λ xv s₁ h₁=>thn h₁ λ itv s₂ h₂=> ?_);obtain ⟨it,fp,tn,J,H2,rfl,I2,T,st2,f2,h2⟩:=h₂;refine LE (RR:=λ acc C=>compPost (model X.prog X.w) X.A X.xe none (EP X pins σ Q) acc C) hc S hg ht he I2 T st2 f2 h2 ?_;rintro D C H' s' I' ⟨m,hn⟩ f q;exact ⟨m,hn,λ h' sb=>⟨.ref D,H',I'.turned (t':=s'.toks) (it:=C) (λ b o hb e=>(sb.2 b hb).trans e) f.1 f.2.1 f.2.2.2.1 f.2.2.2.2.1 f.2.2.2.2.2,rfl,q⟩⟩
theorem QB {spos:Pos} {own:List Str} {fr:List (Str × Nat)} {te:TE} (hN:X.N.Nodup) (hix:X.N[i]?=some x) (hx:Loc X.env.scope x)
    (hc:X.calm=true) (S:BlkScope X scope own fr) (hi:PI X tg iter wi)
    (hg:∀ C ex s H,PG (Bu X scope own fr C ex s H) tg g) (ht:∀ C ex s H,PTs (Bu X scope own fr C ex s H) ifs tc) (he:∀ C ex s H,PE (Bu X scope own fr C ex s H) elt te)
    (hsw:swapsWith (.ListComp elt [⟨tg,iter,ifs,0⟩] scope pos) (some (.Name x px)) spos.line X.env=pure true:=by rfl)
    (hf:X.fn x=true\/X.env.scope.names.lookup x=some .local:=by first | exact .inl rfl | exact .inr rfl | assumption)
    (hs:∀ x,foldedSetIterable iter X.env x=pure x:=by intro _;rfl):PS X (.Assign [.Name x px] (.ListComp elt [⟨tg,iter,ifs,0⟩] scope pos) spos) (P7 (Ke wi own fr g tc te) (A5 i)):=by
  intro pins s σ H D I h;rw [exec_Assign_Name_used _ _ _ _ hsw];refine Aa0 (wpAny_standAt (Aa0 ?_));show wpAny _ X.A (do let _ <-comprehension (.ListComp elt [⟨tg,iter,ifs,0⟩] scope pos) scope X.env _ (newList []) false (eval iter X.env) (some (assign (.Name x px) X.env))) _ _ s;refine Aa0 (Af1 (wpAny_comprehension_free (use:=some (assign (.Name x px) X.env)) (Q:=λ _ s'=>SP X pins D .next s') rfl hs (Fd (S.cells I.ok)) S.kind S.loc
    (thn (hi pins s σ H _ I h) λ xv s₁ h₁=>thn h₁ λ itv s₂ h₂=> ?_)) (λ _ s' hq=>Aa5 (Aa5 hq)) λ _ _ e=>e)
  obtain ⟨it,fp,tn,J,H2,rfl,I2,T,st2,f2,h2⟩:=h₂;refine LE (Q:=λ x H1=>A5 i x σ H1 D.nx) (RR:=λ acc C=>compPost (model X.prog X.w) X.A X.xe (some (assign (.Name x px) X.env)) (λ _ s'=>SP X pins D .next s') acc C) hc S hg ht he I2 T st2 f2 h2 ?_;rintro Dl C H' s' I' ⟨m,hn⟩ f q;obtain ⟨o,es,ep,ho,hd,r⟩:=hn;have pinC:∀ v,o.data≠ .cell v:=λ v z=>by rw [hd] at z;cases z
  have I'':Inv X (pins++[(C,o)]) σ H' s':=I'.pins_of λ p hp=>(List.mem_append.mp hp).elim (λ z=>I'.pin p (Ac8 _ z)) λ z=>by
    have e:p=(C,o):=by simpa using z
    subst e;exact ⟨ho,f.1,f.2.1,f.2.2.1,pinC⟩
  show wpAny _ X.A (assign (.Name x px) X.env (.ref Dl)) _ _ s';refine wpAny_assign_Name (DE I'' hN hix hx (v:= .ref Dl) rfl (λ s2 I2=> ?_) hf);have pc:=(I2.pin (C,o) (Ac8 _ (Ac8 _ (by simp)))).1;refine ⟨m,⟨o,es,ep,pc,hd,r⟩,λ h' sb=>⟨_,H',?_,q⟩⟩;exact (I2.unpinned (pl:=[(C,o)])).turned (t':=s2.toks) (it:=C) (λ b o hb e=>(sb.2 b hb).trans e) f.1 f.2.1 f.2.2.2.1 f.2.2.2.2.1 f.2.2.2.2.2
end
section
theorem Hd:∀ {ns:List Int} {l:List (Int × Tok)},Vals (ns.map V.int) (l.map λ p=>Value.int p.1 p.2)->l.map (·.1)=ns
  | [],[],_=>rfl
  | n::ns,p::l,r=>by
    cases r with
    | cons r1 r2=>
      obtain ⟨t,e⟩:=r1;injection e with e1 e2;rw [Ag9,Hd r2,e1]
  | [],_::_,r=>by cases r
  | _::_,[],r=>by cases r
theorem Oi (hc:X.calm=true):BY X (.builtin "sum") (λ xs H Q=>∃ (p:Addr) (ns:List Int),xs=[.ref p]/\SqL X.K H p (ns.map V.int)/\Q (.int ns.sum) H):=by
  intro pins s σ H xs us Q I r h;obtain ⟨p,ns,rfl,hq,q⟩:=h;obtain ⟨u,rfl,rx⟩:=FZ r;cases rx;obtain ⟨its,rv,pl,_⟩:=I.list hq;obtain ⟨ps,e⟩:=(IntsAre.allInts (IR rv)).items;have e':its=ps.toList.map λ p=>Value.int p.1 p.2:=by
    have:=congrArg Array.toList e;simpa [intItems] using this
  have hl:=pl.isList;rw [e] at hl;refine sum_intListG (I.ok.hd hc) hl λ h' tk t' hk=> ?_;have es:preSum (numAt ps) ps.size=ns.sum:=by
    rw [preSum_eq,Af5 (by simp),Hd (ns:=ns) (l:=ps.toList) (by rw [<-e'];exact rv)]
  rw [es];exact ⟨.int ns.sum,H,I.kept hk,⟨t',rfl⟩,q⟩
theorem NC (bs:List Bool):(Aa9 bs.length).all (λ i=>bs.getD i true)=bs.all id:=by
  rw [Ad0,List.all_eq_true,List.all_eq_true];constructor
  · intro h b hb;obtain ⟨i,hi,rfl⟩:=List.getElem_of_mem hb;have:=h i (by simpa using hi);rw [Aa2,Aa4 hi] at this;exact this
  · intro h i hi;have hi:i<bs.length:=by simpa using hi
    rw [Aa2,Aa4 hi];exact h _ (Ag6 hi)
theorem Py (hc:X.calm=true):BY X (.builtin "all") (λ xs H Q=>∃ (p:Addr) (bs:List Bool),xs=[.ref p]/\SqL X.K H p (bs.map V.bl)/\Q (.bl (bs.all id)) H):=by
  intro pins s σ H xs us Q I r h;obtain ⟨p,bs,rfl,hq,q⟩:=h;obtain ⟨u,rfl,rx⟩:=FZ r;cases rx;obtain ⟨its,rv,pl,_⟩:=I.list hq;have hl:=rv.length;rw [Aa1] at hl;obtain ⟨o,ho,_⟩:=id pl.isList;have hne:p≠s.heap.objs.size:=Ab6 (Aa8 ho);refine call_all_walk (wpAny_pyIter_list pl.isList ?_);refine ⟨s.heap.objs.size,_,_,_,_,_,λ i=>bs.getD i true,rfl,Walks.list (A:=X.A.in1) (I.ok.hd hc) _ p hne its.toArray,⟨⟨_,Aa6 _ rfl,rfl,rfl⟩,pl.isList.at λ o e=>Aa3 _ e⟩,?_,λ h' tk hk=> ?_⟩
  · intro i v s' Q' E' hv hQ';have hv:its[i]?=some v:=by simpa using hv
    have hi:i<bs.length:=by rw [hl];exact (Ad4.mp hv).1
    obtain ⟨u,hu,ru⟩:=rv.get (i:=i) (x:= .bl (bs.getD i true)) (by rw [Ac4,Aa2,Aa4 hi];rfl);rw [hu] at hv;cases hv;cases ru;exact Ag8 hQ'
  · have e:its.toArray.size=bs.length:=by rw [Ab0];exact hl.symm
    rw [e,NC];exact ⟨.bl _,H,I.kept λ b o e=>hk b o (λ z=>by simp at z;exact absurd (Aa8 e) (by rw [z];exact Nat.lt_irrefl _)) (Aa3 _ e),rfl,q⟩
theorem LP:BY X (.builtin "isinstance") (λ xs H Q=>∃ x n t b,xs=[x, .ty n]/\TyOf X.K H x t/\PySem.W.kitOne X.K t (.type n)=some b/\Q (.bl b) H):=by
  intro pins s σ H xs us Q I r h;obtain ⟨x,n,t,b,rfl,ty,e,q⟩:=h;obtain ⟨u,c,rfl,rx,rc⟩:=RE r;cases rc;exact N5 I rx ty e λ tk=>⟨.bl b,H,I.tok tk,rfl,q⟩
def ON (K:PySem.W.Frag):R2:=λ x y H Q=>∃ l b xs zs,x= .ref l/\y= .ref b/\SqL K H l xs/\SqL K H b zs/\xs.length+zs.length<=sizeLine/\∀ p,H p=none->Q (.ref p) (upd H p (.lst (xs++zs)))
theorem Ry:OpR X (binaryOp .Add) (ON X.K):=by
  intro pins s σ H x y v u Q I rx ry h;obtain ⟨l,b,xs,zs,rfl,rfl,hH,hB,hz,q⟩:=h;cases rx;cases ry;obtain ⟨its,r,pl,_⟩:=I.list hH;obtain ⟨its2,r2,pl2,_⟩:=I.list hB;have h1:=r.length;have h2:=r2.length;obtain ⟨⟨cls,dd,data,sl⟩,n,ho,hc,hdd,hd⟩:=pl;obtain ⟨⟨cls2,dd2,data2,sl2⟩,n2,ho2,hc2,hdd2,hd2⟩:=pl2;simp only at hc hdd hd hc2 hdd2 hd2;subst hc hdd hd hc2 hdd2 hd2;refine concat_meets ⟨_,ho,rfl⟩ ⟨_,ho2,rfl⟩ noFill_list_add seq_list_add PySem.F.slot_list_add PySem.F.entry_list_add (PySem.F.args_list_add_2 _ _) (list_addW l b its.toArray its2.toArray n n2 none none sl sl2 (by rw [Ab0,Ab0];omega)) ⟨ho,ho2,?_⟩;have e:its.toArray++its2.toArray=(its++its2).toArray:=by simp
  rw [e];exact ⟨.ref _,_,I.lnew (t':=s.toks) (r.append r2) (by rw [Ac0];omega),rfl,q _ I.fresh⟩
def Gn (xs ys:List V):Bool:=xs.length == ys.length&&(Aa9 xs.length).all λ i=>eqV (xs.getD i .non) (ys.getD i .non)
theorem JO (h:xs.all B5=true) (hi:i<xs.length):B5 (xs.getD i .non)=true:=by
  rw [Aa2,Aa4 hi];exact (List.all_eq_true.mp h) _ (Ag6 hi)
def LT (K:PySem.W.Frag) (neg:Bool):R2:=λ x y H Q=>∃ p q xs ys,x= .ref p/\y= .ref q/\SqL K H p xs/\SqL K H q ys/\xs.all B5=true/\ys.all B5=true/\Q (.bl (if neg then !Gn xs ys else Gn xs ys)) H
theorem IF {its2:List Value} (r:Vals xs its) (r2:Vals ys its2) (fx:xs.all B5=true) (fy:ys.all B5=true):
    ∀ j (h1:j<its.toArray.size) (h2:j<its2.toArray.size),SeqAt.EqAt A s its.toArray[j] its2.toArray[j] (eqV (xs.getD j .non) (ys.getD j .non)):=λ j h1 h2=>by
  have l1:=r.length;have l2:=r2.length;have h1':j<its.length:=by simpa using h1
  have h2':j<its2.length:=by simpa using h2
  have g1:xs[j]?=some (xs.getD j .non):=by rw [Aa2,Aa4 (by omega)];rfl
  have g2:ys[j]?=some (ys.getD j .non):=by rw [Aa2,Aa4 (by omega)];rfl
  obtain ⟨u,e1,ru⟩:=r.get g1;obtain ⟨u2,e2,ru2⟩:=r2.get g2;have q1:its.toArray[j]=u:=by rw [Aa4 h1'] at e1;simpa using Ae2.inj e1
  have q2:its2.toArray[j]=u2:=by rw [Aa4 h2'] at e2;simpa using Ae2.inj e2
  rw [q1,q2];exact Pg ru ru2 (JO fx (by omega)) (JO fy (by omega))
theorem S6 (hu:X.A.units<cLine):OpR X (compareOp .Eq) (LT X.K false):=by
  intro pins s σ H x y v u Q I rx ry h;obtain ⟨p,q,xs,ys,rfl,rfl,h1,h2,fx,fy,hq⟩:=h;cases rx;cases ry;obtain ⟨its,r,pl,_⟩:=I.list h1;obtain ⟨its2,r2,pl2,_⟩:=I.list h2;have l1:=r.length;have l2:=r2.length;by_cases hl:xs.length=ys.length
  · refine SeqAt.eq_listAt pl.isList pl2.isList (by simp;omega) hu (IF r r2 fx fy) ⟨.bl _,H,I,rfl,?_⟩;have e:Gn xs ys=(Aa9 its.toArray.size).all λ i=>eqV (xs.getD i .non) (ys.getD i .non):=by
      unfold Gn;rw [hl,beq_self_eq_true,Bool.true_and,Ab0, <-l1,hl]
    rw [<-e];exact hq
  · refine SeqAt.eq_list_lengthsAt pl.isList pl2.isList (by simp;omega) hu ⟨.bl _,H,I,rfl,?_⟩;have e:Gn xs ys=false:=by unfold Gn;rw [beq_eq_false_iff_ne.mpr hl,Bool.false_and]
    rw [<-e];exact hq
theorem TH (hu:X.A.units<cLine):OpR X (compareOp .NotEq) (LT X.K true):=by
  intro pins s σ H x y v u Q I rx ry h;obtain ⟨p,q,xs,ys,rfl,rfl,h1,h2,fx,fy,hq⟩:=h;cases rx;cases ry;obtain ⟨its,r,pl,_⟩:=I.list h1;obtain ⟨its2,r2,pl2,_⟩:=I.list h2;have l1:=r.length;have l2:=r2.length;by_cases hl:xs.length=ys.length
  · refine SeqAt.RcNeAt.lists pl.isList pl2.isList (by simp;omega) hu (IF r r2 fx fy) _ _ _ _ ⟨.bl _,H,I,rfl,?_⟩;have e:Gn xs ys=(Aa9 its.toArray.size).all λ i=>eqV (xs.getD i .non) (ys.getD i .non):=by
      unfold Gn;rw [hl,beq_self_eq_true,Bool.true_and,Ab0, <-l1,hl]
    rw [<-e];exact hq
  · refine SeqAt.RcNeAt.lists_lengths pl.isList pl2.isList (by simp;omega) hu _ _ _ _ ⟨.bl _,H,I,rfl,?_⟩;have e:Gn xs ys=false:=by unfold Gn;rw [beq_eq_false_iff_ne.mpr hl,Bool.false_and]
    rw [e] at hq;exact hq
theorem Rg {α:Type} [DecidableEq α] (f:α->V) (hf:∀ a b,eqV (f a) (f b)=decide (a=b)) (as bs:List α):Gn (as.map f) (bs.map f)=decide (as=bs):=by
  unfold Gn;rw [Ad0,Ad9,List.all_eq_true,decide_eq_true_iff,beq_iff_eq,Aa1,Aa1];constructor
  · rintro ⟨h1,h2⟩;refine Ah7 h1 λ i g1 g2=> ?_;have:=h2 i (by simpa using g1);rw [Aa2,Aa2,Ac4,Ac4,Aa4 g1,Aa4 g2] at this;have:=(hf _ _).symm.trans this;exact of_decide_eq_true this
  · rintro rfl;refine ⟨rfl,λ i hi=> ?_⟩;have hi:i<as.length:=by simpa using hi
    rw [Aa2,Ac4,Aa4 hi];show eqV (f as[i]) (f as[i])=true;rw [hf];exact decide_eq_true rfl
theorem LN (as bs:List Int):Gn (as.map V.int) (bs.map V.int)=decide (as=bs):=Rg V.int (λ a b=>by show (a == b)=_;rw [Ad0,beq_iff_eq,decide_eq_true_iff]) as bs
theorem Ge (as:List Int):(as.map V.int).all B5=true:=by simp [B5]
end
def CallF (P:Program) (w:World) (K:PySem.W.Frag) (mg:Str->Option Value) (base:Heap) (x:Str) (k:Nat) (ps:List Str) (sp:Sp):Prop:=
  ∃ f fd,mg x=some (.ref f)/\PySem.W.keepIn K (.ref f)=true/\FnOk P w K mg base CX0 k f fd ps sp/\Binds K fd ps []
section
variable {k:Nat} {t:TA} {p:Pos}
theorem Ae (h:CallF X.prog X.w X.K X.mg X.base x k ps sp) (hr:Room k X.A) (ha:PA X (e::es) t) (hg:Gl X x:=by rfl) (hdb:(x == ("__debug__":Str))=false:=by decide)
    (he:starEach (e::es) X.env=(false,eval e X.env)::starEach es X.env:=by rfl) (hpl:(backTo pos (starEach es X.env)).any (·.1)=false:=by rfl):
    PE X (.Call (.Name x p) (e::es) [] pos) (Ly sp [] E0 t):=by
  obtain ⟨f,fd,hm,hk,F,hb⟩:=h;exact Qm F hr hg hm hk hb .nil MI ha hdb he hpl
end
structure DefAt (K:PySem.W.Frag) (mg:Str->Option Value) (x:Str) (st:Stmt) (ps:List Str) (f:Addr) (fd:FuncData):Prop where
  fn:Fun K x x st f fd
  at':mg x=some (.ref f)
  bi:Binds K fd ps []
theorem DefAt.call {K:PySem.W.Frag} {base:Heap} {st:Stmt} {f:Addr} {k:Nat} (d:DefAt K mg x st ps f fd)
    (F:FnOk P w K mg base CX0 k f fd ps sp):CallF P w K mg base x k ps sp:=⟨f,fd,d.at',d.fn.kp,F,d.bi⟩
def PQ:V->Bool | .int _=>true | _=>false
def R6:V->Bool | .bl _=>true | _=>false
def Ty (K:PySem.W.Frag) (H:Hp) (x:V):Prop:=∃ n,TyOf K H x (.type n)
def DV (n T:String):Option Bool:=if (Value.type n == Value.type T)=true then some true else if PySem.W.kitMeta T=true then (fastBuiltinMro n).map (·.contains (.type T)) else none
section
variable {K:PySem.W.Frag} {x:V} {n:String}
theorem kb {n:String} (h:DV n T=some b):PySem.W.kitOne K (.type n) (.type T)=some b:=h
theorem QW (h:TyOf K H x (.type n)):PySem.W.kitOne K (.type n) (.type "int")=some (PQ x||R6 x):=by
  cases h <;> first
    | exact (show PySem.W.kitOne K _ _=some true from kb (by decide +kernel))
    | exact (show PySem.W.kitOne K _ _=some false from kb (by decide +kernel))
theorem P0 (h:TyOf K H x (.type n)):PySem.W.kitOne K (.type n) (.type "bool")=some (R6 x):=by
  cases h <;> first
    | exact (show PySem.W.kitOne K _ _=some true from kb (by decide +kernel))
    | exact (show PySem.W.kitOne K _ _=some false from kb (by decide +kernel))
end
section
def Own (mg:Str->Option Value) (names:List Str):Prop:=∀ x∈names,mg x=none
theorem DF:bootBuiltins "all"=some (.builtin "all"):=by decide +kernel
theorem BR (hg:Gl X x) (hm:X.mg x=none) (hv:bootBuiltins x=some (.type T)) (hn:x≠"__name__":=by decide) (hd:(x == ("__debug__":Str))=false:=by decide):PE X (.Name x pos) (tC (.ty T)):=
  Qp hg hm hv (show RelV (.ty T) (.type T) from rfl) hn hd
end
def Hj (N:List Str) (scope:Scope):List (Str × Nat):=scope.names.filterMap λ y=>if y.2= .free then (N.findIdx? λ n=>decide (n=y.1)).map λ i=>(y.1,i) else none
def FH (sc:Scope) (N:List Str) (scope:Scope) (own:List Str) (fr:List (Str × Nat)):Bool:=
  decide (scope.kind= .function)&&
  (scope.names.all λ y=>decide (y.2≠ .cell)&&(decide (y.2≠ .local)||decide (scope.names.lookup y.1=some .local))&&
    (decide (y.2≠ .free)||((decide (sc.names.lookup y.1=some .cell)||decide (sc.names.lookup y.1=some .free))&&decide (scope.names.lookup y.1=some .free))))&&
  (fr.all λ p=>decide (N[p.2]?=some p.1)&&decide ((p.1,NameKind.free)∈scope.names))&&
  (own.all λ x=>decide (scope.names.lookup x=some .local))&&decide ((own++fr.map (·.1)).Nodup)
section
variable {own:List Str} {fr:List (Str × Nat)}
theorem BlkScope.of (h:FH X.env.scope X.N scope own fr=true):BlkScope X scope own fr:=by
  unfold FH at h;simp only [Ad9,List.all_eq_true,decide_eq_true_iff,Bool.or_eq_true] at h;obtain ⟨⟨⟨⟨h1,h2⟩,h3⟩,h4⟩,h5⟩:=h;exact ⟨h1,λ y hy=>(h2 y hy).1.1,λ y hy e=>(h2 y hy).1.2.resolve_left (λ z=>z e),λ y hy e=>((h2 y hy).2.resolve_left (λ z=>z e)).1,λ p hp=>h3 p hp,λ x hx=>((h2 _ hx).2.resolve_left (λ z=>z rfl)).2⟩
theorem NR (h:FH X.env.scope X.N scope own fr=true):(∀ x∈own,scope.names.lookup x=some .local)/\(own++fr.map (·.1)).Nodup:=by
  unfold FH at h;simp only [Ad9,List.all_eq_true,decide_eq_true_iff,Bool.or_eq_true] at h;exact ⟨h.1.2,h.2⟩
theorem KI (h:FH X.env.scope X.N scope own fr=true) (hi:own[i]?=some x) (C:Addr) (ex:List Addr) (s:Shared) (H:Hp):PG (Bu X scope own fr C ex s H) (.Name x px) (A5 i):=by
  obtain ⟨h1,h2⟩:=NR h;have hl:(relabel scope X.env).names.lookup x=some .local:=lookup_relabel_local (h1 x (List.mem_of_getElem? hi));have hlt:=(Ad4.mp hi).1;refine AV h2 ?_ (.inl hl) (.inr hl);show (own++fr.map (·.1))[i]?=some x;rw [Af0 hlt];exact hi
theorem AO {te:TE} (hi:PI X (.Name x px) iter wi)
    (ht:∀ C ex s H,PTs (Bu X scope [x] (Hj X.N scope) C ex s H) ifs tc) (he:∀ C ex s H,PE (Bu X scope [x] (Hj X.N scope) C ex s H) elt te)
    (hb:FH X.env.scope X.N scope [x] (Hj X.N scope)=true:=by with_unfolding_all rfl) (hc:X.calm=true:=by rfl)
    (hs:∀ x,foldedSetIterable iter X.env x=pure x:=by intro _;rfl):PE X (.ListComp elt [⟨.Name x px,iter,ifs,0⟩] scope pos) (Ke wi [x] (Hj X.N scope) (A5 0) tc te):=
  Nl hc (.of hb) hi (λ C ex s H=>KI hb rfl C ex s H) ht he hs
theorem CM {y:Str} {py spos:Pos} {te:TE} (hN:X.N.Nodup) (hix:X.N[i]?=some y) (hx:Loc X.env.scope y) (hi:PI X (.Name x px) iter wi)
    (ht:∀ C ex s H,PTs (Bu X scope [x] (Hj X.N scope) C ex s H) ifs tc) (he:∀ C ex s H,PE (Bu X scope [x] (Hj X.N scope) C ex s H) elt te)
    (hb:FH X.env.scope X.N scope [x] (Hj X.N scope)=true:=by with_unfolding_all rfl) (hc:X.calm=true:=by rfl)
    (hsw:swapsWith (.ListComp elt [⟨.Name x px,iter,ifs,0⟩] scope pos) (some (.Name y py)) spos.line X.env=pure true:=by rfl)
    (hf:X.fn y=true\/X.env.scope.names.lookup y=some .local:=by first | exact .inl rfl | exact .inr rfl | assumption)
    (hs:∀ x,foldedSetIterable iter X.env x=pure x:=by intro _;rfl):
    PS X (.Assign [.Name y py] (.ListComp elt [⟨.Name x px,iter,ifs,0⟩] scope pos) spos) (P7 (Ke wi [x] (Hj X.N scope) (A5 0) tc te) (A5 i)):=
  QB hN hix hx hc (.of hb) hi (λ C ex s H=>KI hb rfl C ex s H) ht he hsw hf hs
theorem S3 {σ:L2.St} {A B:Hp->Prop} (h:A H):LX σ H (λ b H3=>if b=true then A H3 else B H3):=by
  show (if true=true then A H else B H);exact DI h
end
def Oz (K:PySem.W.Frag):List V->Hp->VK->Prop:=λ xs H Q=>∃ x n,xs=[x]/\Ua K x H n/\Q (.int n) H
def WW (K:PySem.W.Frag):List V->Hp->VK->Prop:=λ xs H Q=>∃ (p:Addr) (ns:List Int),xs=[.ref p]/\SqL K H p (ns.map V.int)/\Q (.int ns.sum) H
def YN (K:PySem.W.Frag):List V->Hp->VK->Prop:=λ xs H Q=>∃ (p:Addr) (bs:List Bool),xs=[.ref p]/\SqL K H p (bs.map V.bl)/\Q (.bl (bs.all id)) H
def R7 (K:PySem.W.Frag):List V->Hp->VK->Prop:=λ xs H Q=>∃ x n t b,xs=[x, .ty n]/\TyOf K H x t/\PySem.W.kitOne K t (.type n)=some b/\Q (.bl b) H
def FK (K:PySem.W.Frag):List V->Hp->VK->Prop:=λ xs H Q=>∃ p ys,xs=[.ref p]/\(SqL K H p ys\/SqT K H p ys)/\∀ l,H l=none->Q (.ref l) (upd H l (.lst ys))
def Ll (K:PySem.W.Frag):List V->Hp->VK->Prop:=λ xs H Q=>∃ p ys,xs=[.ref p]/\((SqL K H p ys/\∀ l,H l=none->Q (.ref l) (upd H l (.tup ys)))\/(SqT K H p ys/\Q (.ref p) H))
section
variable {K:PySem.W.Frag}
theorem BA (hK:X.K=K:=by rfl):BY X (.builtin "len") (Oz K):=by subst hK;exact PD
theorem RA (hK:X.K=K:=by rfl) (hc:X.calm=true:=by rfl):BY X (.builtin "sum") (WW K):=by subst hK;exact Oi hc
theorem K7 (hK:X.K=K:=by rfl) (hc:X.calm=true:=by rfl):BY X (.builtin "all") (YN K):=by subst hK;exact Py hc
theorem Bx (hK:X.K=K:=by rfl):BY X (.builtin "isinstance") (R7 K):=by subst hK;exact LP
theorem BD (hK:X.K=K:=by rfl):BY X (.type "list") (FK K):=by subst hK;exact KS
theorem BN (hK:X.K=K:=by rfl):BY X (.type "tuple") (Ll K):=by subst hK;exact Jw
theorem A6 (hK:X.K=K:=by rfl):IxR X (Td K):=by subst hK;exact QP
theorem AN (hK:X.K=K:=by rfl):IxR X (SM K):=by subst hK;exact S8
theorem SL (hK:X.K=K:=by rfl):OpR X (compareOp .In) (rIn K false):=by subst hK;exact Oh
theorem QE (hK:X.K=K:=by rfl):OpR X (compareOp .NotIn) (rIn K true):=by subst hK;exact Kx
theorem IE (hK:X.K=K:=by rfl):OpR X (binaryOp .Add) (ON K):=by subst hK;exact Ry
theorem UM (hu:X.A.units<cLine) (hK:X.K=K:=by rfl):OpR X (compareOp .Eq) (LT K false):=by subst hK;exact S6 hu
theorem W7 (hu:X.A.units<cLine) (hK:X.K=K:=by rfl):OpR X (compareOp .NotEq) (LT K true):=by subst hK;exact TH hu
theorem R9 (hK:X.K=K:=by rfl):SlR X (Tl K):=by subst hK;exact Nj
theorem BJ {l:Expr} {tl:TE} (hl:PE X l tl) (hK:X.K=K:=by rfl):PI X tg l (Nt K tl):=by subst hK;exact QX hl
theorem Ka {l:Expr} {tl:TE} (hl:PE X l tl) (hK:X.K=K:=by rfl):PI X tg l (TJ K tl):=by subst hK;exact SJ hl
end
section
theorem Inv.turnedL (ch:List Addr) (I:Inv X pins σ H s) (hf:∀ b∈ch,Dk X pins H b) (k:∀ b o,b∉ch->s.heap.get? b=some o->h'.get? b=some o):Inv X pins σ H { s with heap:=h',toks:=t' }:=by
  have nit:∀ b u,H b=some u->b∉ch:=λ b u e z=>by rw [(hf b z).1] at e;cases e
  refine I.step (g':=s.gens) (d':=s.drawn) (ch:=ch) (λ b hb=> ?_) (λ b o _ _ hc e _=>k b o hc e) (λ b o _ _ hc e _=>⟨o.slots,k b o hc e⟩) (λ _ _ _ _ n=>n)
    (λ b o hc e=>⟨o,k b o hc e⟩) (λ _ _ e=>e) (λ _ _ _ e=>e) (λ b ps e=>⟨#[],by rw [e];simp⟩) (λ m hm=> ?_) (λ b u e=> ?_) I.bare
  · obtain ⟨f0,f1,f2,f3,f4,f5⟩:=hf b hb;exact ⟨f3,f1,f4,f5⟩
  · obtain ⟨o,es,ep,ho,r⟩:=hm;exact ⟨o,es,ep,k _ o (λ z=>(hf _ z).2.1 rfl) ho,r⟩
  · refine (I.hok b u e).stay (λ c v hc q=>k c v ?_ q) (λ _ q=>q) λ _ _ q=>q;rcases hc with z | z
    · rw [z];exact nit b u e
    · exact nit c _ z
end
def Ite (K:PySem.W.Frag) (a:Addr):It:=
  ⟨λ i H=>∃ xs x,SqL K H a xs/\xs[i]?=some x,λ i H v H'=>∃ p x,H p=none/\v= .ref p/\H'=upd H p (.tup [.int i,x])/\∀ xs,SqL K H a xs->xs[i]?=some x,λ i H=>∃ xs,SqL K H a xs/\xs.length<=i⟩
theorem EE {b:Addr} (h:Dk X pins H b) (n:b≠p):Dk X pins (upd H p o) b:=⟨by rw [Ai n];exact h.1,h.2⟩
theorem N6 {K:PySem.W.Frag} {k:Nat} (a e it:Addr) (hne:e≠it):
    Turn P w K (.Tuple elts k pos) (Ite K a) [e,it] e (λ i h=>(∃ old,IsEnum h e it i old)/\h.IsListIter it a i) where
  mem:=by simp
  obj:=λ i h st b hb=>by
    obtain ⟨⟨old,he⟩,o,eo,c,d⟩:=st;rcases Ab2.mp hb with z | z
    · subst z;exact ⟨_,he,λ v z=>by cases (show Data.fields _=Data.cell v from z)⟩
    · have z:b=it:=by simpa using z
      subst z;exact ⟨o,eo,λ v z=>by rw [d] at z;cases z⟩
  keep:=λ i h h' st kp=>by
    obtain ⟨⟨old,he⟩,hi⟩:=st;exact ⟨⟨old,kp e (by simp) _ he⟩,hi.at λ o z=>kp it (by simp) o z⟩
  item:=by
    intro X hP hw hK hc i pins s σ H E I hf st hg;subst hP hw hK;obtain ⟨xs,x,hq,hx⟩:=hg;obtain ⟨its,rv,p,hz⟩:=I.list hq;obtain ⟨u,hu,ru⟩:=rv.get hx;obtain ⟨⟨old,he⟩,hi⟩:=st;have hel:e<s.heap.objs.size:=Aa8 he;have hil:it<s.heap.objs.size:=by obtain ⟨_,z,_⟩:=hi;exact Aa8 z
    refine wpAny_pyNext_enum_item he hi p.isList (x:=u) (by simpa using hu) hne λ h' ho hi' hT hsz hk=> ?_;have I0:=I.laid (h':=s.heap.push { cls:= .type "tuple",data:= .seq #[.int i s.toks,u] }) (a:=s.heap.objs.size) (o:= .tup [.int i,x]) (t':=s.toks+1) (λ _ _ q=>Aa3 _ q) (Aa7 _)
      ⟨(by show 2<=sizeLine;decide),[.int i s.toks,u], .cons ⟨_,rfl⟩ (.cons ru .nil),⟨_,Aa6 _ rfl,rfl,_,rfl⟩⟩
    have f0:∀ b∈[e,it],Dk X pins (upd H s.heap.objs.size (.tup [.int i,x])) b:=λ b hb=>EE (hf b hb) (by
      rcases Ab2.mp hb with z | z
      · rw [z];exact Ab6 hel
      · rw [show b=it by simpa using z];exact Ab6 hil)
    have I1:=Inv.turnedL (t':=s.toks+1) (h':=h') [e,it] I0 f0 (λ b o hb z=>by
      have hb1:b≠e:=λ q=>hb (by simp [q]);have hb2:b≠it:=λ q=>hb (by simp [q]);rcases Ah2 (show (s.heap.push { cls:= .type "tuple",data:= .seq #[.int i s.toks,u] }).get? b=some o from z) with ⟨q1,q2⟩ | q
      · rw [q1,q2];exact hT
      · exact hk b o hb1 hb2 q)
    refine ⟨.ref s.heap.objs.size,rfl,wpAny_letOwnedTupleGo_enum (s:={ s with heap:=h',toks:=s.toks+1 }) ho λ h2 he2 sb=> ?_⟩;refine ⟨.ref s.heap.objs.size,_,Inv.turnedL (t':=s.toks+1) (h':=h2) [e,it] I1 f0 (λ b o hb z=>(sb.2 b λ q=>hb (by simp [q])).trans z),rfl,⟨_,x,I.fresh,rfl,rfl,λ ys hy=>by rw [I.list_inj hy hq];exact hx⟩,⟨⟨u,by simpa using he2⟩,hi'.at λ o z=>(sb.2 it hne.symm).trans z⟩,λ b hb=>(f0 b hb).1⟩
  done:=by
    intro X hP hw hK hc i pins s σ H E I hf st hg;subst hP hw hK;obtain ⟨xs,hq,hx⟩:=hg;obtain ⟨its,rv,p,hz⟩:=I.list hq;obtain ⟨⟨old,he⟩,hi⟩:=st;have hl:=rv.length;exact wpAny_pyNext_enum_end (I.ok.hd hc) he hi p.isList (by simp;omega) λ h' eb=>⟨rfl,I.turnedL (t':=s.toks) [e,it] hf λ b o hb z=>eb b o (λ q=>hb (by simp [q])) z⟩
  self:=λ _ _ _ _ _ st h=>by
    obtain ⟨⟨old,he⟩,_⟩:=st;exact wpAny_pyIter_enum he h
section
variable {k:Nat} {tpos:Pos} {K:PySem.W.Frag}
def RX (K:PySem.W.Frag) (ta:TA):TI:=λ σ H R=>ta σ H λ vs H1=>∃ a,vs=[.ref a]/\(∃ xs,SqL K H1 a xs)/\R (Ite K a) H1
theorem Gy:bootBuiltins "enumerate"=some (.type "enumerate"):=by decide +kernel
theorem IG:bootBuiltins "zip"=some (.type "zip"):=by decide +kernel
theorem MY {l:Expr} {ta:TA} {p:Pos} (hg:Gl X "enumerate") (hm:X.mg "enumerate"=none) (ha:PA X [l] ta) (hK:X.K=K:=by rfl) (hs:starEach [l] X.env=[(false,eval l X.env)]:=by rfl):PI X (.Tuple elts k tpos) (.Call (.Name "enumerate" p) [l] [] pos) (RX K ta):=by
  subst hK;intro pins s σ H R I h;refine Call_ (Cd I hg hm Gy (PyProof.Rows.callWith_type1 (thn (ha pos pins s σ H _ I h) λ us s1 ⟨vs,H1,I1,r1,q1⟩=> ?_) hs rfl));obtain ⟨a,e,⟨xs,hq⟩,q⟩:=q1;subst e;cases r1 with
  | cons r rr=>
    cases rr;cases r;obtain ⟨its,rv,pl,hz⟩:=I1.list hq;refine call_enumerate_list pl.isList λ h' he hi hsz hk=> ?_;refine wpAny_pyIter_enum he ?_;have I2:=I1.kept (t':=s1.toks) hk;refine ⟨s1.heap.objs.size+1,[s1.heap.objs.size+1,s1.heap.objs.size],_,_,H1,rfl,I2,N6 a _ _ (Nat.succ_ne_self _),⟨⟨_,he⟩,hi⟩,λ b hb=> ?_,q⟩;have hb':s1.heap.objs.size<=b:=by
      rcases Ab2.mp hb with z | z
      · rw [z];exact Nat.le_succ _
      · have z:b=s1.heap.objs.size:=by simpa using z
        rw [z];exact Aa7 _
    exact I1.fpOk hb' (I1.hok.fresh hb')
end
def By (tp:Bool) (h:Heap) (it l:Addr) (i:Nat):Prop:=if tp=true then h.IsTupleIter it l i else h.IsListIter it l i
def A8 (tp:Bool) (h:Heap) (l:Addr) (xs:Array Value):Prop:=if tp=true then h.IsTuple l xs else h.IsList l xs
theorem An {tp:Bool} (x:By tp h it l i) (k:∀ o,h.get? it=some o->h'.get? it=some o):By tp h' it l i:=by
  cases tp with
  | false=>obtain ⟨o,e,r⟩:=(show h.IsListIter it l i from x);exact (show h'.IsListIter it l i from ⟨o,k o e,r⟩)
  | true=>obtain ⟨o,e,r⟩:=(show h.IsTupleIter it l i from x);exact (show h'.IsTupleIter it l i from ⟨o,k o e,r⟩)
theorem AX {tp:Bool} {xs:Array Value} (x:A8 tp h l xs) (k:∀ o,h.get? l=some o->h'.get? l=some o):A8 tp h' l xs:=by
  cases tp with
  | false=>obtain ⟨o,e,r⟩:=(show h.IsList l xs from x);exact (show h'.IsList l xs from ⟨o,k o e,r⟩)
  | true=>obtain ⟨o,e,r⟩:=(show h.IsTuple l xs from x);exact (show h'.IsTuple l xs from ⟨o,k o e,r⟩)
theorem A4 {tp:Bool} (x:By tp h it l i):∃ o,h.get? it=some o/\o.data= .fields #[.ref l, .int i 0]:=by
  cases tp with
  | false=>obtain ⟨o,e,_,d⟩:=(show h.IsListIter it l i from x);exact ⟨o,e,d⟩
  | true=>obtain ⟨o,e,_,d⟩:=(show h.IsTupleIter it l i from x);exact ⟨o,e,d⟩
theorem BQ {tp:Bool} {xs:Array Value} (x:A8 tp h l xs):∃ o n,h.get? l=some o/\o.data= .seq xs n:=by
  cases tp with
  | false=>obtain ⟨o,e,_,n,d⟩:=(show h.IsList l xs from x);exact ⟨o,n,e,d⟩
  | true=>obtain ⟨o,e,_,n,d⟩:=(show h.IsTuple l xs from x);exact ⟨o,n,e,d⟩
section
theorem Bv {tp:Bool} {xs:Array Value} {x:Value} (ht:By tp s.heap it l i) (hq:A8 tp s.heap l xs) (hx:xs[i]?=some x)
    (k:∀ h',By tp h' it l (i+1)->Heap.SameBut it s.heap h'->Q x { s with heap:=h' }):wpAny (model prog w) A (Builtin.SmallTypes.nextOf (.ref it)) Q E s:=by
  cases tp with
  | false=>exact wpAny_nextOf_list_item (show s.heap.IsListIter it l i from ht) (show s.heap.IsList l xs from hq) hx k
  | true=>
    have ht:s.heap.IsTupleIter it l i:=ht;obtain ⟨ob,eb,cb,db⟩:=id ht;obtain ⟨ol,el,_,nl,dl⟩:=(show s.heap.IsTuple l xs from hq);unfold Builtin.SmallTypes.nextOf;refine Aa0 (Ab4 (name:=Str.ofString "__next__") ht.typeIs F.slot_tuple_iterator_next (Ab9 F.slot_tuple_iterator_next ht.typeIs F.entry_tuple_iterator_next ?_ (F.args_tuple_iterator_next_1 _)));show wpAny _ _ (field (.ref it) 0 >>= _) _ _ s;refine Aa0 (Ab8 eb db (x:= .ref l) rfl ?_);show wpAny _ _ (if (Value.ref l == Value.none)=true then _ else _) _ _ s;rw [if_neg (show ¬ ((Value.ref l == Value.none)=true) from Ab1)];show wpAny _ _ (field (.ref it) 1 >>= _) _ _ s;refine Aa0 (Ab8 eb db (x:= .int i 0) rfl ?_);show wpAny _ _ (seqItems? (.ref l) >>= _) _ _ s;refine Aa0 (Ad8 el dl ?_);simp only [Ac2,hx];refine Aa0 (wpAny_setField eb db (by simp) (Aa5 ⟨x,rfl,Aa5 (k _ ?_ (Heap.SameBut.update ..))⟩));exact (show Heap.IsTupleIter _ it l (i+1) from ⟨_,Af2 _ eb (Obj.isFreed_of_fields (Obj.data_mapFields db _)),(Obj.cls_mapFields ..).trans cb,by rw [Obj.data_mapFields db];simp [rawInt]⟩)
theorem CG {tp:Bool} {xs:Array Value} (hh:A.handled=none) (ht:By tp s.heap it l i) (hq:A8 tp s.heap l xs) (hx:xs[i]?=none)
    (k:∀ h' e,Heap.ExtBut it s.heap h'->(∃ o,h'.get? e=some o/\o.cls= .type "StopIteration")->E (.ref e) { s with heap:=h' }):wpAny (model prog w) A (Builtin.SmallTypes.nextOf (.ref it)) Q E s:=by
  cases tp with
  | false=>exact wpAny_nextOf_list_end hh (show s.heap.IsListIter it l i from ht) (show s.heap.IsList l xs from hq) hx k
  | true=>
    have ht:s.heap.IsTupleIter it l i:=ht;obtain ⟨ob,eb,cb,db⟩:=id ht;obtain ⟨ol,el,_,nl,dl⟩:=(show s.heap.IsTuple l xs from hq);unfold Builtin.SmallTypes.nextOf;refine Aa0 (Ab4 (name:=Str.ofString "__next__") ht.typeIs F.slot_tuple_iterator_next (Ab9 F.slot_tuple_iterator_next ht.typeIs F.entry_tuple_iterator_next ?_ (F.args_tuple_iterator_next_1 _)));show wpAny _ _ (field (.ref it) 0 >>= _) _ _ s;refine Aa0 (Ab8 eb db (x:= .ref l) rfl ?_);show wpAny _ _ (if (Value.ref l == Value.none)=true then _ else _) _ _ s;rw [if_neg (show ¬ ((Value.ref l == Value.none)=true) from Ab1)];show wpAny _ _ (field (.ref it) 1 >>= _) _ _ s;refine Aa0 (Ab8 eb db (x:= .int i 0) rfl ?_);show wpAny _ _ (seqItems? (.ref l) >>= _) _ _ s;refine Aa0 (Ad8 el dl ?_);simp only [Ac2,hx];refine Aa0 (wpAny_rule (Aa0 (wpAny_setField eb db (by simp) ?_)));show wpAny _ _ (newExc (.type "StopIteration") [] >>= _) _ _ _;refine Aa0 ?_;simp only [newExc,newTuple];refine Aa0 (Ae3 ?_ (by size_fits));refine Aa0 (m:=firstArgMember _ _) (wpAny_of_eq (a:=Value.none) (by first | rfl | (simp only [firstArgMember];rfl)) ?_);refine Ae3 ?_ (by size_fits);simp only [raiseNew];refine Aa0 (wpAny_handled ?_)
    first | rw [show A.in1.handled=none from hh] | rw [hh]
    exact Aa0 (Aa5 (wpAny_throw (k _ _ (((Heap.SameBut.update ..).extBut.push _).push _) ⟨_,Aa6 _ rfl,rfl⟩)))
end
section
structure ZipSt (t1 t2:Bool) (h:Heap) (z TI TO i1 i2 l1 l2:Addr) (k:Nat):Prop where
  hz:IsZip h z TI TO .none
  hTI:IsPair h TI (.ref i1) (.ref i2)
  hTO:∃ c d,IsPair h TO c d
  h1:By t1 h i1 l1 k
  h2:By t2 h i2 l2 k
theorem Kb {z TI TO i1 i2 l1 l2:Addr} {k:Nat} {xs ys:Array Value} {x y:Value} (D:ZipApart z TI TO i1 i2 l1 l2) (Z:ZipSt t1 t2 s.heap z TI TO i1 i2 l1 l2 k)
    (q1:A8 t1 s.heap l1 xs) (q2:A8 t2 s.heap l2 ys) (hx:xs[k]?=some x) (hy:ys[k]?=some y)
    (fin:∀ h',IsZip h' z TI TO (rawInt s.heap.objs.size)->IsPair h' TO x y->By t1 h' i1 l1 (k+1)->By t2 h' i2 l2 (k+1)->IsPair h' s.heap.objs.size x y->
      (∀ c o,c≠z->c≠TO->c≠i1->c≠i2->s.heap.get? c=some o->h'.get? c=some o)->Q (.ref s.heap.objs.size) { s with heap:=h' }):
    wpAny (model prog w) A (Builtin.«zip.__next__» ⟨[.ref z],[]⟩) (λ fin s'=>∃ v,fin= .done (.ret v)/\Q v s') E s:=by
  obtain ⟨hz,hTI,⟨c0,d0,hTO⟩,g1,g2⟩:=Z;show wpAny _ _ (field (.ref z) 2 >>= _) _ _ _;refine Aa0 (Ab8 hz rfl (x:= .bool false) rfl ?_);show wpAny _ _ (field (.ref z) 3 >>= _) _ _ _;refine Aa0 (Ab8 hz rfl (x:= .ref TI) rfl (Aa0 (Ad8 hTI rfl ?_)));show wpAny _ _ (Builtin.SmallTypes.ownedTupleIsFree (.ref z) >>= _) _ _ _;refine Aa0 ?_;unfold Builtin.SmallTypes.ownedTupleIsFree;refine Aa0 (Ab8 hz rfl (x:= .none) rfl (Aa5 ?_));simp only [if_true];refine Aa0 (wpAny_rule (Aa0 (Ab8 hz rfl (x:= .ref TO) rfl (Aa0 (Ac1 hz (by simp) λ a1 za b1=> ?_)))));replace za:IsZip a1 z TI TO .ellipsis:=za;refine Aa0 ?_;simp only [List.zipIdx_cons,List.zipIdx_nil,Ah1,Ai0];refine Aa0 (Aa0 (wpAny_onRaise ?_));show wpAny _ _ (Builtin.SmallTypes.nextOf (.ref i1) >>= _) _ _ _;refine Aa0 (Bv (s:={ s with heap:=a1 }) (An g1 λ o e=>b1.extBut _ o D.i1z e) (AX q1 λ o e=>b1.extBut _ o D.l1z e) hx λ a2 i1a b2=>Aa5 ?_);have to2:IsPair a2 TO c0 d0:=b2.extBut _ _ D.TOi1 (b1.extBut _ _ D.TOz hTO);refine Aa0 (Ad8 to2 rfl (Aa0 (Ah3 to2 λ a3 to3 b3=> ?_)));replace to3:IsPair a3 TO x d0:=to3;refine Aa0 (wpAny_letGo (Aa5 (Aa0 (Aa0 (wpAny_onRaise ?_)))));show wpAny _ _ (Builtin.SmallTypes.nextOf (.ref i2) >>= _) _ _ _;have up3:∀ c o,c≠z->c≠i1->c≠TO->s.heap.get? c=some o->a3.get? c=some o:=λ c o n1 n2 n3 e=>b3.extBut _ o n3 (b2.extBut _ o n2 (b1.extBut _ o n1 e));refine Aa0 (Bv (s:={ s with heap:=a3 }) (An g2 λ o e=>up3 _ o D.i2z D.i12.symm D.TOi2.symm e) (AX q2 λ o e=>up3 _ o D.l2z D.l2i1 D.l2TO e) hy λ a4 i2a b4=>Aa5 ?_);have to4:IsPair a4 TO x d0:=b4.extBut _ _ D.TOi2 to3;refine Aa0 (Ad8 to4 rfl (Aa0 (Ah3 to4 λ a5 to5 b5=> ?_)));replace to5:IsPair a5 TO x y:=to5;refine Aa0 (wpAny_letGo (Aa5 (Aa5 (Aa0 (Ad8 to5 rfl (Aa0 (wpAny_newTuple ?_)))))));have sz:a5.objs.size=s.heap.objs.size:=by rw [b5.1,b4.1,b3.1,b2.1,b1.1]
  have z5:IsZip a5 z TI TO .ellipsis:=b5.extBut _ _ D.TOz.symm (b4.extBut _ _ D.i2z.symm (b3.extBut _ _ D.TOz.symm (b2.extBut _ _ D.i1z.symm za)));have k5:∀ c o,c≠z->c≠TO->c≠i1->c≠i2->s.heap.get? c=some o->a5.get? c=some o:=λ c o n1 n2 n3 n4 e=>b5.extBut _ _ n2 (b4.extBut _ _ n4 (up3 c o n1 n3 n2 e));have f1:By t1 a5 i1 l1 (k+1):=An i1a λ o e=>b5.extBut _ o D.TOi1.symm (b4.extBut _ o D.i12 (b3.extBut _ o D.TOi1.symm e));have f2:By t2 a5 i2 l2 (k+1):=An i2a λ o e=>b5.extBut _ o D.TOi2.symm e;have zlt:z<a5.objs.size:=Aa8 z5;show wpAny _ _ (Builtin.SmallTypes.ownedTupleHandOut (.ref z) (.ref a5.objs.size) >>= _) _ _ _;refine Aa0 ?_;unfold Builtin.SmallTypes.ownedTupleHandOut;have z6:IsZip (a5.push { cls:= .type "tuple",data:= .seq #[x,y] }) z TI TO .ellipsis:=Aa3 _ z5;refine Aa0 (Ac1 z6 (by simp) λ a7 z7 b7=> ?_);replace z7:IsZip a7 z TI TO (rawInt a5.objs.size):=z7;refine Ac1 z7 (by simp) λ a8 z8 b8=> ?_;replace z8:IsZip a8 z TI TO (rawInt a5.objs.size):=z8;have up:∀ c o,c≠z->a5.get? c=some o->a8.get? c=some o:=λ c o n e=>b8.extBut _ _ n (b7.extBut _ _ n (Aa3 _ e));have t8:IsPair a8 a5.objs.size x y:=b8.extBut _ _ (Ah0 zlt) (b7.extBut _ _ (Ah0 zlt) (Aa6 _ rfl));rw [sz] at z8 t8;refine Aa5 ⟨_,rfl,?_⟩;show Q (.ref a5.objs.size) _;rw [sz];exact fin a8 z8 (up _ _ D.TOz to5) (An f1 λ o e=>up _ o D.i1z e) (An f2 λ o e=>up _ o D.i2z e) t8 λ c o n1 n2 n3 n4 e=>up c o n1 (k5 c o n1 n2 n3 n4 e)
theorem Ln {z TI TO i1 i2 l1 l2:Addr} {k:Nat} {xs ys:Array Value} {Q:Fin->Shared->Prop} (hh:A.handled=none) (D:ZipApart z TI TO i1 i2 l1 l2) (Z:ZipSt t1 t2 s.heap z TI TO i1 i2 l1 l2 k)
    (q1:A8 t1 s.heap l1 xs) (q2:A8 t2 s.heap l2 ys) (hend:xs[k]?=none\/ys[k]?=none)
    (fin:∀ h' e,(∀ c o,c≠z->c≠TO->c≠i1->c≠i2->s.heap.get? c=some o->h'.get? c=some o)->(∃ o,h'.get? e=some o/\o.cls= .type "StopIteration")->E (.ref e) { s with heap:=h' }):
    wpAny (model prog w) A (Builtin.«zip.__next__» ⟨[.ref z],[]⟩) Q E s:=by
  obtain ⟨hz,hTI,⟨c0,d0,hTO⟩,g1,g2⟩:=Z;show wpAny _ _ (field (.ref z) 2 >>= _) _ _ _;refine Aa0 (Ab8 hz rfl (x:= .bool false) rfl ?_);show wpAny _ _ (field (.ref z) 3 >>= _) _ _ _;refine Aa0 (Ab8 hz rfl (x:= .ref TI) rfl (Aa0 (Ad8 hTI rfl ?_)));show wpAny _ _ (Builtin.SmallTypes.ownedTupleIsFree (.ref z) >>= _) _ _ _;refine Aa0 ?_;unfold Builtin.SmallTypes.ownedTupleIsFree;refine Aa0 (Ab8 hz rfl (x:= .none) rfl (Aa5 ?_));simp only [if_true];refine Aa0 (wpAny_rule (Aa0 (Ab8 hz rfl (x:= .ref TO) rfl (Aa0 (Ac1 hz (by simp) λ a1 za b1=> ?_)))));replace za:IsZip a1 z TI TO .ellipsis:=za;refine Aa0 ?_;simp only [List.zipIdx_cons,List.zipIdx_nil,Ah1,Ai0];refine Aa0 (Aa0 (wpAny_onRaise ?_));show wpAny _ _ (Builtin.SmallTypes.nextOf (.ref i1) >>= _) _ _ _;have g1':=An g1 λ o e=>b1.extBut _ o D.i1z e;have q1':=AX q1 λ o e=>b1.extBut _ o D.l1z e;cases hx:xs[k]? with
  | none=>
    refine Aa0 (CG (s:={ s with heap:=a1 }) hh g1' q1' hx λ a2 e b2 he=> ?_);obtain ⟨oe,eo,ce⟩:=he;have z2:IsZip a2 z TI TO .ellipsis:=b2 _ _ D.i1z.symm za;have nz:e≠z:=λ q=>by subst q;rw [z2] at eo;cases eo;simp at ce
    exact Ac1 z2 (by simp) λ a3 _ b3=>fin a3 e (λ c o n1 _ n3 _ q=>b3.extBut _ _ n1 (b2 _ _ n3 (b1.extBut _ _ n1 q))) ⟨oe,b3.extBut _ _ nz eo,ce⟩
  | some x=>
    have hy:ys[k]?=none:=by
      rcases hend with q | q
      · rw [hx] at q;cases q
      · exact q
    refine Aa0 (Bv (s:={ s with heap:=a1 }) g1' q1' hx λ a2 i1a b2=>Aa5 ?_);have to2:IsPair a2 TO c0 d0:=b2.extBut _ _ D.TOi1 (b1.extBut _ _ D.TOz hTO);refine Aa0 (Ad8 to2 rfl (Aa0 (Ah3 to2 λ a3 to3 b3=> ?_)));refine Aa0 (wpAny_letGo (Aa5 (Aa0 (Aa0 (wpAny_onRaise ?_)))));show wpAny _ _ (Builtin.SmallTypes.nextOf (.ref i2) >>= _) _ _ _;have up3:∀ c o,c≠z->c≠i1->c≠TO->s.heap.get? c=some o->a3.get? c=some o:=λ c o n1 n2 n3 e=>b3.extBut _ o n3 (b2.extBut _ o n2 (b1.extBut _ o n1 e));refine Aa0 (CG (s:={ s with heap:=a3 }) hh (An g2 λ o e=>up3 _ o D.i2z D.i12.symm D.TOi2.symm e) (AX q2 λ o e=>up3 _ o D.l2z D.l2i1 D.l2TO e) hy λ a4 e b4 he=> ?_);obtain ⟨oe,eo,ce⟩:=he;have z4:IsZip a4 z TI TO .ellipsis:=b4 _ _ D.i2z.symm (b3.extBut _ _ D.TOz.symm (b2.extBut _ _ D.i1z.symm za));have nz:e≠z:=λ q=>by subst q;rw [z4] at eo;cases eo;simp at ce
    exact Ac1 z4 (by simp) λ a5 _ b5=>fin a5 e (λ c o n1 n2 n3 n4 q=>b5.extBut _ _ n1 (b4 _ _ n4 (up3 c o n1 n3 n2 q))) ⟨oe,b5.extBut _ _ nz eo,ce⟩
def Kh (tp:Bool):String:=if tp=true then "tuple_iterator" else "list_iterator"
theorem IC {tp:Bool} {xs:Array Value} (hq:A8 tp s.heap l xs) (k:Q (.ref s.heap.objs.size) { s with heap:=s.heap.push { cls:= .type (Kh tp),data:= .fields #[.ref l, .int 0 0] } }):
    wpAny (model prog w) A (pyIter (.ref l)) Q E s:=by
  cases tp with
  | false=>exact wpAny_pyIter_list (show s.heap.IsList l xs from hq) k
  | true=>exact wpAny_pyIter_tuple (show s.heap.IsTuple l xs from hq) k
theorem GD {tp:Bool}:By tp (h.push { cls:= .type (Kh tp),data:= .fields #[.ref l, .int 0 0] }) h.objs.size l 0:=by
  cases tp with
  | false=>exact (show Heap.IsListIter _ _ l 0 from ⟨_,Aa6 _ rfl,rfl,rfl⟩)
  | true=>exact (show Heap.IsTupleIter _ _ l 0 from ⟨_,Aa6 _ rfl,rfl,rfl⟩)
abbrev zs1 (t1:Bool) (h:Heap) (l1:Addr):Heap:=h.push { cls:= .type (Kh t1),data:= .fields #[.ref l1, .int 0 0] }
abbrev zs2 (t1 t2:Bool) (h:Heap) (l1 l2:Addr):Heap:=(zs1 t1 h l1).push { cls:= .type (Kh t2),data:= .fields #[.ref l2, .int 0 0] }
abbrev zs3 (t1 t2:Bool) (h:Heap) (l1 l2:Addr):Heap:=(zs2 t1 t2 h l1 l2).push { cls:= .type "tuple",data:= .seq #[.ref h.objs.size, .ref (zs1 t1 h l1).objs.size] }
abbrev zs4 (t1 t2:Bool) (h:Heap) (l1 l2:Addr):Heap:=(zs3 t1 t2 h l1 l2).push { cls:= .type "tuple",data:= .seq #[.none, .none] }
abbrev zs5 (t1 t2:Bool) (h:Heap) (l1 l2:Addr):Heap:=(zs4 t1 t2 h l1 l2).push { cls:= .type "zip",data:= .fields #[.none, .bool false, .bool false, .ref (zs2 t1 t2 h l1 l2).objs.size, .ref (zs3 t1 t2 h l1 l2).objs.size] }
theorem Mr (t1 t2:Bool) (l1 l2:Addr) (xs ys:Array Value):
    Meets (Builtin.«zip.__new__» ⟨[.type "zip", .ref l1, .ref l2],[]⟩) (λ _ R s=>A8 t1 s.heap l1 xs/\A8 t2 s.heap l2 ys/\
      R (.ok (.ret (.ref (zs4 t1 t2 s.heap l1 l2).objs.size))) { s with heap:=zs5 t1 t2 s.heap l1 l2 }):=
  .of_wp λ prog w A R s h=>by
    obtain ⟨hp,g,d,tk,os⟩:=s;obtain ⟨m1,m2,h⟩:=h;have hsub:=sub_zip;have M1:A8 t1 (Shared.heap ⟨hp,g,d,tk,os⟩) l1 xs:=m1;have M2:A8 t2 (Shared.heap ⟨hp.push { cls:= .type (Kh t1),data:= .fields #[.ref l1, .int 0 0] },g,d,tk,os⟩) l2 ys:=AX m2 λ o e=>Aa3 _ e
    wp_walk using IC M1,IC M2
    exact ⟨_,rfl,h⟩
theorem GJ {l1 l2:Addr} {xs ys:Array Value} (m1:A8 t1 s.heap l1 xs) (m2:A8 t2 s.heap l2 ys)
    (k:∀ h',ZipSt t1 t2 h' (s.heap.objs.size+4) (s.heap.objs.size+2) (s.heap.objs.size+3) s.heap.objs.size (s.heap.objs.size+1) l1 l2 0->
      (∀ c o,s.heap.get? c=some o->h'.get? c=some o)->Q (.ref (s.heap.objs.size+4)) { s with heap:=h' }):
    wpAny (model prog w) A (call (.type "zip") [.ref l1, .ref l2]) Q E s:=by
  refine callType_new F.called_zip (by decide) (F.typeCall_zip_2 _ _) (F.newCall_zip_2 _ _) (λ obj=>F.args_object_init_3 obj _ _) F.entry_zip_new (Mr t1 t2 l1 l2 xs ys) ⟨m1,m2,?_⟩;have n1:(zs1 t1 s.heap l1).objs.size=s.heap.objs.size+1:=Ad7 ..;have n2:(zs2 t1 t2 s.heap l1 l2).objs.size=s.heap.objs.size+2:=by rw [Ad7,n1]
  have n3:(zs3 t1 t2 s.heap l1 l2).objs.size=s.heap.objs.size+3:=by rw [Ad7,n2]
  have n4:(zs4 t1 t2 s.heap l1 l2).objs.size=s.heap.objs.size+4:=by rw [Ad7,n3]
  have g5:(zs5 t1 t2 s.heap l1 l2).get? (zs4 t1 t2 s.heap l1 l2).objs.size=some _:=Aa6 _ rfl;have g4:(zs5 t1 t2 s.heap l1 l2).get? (zs3 t1 t2 s.heap l1 l2).objs.size=some _:=Aa3 _ (Aa6 _ rfl);have g3:(zs5 t1 t2 s.heap l1 l2).get? (zs2 t1 t2 s.heap l1 l2).objs.size=some _:=Aa3 _ (Aa3 _ (Aa6 _ rfl));have up2:∀ c o,(zs2 t1 t2 s.heap l1 l2).get? c=some o->(zs5 t1 t2 s.heap l1 l2).get? c=some o:=λ c o e=>Aa3 _ (Aa3 _ (Aa3 _ e));have s2:By t2 (zs5 t1 t2 s.heap l1 l2) (zs1 t1 s.heap l1).objs.size l2 0:=An GD λ o e=>up2 _ o e;have s1:By t1 (zs5 t1 t2 s.heap l1 l2) s.heap.objs.size l1 0:=An GD λ o e=>up2 _ o (Aa3 _ e);show _/\_;rw [n2,n3,n4] at g5;rw [n1,n2] at g3;rw [n3] at g4;rw [n1] at s2;rw [n4];exact ⟨⟨_,g5,rfl⟩,k _ ⟨g5,g3,⟨_,_,g4⟩,s1,s2⟩ λ c o e=>up2 c o (Aa3 _ (Aa3 _ e))⟩
end
def SqS (tp:Bool) (K:PySem.W.Frag) (H:Hp) (a:Addr) (xs:List V):Prop:=if tp=true then SqT K H a xs else SqL K H a xs
theorem A0 {tp:Bool} (I:Inv X pins σ H s) (h:SqS tp X.K H a xs):∃ its:List Value,Vals xs its/\A8 tp s.heap a its.toArray:=by
  cases tp with
  | false=>
    obtain ⟨its,r,p,_⟩:=I.list (show SqL X.K H a xs from h);exact ⟨its,r,(show s.heap.IsList a its.toArray from p.isList)⟩
  | true=>
    obtain ⟨its,r,p,_⟩:=I.tuple (show SqT X.K H a xs from h);exact ⟨its,r,(show s.heap.IsTuple a its.toArray from p)⟩
theorem FO {tp:Bool} (I:Inv X pins σ H s) (h:SqS tp X.K H a xs) (h2:SqS tp X.K H a ys):xs=ys:=by
  cases tp with
  | false=>exact I.list_inj h h2
  | true=>exact I.tuple_inj h h2
def Izs (t1 t2:Bool) (K:PySem.W.Frag) (a b:Addr):It:=
  ⟨λ i H=>∃ xs ys x y,SqS t1 K H a xs/\SqS t2 K H b ys/\xs[i]?=some x/\ys[i]?=some y,
   λ i H v H'=>∃ p x y,H p=none/\v= .ref p/\H'=upd H p (.tup [x,y])/\(∀ xs,SqS t1 K H a xs->xs[i]?=some x)/\∀ ys,SqS t2 K H b ys->ys[i]?=some y,
   λ i H=>∃ xs ys,SqS t1 K H a xs/\SqS t2 K H b ys/\(xs.length<=i\/ys.length<=i)⟩
theorem Rf {K:PySem.W.Frag} {k:Nat} (t1 t2:Bool) (a b z TI TO i1 i2:Addr) (D:ZipApart z TI TO i1 i2 a b):
    Turn P w K (.Tuple elts k pos) (Izs t1 t2 K a b) [z,TI,TO,i1,i2] z (λ i h=>ZipSt t1 t2 h z TI TO i1 i2 a b i) where
  mem:=by simp
  obj:=λ i h st c hc=>by
    obtain ⟨hz,hTI,⟨x,y,hTO⟩,h1,h2⟩:=st;obtain ⟨o1,e1,d1⟩:=A4 h1;obtain ⟨o2,e2,d2⟩:=A4 h2;simp only [Ab2,Ac7,or_false] at hc;rcases hc with q | q | q | q | q
    · subst q;exact ⟨_,hz,λ v z=>by cases (show Data.fields _=Data.cell v from z)⟩
    · subst q;exact ⟨_,hTI,λ v z=>by cases (show Data.seq _ _=Data.cell v from z)⟩
    · subst q;exact ⟨_,hTO,λ v z=>by cases (show Data.seq _ _=Data.cell v from z)⟩
    · subst q;exact ⟨o1,e1,λ v z=>by rw [d1] at z;cases z⟩
    · subst q;exact ⟨o2,e2,λ v z=>by rw [d2] at z;cases z⟩
  keep:=λ i h h' st kp=>by
    obtain ⟨hz,hTI,⟨x,y,hTO⟩,h1,h2⟩:=st;exact ⟨kp z (by simp) _ hz,kp TI (by simp) _ hTI,⟨x,y,kp TO (by simp) _ hTO⟩,An h1 λ o q=>kp i1 (by simp) o q,An h2 λ o q=>kp i2 (by simp) o q⟩
  item:=by
    intro X hP hw hK hc i pins s σ H E I hf st hg;subst hP hw hK;obtain ⟨xs,ys,x,y,hq1,hq2,hx,hy⟩:=hg;obtain ⟨its,rv,p1⟩:=A0 I hq1;obtain ⟨its2,rv2,p2⟩:=A0 I hq2;obtain ⟨u,hu,ru⟩:=rv.get hx;obtain ⟨u2,hu2,ru2⟩:=rv2.get hy;have lt:∀ q∈[z,TI,TO,i1,i2],q<s.heap.objs.size:=λ q hq=>by
      obtain ⟨hz,hTI,⟨c,d,hTO⟩,h1,h2⟩:=id st;obtain ⟨_,e1,_⟩:=A4 h1;obtain ⟨_,e2,_⟩:=A4 h2;simp only [Ab2,Ac7,or_false] at hq;rcases hq with q' | q' | q' | q' | q'
      · subst q';exact Aa8 hz
      · subst q';exact Aa8 hTI
      · subst q';exact Aa8 hTO
      · subst q';exact Aa8 e1
      · subst q';exact Aa8 e2
    have hT0:s.TypeIs (.ref z) "zip":=⟨_,st.hz,rfl⟩;unfold pyNext;refine Aa0 (Af7 (Ab4 (name:=Str.ofString "__next__") hT0 F.slot_zip_next (Ab9 F.slot_zip_next hT0 F.entry_zip_next
      (Kb D st p1 p2 (x:=u) (y:=u2) (by simpa using hu) (by simpa using hu2) λ h' hz' hTO' h1' h2' hT hk=>Aa5 ?_) (F.args_zip_next_1 _))))
    have I0:=I.laid (h':=s.heap.push { cls:= .type "tuple",data:= .seq #[u,u2] }) (a:=s.heap.objs.size) (o:= .tup [x,y]) (t':=s.toks) (λ _ _ q=>Aa3 _ q) (Aa7 _)
      ⟨(by show 2<=sizeLine;decide),[u,u2], .cons ru (.cons ru2 .nil),⟨_,Aa6 _ rfl,rfl,_,rfl⟩⟩
    have f0:∀ b∈[z,TI,TO,i1,i2],Dk X pins (upd H s.heap.objs.size (.tup [x,y])) b:=λ b hb=>EE (hf b hb) (Ab6 (lt b hb));have I1:=Inv.turnedL (t':=s.toks) (h':=h') [z,TI,TO,i1,i2] I0 f0 (λ b o hb q=>by
      rcases Ah2 (show (s.heap.push { cls:= .type "tuple",data:= .seq #[u,u2] }).get? b=some o from q) with ⟨q1,q2⟩ | q
      · rw [q1,q2];exact hT
      · exact hk b o (λ e=>hb (by simp [e])) (λ e=>hb (by simp [e])) (λ e=>hb (by simp [e])) (λ e=>hb (by simp [e])) q)
    refine ⟨.ref s.heap.objs.size,rfl,wpAny_letOwnedTupleGo_zip (s:={ s with heap:=h' }) hz' λ h3 hz3 sb=> ?_⟩;refine ⟨.ref s.heap.objs.size,_,Inv.turnedL (t':=s.toks) (h':=h3) [z,TI,TO,i1,i2] I1 f0 (λ b o hb q=>(sb.2 b λ e=>hb (by simp [e])).trans q),rfl,
      ⟨_,x,y,I.fresh,rfl,rfl,λ l hl=>by rw [FO I hl hq1];exact hx,λ l hl=>by rw [FO I hl hq2];exact hy⟩,
      ⟨hz3,(sb.2 TI D.TIz).trans (hk TI _ D.TIz D.TITO D.TIi1 D.TIi2 st.hTI),⟨u,u2,(sb.2 TO D.TOz).trans hTO'⟩,An h1' λ o q=>(sb.2 i1 D.i1z).trans q,An h2' λ o q=>(sb.2 i2 D.i2z).trans q⟩,λ b hb=>(f0 b hb).1⟩
  done:=by
    intro X hP hw hK hc i pins s σ H E I hf st hg;subst hP hw hK;obtain ⟨xs,ys,hq1,hq2,hx⟩:=hg;obtain ⟨its,rv,p1⟩:=A0 I hq1;obtain ⟨its2,rv2,p2⟩:=A0 I hq2;have hl:=rv.length;have hl2:=rv2.length;have hT0:s.TypeIs (.ref z) "zip":=⟨_,st.hz,rfl⟩;unfold pyNext;refine Aa0 (Af7 (Ab4 (name:=Str.ofString "__next__") hT0 F.slot_zip_next (Ab9 F.slot_zip_next hT0 F.entry_zip_next
      (Ln (I.ok.hd hc) D st p1 p2 (hx.elim (λ q=> .inl (by simp;omega)) λ q=> .inr (by simp;omega)) λ h' e eb he=> ?_) (F.args_zip_next_1 _))))
    obtain ⟨oe,eo,ce⟩:=he;refine Aa0 (Ah8 (T:="StopIteration") (b:=true) ⟨oe,eo,ce⟩ isSubtype_stop (Aa5 ?_));exact ⟨rfl,I.turnedL (t':=s.toks) [z,TI,TO,i1,i2] hf λ b o hb q=>eb b o (λ e=>hb (by simp [e])) (λ e=>hb (by simp [e])) (λ e=>hb (by simp [e])) (λ e=>hb (by simp [e])) q⟩
  self:=λ _ _ _ _ _ st h=>wpAny_pyIter_zip st.hz h
section
variable {k:Nat} {tpos:Pos} {K:PySem.W.Frag}
def iZs (K:PySem.W.Frag) (ta:TA):TI:=λ σ H R=>ta σ H λ vs H1=>∃ t1 t2 a b,vs=[.ref a, .ref b]/\(∃ xs,SqS t1 K H1 a xs)/\(∃ ys,SqS t2 K H1 b ys)/\R (Izs t1 t2 K a b) H1
theorem Yx {l m:Expr} {ta:TA} {p:Pos} (hg:Gl X "zip") (hm:X.mg "zip"=none) (ha:PA X [l,m] ta) (hK:X.K=K:=by rfl) (hs:starEach [l,m] X.env=[(false,eval l X.env),(false,eval m X.env)]:=by rfl) (hs2:starEach [m] X.env=[(false,eval m X.env)]:=by rfl):
    PI X (.Tuple elts k tpos) (.Call (.Name "zip" p) [l,m] [] pos) (iZs K ta):=by
  subst hK;intro pins s σ H R I h;refine Call_ (Cd I hg hm IG (PyProof.Rows.callWith_type1 (thn (ha pos pins s σ H _ I h) λ us s1 ⟨vs,H1,I1,r1,q1⟩=> ?_) (by rw [hs,hs2]) (by rw [hs2];rfl)));obtain ⟨t1,t2,a,b,e,⟨xs,hq⟩,⟨ys,hq2⟩,q⟩:=q1;subst e;cases r1 with
  | cons r rr=>
    cases rr with
    | cons r' rr=>
    cases rr;cases r;cases r';obtain ⟨its,rv,pl⟩:=A0 I1 hq;obtain ⟨its2,rv2,pl2⟩:=A0 I1 hq2;obtain ⟨oa,_,ea,_⟩:=BQ pl;obtain ⟨ob,_,eb,_⟩:=BQ pl2;refine GJ pl pl2 λ h' st hk=> ?_;refine wpAny_pyIter_zip st.hz ?_;have I2:=I1.kept (t':=s1.toks) hk;refine ⟨s1.heap.objs.size+4,_,_,_,H1,rfl,I2,Rf t1 t2 a b _ _ _ _ _ (PySem.W.ktu_apart s1.heap.objs.size a b (Aa8 ea) (Aa8 eb)),st,λ c hc=> ?_,q⟩;have hb':s1.heap.objs.size<=c:=by
      simp only [Ab2,Ac7,or_false] at hc;rcases hc with q | q | q | q | q <;> rw [q] <;> first | exact Aa7 _ | exact Nat.le_add_right _ _
    exact I1.fpOk hb' (I1.hok.fresh hb')
end
section
variable {K:PySem.W.Frag}
theorem AA:bootBuiltins "list"=some (.type "list"):=by decide +kernel
theorem AJ:bootBuiltins "tuple"=some (.type "tuple"):=by decide +kernel
theorem KF:bootBuiltins "sorted"=some (.builtin "sorted"):=by decide +kernel
def OA (K:PySem.W.Frag):List V->Hp->VK->Prop:=λ xs H Q=>∃ (x:V) (p:Addr) (ns:List String) (t:Value) (b:Bool),xs=[x, .ref p]/\H p=some (.tup (ns.map V.ty))/\TyOf K H x t/\PySem.W.kitAny K t (ns.map Value.type)=some b/\Q (.bl b) H
theorem Nr:∀ {ns:List String} {us:List Value},Vals (ns.map V.ty) us->us=ns.map Value.type
  | [],us,r=>by cases r;rfl
  | n::ns,us,r=>by
    cases r with
    | cons r1 r2=>
      cases r1;rw [Nr r2];rfl
theorem Qy (hK:X.K=K:=by rfl):BY X (.builtin "isinstance") (OA K):=by
  subst hK;intro pins s σ H xs us Q I r h;obtain ⟨x,p,ns,t,b,rfl,hp,ty,e,q⟩:=h;obtain ⟨u,c,rfl,rx,rc⟩:=RE r;cases rc;obtain ⟨_,its,rt,ot,e1,e2,nt,e3⟩:=(show ObjOk X.prog X.w H s.heap p (.tup (ns.map V.ty)) from I.hok p _ hp);have ei:=Nr rt;subst ei;have htp:s.heap.get? p=some ⟨.type "tuple",ot.dict, .seq (ns.map Value.type).toArray nt,ot.slots⟩:=by
    rw [e1];obtain ⟨c,d,da,sl⟩:=ot;simp only at e2 e3;rw [e2,e3]
  have fin:∀ tk,EP X pins σ Q (.bool b) { s with toks:=tk }:=λ tk=>⟨.bl b,H,I.tok tk,rfl,q⟩;cases ty with
  | non=>cases (show u=Value.none from rx);exact PySem.W.kia_tup PySem.W.kitx_none I.kIn True.intro htp e (λ z=>nomatch z) fin
  | bl y=>cases (show u=Value.bool y from rx);exact PySem.W.kia_tup PySem.W.kitx_bool I.kIn True.intro htp e (λ z=>nomatch z) fin
  | int i=>obtain ⟨t,q⟩:=(show ∃ t,u=Value.int i t from rx);cases q;exact PySem.W.kia_tup PySem.W.kitx_int I.kIn True.intro htp e (λ z=>nomatch z) fin
  | str y=>obtain ⟨t,q⟩:=(show ∃ t,u=Value.str y t from rx);cases q;exact PySem.W.kia_tup PySem.W.kitx_str I.kIn True.intro htp e (λ z=>nomatch z) fin
  | flt y=>obtain ⟨t,q⟩:=(show ∃ t,u=Value.float y t from rx);cases q;exact PySem.W.kia_tup PySem.W.kitx_float I.kIn True.intro htp e (λ z=>nomatch z) fin
  | @lst a xs ea=>
    cases (show u=Value.ref a from rx);obtain ⟨_,_,n,_,h1⟩:=(show ObjOk X.prog X.w H s.heap a (.lst xs) from I.hok a _ ea);exact PySem.W.kia_tup PySem.W.kitx_list I.kIn ⟨_,h1,rfl⟩ htp e (λ z=>nomatch z) fin
  | @frz a ob xs ea=>
    cases (show u=Value.ref a from rx);obtain ⟨_,_,_,n,_,h1⟩:=(show ObjOk X.prog X.w H s.heap a (.frz ob (.lst xs)) from I.hok a _ ea);exact PySem.W.kia_tup PySem.W.kitx_list I.kIn ⟨_,h1,rfl⟩ htp e (λ z=>nomatch z) fin
  | @tup a xs ea=>
    cases (show u=Value.ref a from rx);obtain ⟨_,_,_,p⟩:=(show ObjOk X.prog X.w H s.heap a (.tup xs) from I.hok a _ ea);obtain ⟨o,h1,h2,_⟩:=p;exact PySem.W.kia_tup PySem.W.kitx_tuple I.kIn ⟨o,h1,h2⟩ htp e (λ z=>nomatch z) fin
  | @dK a kvs ea=>
    cases (show u=Value.ref a from rx);obtain ⟨_,_,vs,_,p⟩:=(show ObjOk X.prog X.w H s.heap a (.dK kvs) from I.hok a _ ea);obtain ⟨o,es,ep,h1,h2,_⟩:=p;exact PySem.W.kia_tup PySem.W.kitx_dict I.kIn ⟨o,h1,h2.1⟩ htp e (λ z=>nomatch z) fin
  | @dT a kvs ea=>
    cases (show u=Value.ref a from rx);obtain ⟨_,_,xs,_,o,es,ep,h1,h2,_⟩:=(show ObjOk X.prog X.w H s.heap a (.dT kvs) from I.hok a _ ea);exact PySem.W.kia_tup PySem.W.kitx_dict I.kIn ⟨o,h1,h2.1⟩ htp e (λ z=>nomatch z) fin
  | @ins a C dx fs ea cl ha hn htk hm=>
    cases (show u=Value.ref a from rx);obtain ⟨mA,O,_⟩:=F6 I.hok ea;obtain ⟨od,J,_⟩:=O.look;exact PySem.W.kia_tup (PySem.W.kitx_own (cl.get _) cl.hd ha hn htk hm) I.kIn J htp e (λ z=>nomatch z) fin
theorem Mi {k:Nat} {t:TGs} (hc:X.calm=true) (h:PGs X es t) (hK:X.K=K:=by rfl)
    (hn:(assignEach es X.env).length=n:=by rfl) (hst:(assignEach es X.env).findIdx? (·.1)=none:=by rfl):PG X (.Tuple es k pos) (JD K n t):=by
  subst hK;exact Po hc h hn hst
variable {fr:List (Str × Nat)}
theorem QN {y:Str} {py pt:Pos} {k:Nat} (h:FH X.env.scope X.N scope [x,y] fr=true) (hc:X.calm=true) (C:Addr) (ex:List Addr) (s:Shared) (H:Hp) (hK:X.K=K:=by rfl):
    PG (Bu X scope [x,y] fr C ex s H) (.Tuple [.Name x px, .Name y py] k pt) (JD K 2 (CB (A5 0) (CB (A5 1) KO))):=by
  subst hK;exact Po (X:=Bu X scope [x,y] fr C ex s H) hc (A7 (KI h rfl C ex s H) (A7 (KI h rfl C ex s H) F4))
theorem EI {y:Str} {py pt:Pos} {k:Nat} {te:TE} (hi:PI X (.Tuple [.Name x px, .Name y py] k pt) iter wi)
    (ht:∀ C ex s H,PTs (Bu X scope [x,y] (Hj X.N scope) C ex s H) ifs tc) (he:∀ C ex s H,PE (Bu X scope [x,y] (Hj X.N scope) C ex s H) elt te) (hK:X.K=K:=by rfl)
    (hb:FH X.env.scope X.N scope [x,y] (Hj X.N scope)=true:=by with_unfolding_all rfl) (hc:X.calm=true:=by rfl)
    (hs:∀ x,foldedSetIterable iter X.env x=pure x:=by intro _;rfl):PE X (.ListComp elt [⟨.Tuple [.Name x px, .Name y py] k pt,iter,ifs,0⟩] scope pos) (Ke wi [x,y] (Hj X.N scope) (JD K 2 (CB (A5 0) (CB (A5 1) KO))) tc te):=
  Nl hc (.of hb) hi (λ C ex s H=>QN hb hc C ex s H hK) ht he hs
end
section
variable {K:PySem.W.Frag} {σ0:St} {te:TE} {Q:VK}
theorem QU {b:Addr} {zs:List V} (hlen:xs.length=zs.length) (Pv:Nat->List V->Hp->Prop) (h0:Pv 0 [] (upd H D (.lst [])))
    (hl:∀ i ys H,i<=xs.length->Pv i ys H->SqS t1 K H a xs/\SqS t2 K H b zs)
    (hs:∀ i x z ys H p,xs[i]?=some x->zs[i]?=some z->Pv i ys H->H p=none->Kp σ0 ((σ0.set 0 (some x)).set 1 (some z))/\tc ((σ0.set 0 (some x)).set 1 (some z)) (upd H p (.tup [x,z])) λ b H3=>
      if b=true then te ((σ0.set 0 (some x)).set 1 (some z)) H3 λ y H4=>H4 D=some (.lst ys)/\ys.length<sizeLine/\Pv (i+1) (ys++[y]) (upd H4 D (.lst (ys++[y]))) else Pv (i+1) ys H3)
    (hd:∀ ys H,Pv xs.length ys H->Q (.ref D) H):
    EV (Izs t1 t2 K a b) σ0 (JD K 2 (CB (A5 0) (CB (A5 1) KO))) tc te Q H D:=by
  refine ⟨λ i m ys H=>m=xs.length - i/\i<=xs.length/\Pv i ys H,⟨_,rfl,Ad3 _,h0⟩,?_⟩;rintro i m ys H ⟨rfl,hi,p⟩;obtain ⟨q1,q2⟩:=hl i ys H hi p;by_cases hlt:i<xs.length
  · refine .inr ⟨⟨xs,zs,xs[i],zs[i]'(by omega),q1,q2,by simp [hlt],by simp⟩,Pv (i+1),λ ys' H' p'=>⟨xs.length - (i+1),by omega,rfl,hlt,p'⟩,λ x H' y=> ?_⟩;obtain ⟨pp,v,z,hp,rfl,rfl,hv,hz⟩:=y;exact ⟨pp,_,rfl,SqT.of Af,rfl,_,_,rfl,_,_,rfl,rfl,hs i v z ys H pp (hv xs q1) (hz zs q2) p hp⟩
  · have e:i=xs.length:=by omega
    subst e;exact .inl ⟨⟨xs,zs,q1,q2, .inl (Aa7 _)⟩,hd ys H p⟩
end
inductive Dt where
  | non | bl (b:Bool) | int (i:Int) | str (z:Str) | lst (xs:List Dt) | tup (xs:List Dt)
inductive Rp (H:Hp) (F:Addr->Prop):Nat->V->Dt->Prop where
  | non {n:Nat}:Rp H F n .non .non
  | bl {n:Nat} (b:Bool):Rp H F n (.bl b) (.bl b)
  | int {n:Nat} (i:Int):Rp H F n (.int i) (.int i)
  | str {n:Nat} (z:Str):Rp H F n (.str z) (.str z)
  | lst {n:Nat} {a:Addr} {vs:List V} {ds:List Dt} (h:H a=some (.lst vs)) (f:F a) (b:vs.length<=100000) (l:vs.length=ds.length) (e:∀ (i:Nat) (v:V) (d:Dt),vs[i]?=some v->ds[i]?=some d->Rp H F n v d):Rp H F (n+1) (.ref a) (.lst ds)
  | tup {n:Nat} {a:Addr} {vs:List V} {ds:List Dt} (h:H a=some (.tup vs)) (b:vs.length<=100000) (l:vs.length=ds.length) (e:∀ (i:Nat) (v:V) (d:Dt),vs[i]?=some v->ds[i]?=some d->Rp H F n v d):Rp H F (n+1) (.ref a) (.tup ds)
theorem Rp.mono {F':Addr->Prop} {d:Dt} (r:Rp H F n v d) (k:∀ a o,H a=some o->(∀ xs,o= .lst xs->F a)->H' a=some o) (f:∀ a,F a->F' a):Rp H' F' n v d:=by
  induction r with
  | non=>exact .non
  | bl b=>exact .bl b
  | int i=>exact .int i
  | str z=>exact .str z
  | lst h p b l e ih=>exact .lst (k _ _ h λ _ _=>p) (f _ p) b l λ i v d h1 h2=>ih i v d h1 h2
  | tup h b l e ih=>exact .tup (k _ _ h λ xs q=>by cases q) b l λ i v d h1 h2=>ih i v d h1 h2
theorem Rp.same {d:Dt} (r:Rp H F n v d) (s:Same H H'):Rp H' F n v d:=r.mono (λ a o h _=>s a o h) λ _ h=>h
theorem Rp.imp {F':Addr->Prop} {d:Dt} (r:Rp H F n v d) (f:∀ a,F a->F' a):Rp H F' n v d:=r.mono (λ a o h _=>h) f
theorem Rp.up {d:Dt} (r:Rp H F n v d) (h:n<=m):Rp H F m v d:=by
  induction r generalizing m with
  | non=>exact .non
  | bl b=>exact .bl b
  | int i=>exact .int i
  | str z=>exact .str z
  | lst h p b l e ih=>
    cases m with
    | zero=>exact absurd h (by omega)
    | succ m=>exact .lst ‹_› p b l λ i v d h1 h2=>ih i v d h1 h2 (by omega)
  | tup h b l e ih=>
    cases m with
    | zero=>exact absurd h (by omega)
    | succ m=>exact .tup ‹_› b l λ i v d h1 h2=>ih i v d h1 h2 (by omega)
abbrev FT:Addr->Prop:=λ _=>True
abbrev FN (H:Hp):Addr->Prop:=λ a=>H a=none
theorem Rp.any {d:Dt} (r:Rp H F n v d):Rp H FT n v d:=r.imp λ _ _=>trivial
theorem Rp.new {d:Dt} (r:Rp H F n v d) (h:H p=none):Rp (L2.upd H p o) F n v d:=r.same λ b u e=>by rw [Ai (Ax e h)];exact e
def RZ (ns:List Int):Dt:= .lst (ns.map .int)
theorem Nm (r:Rp H F n v (RZ ns)):∃ a,v= .ref a/\H a=some (.lst (ns.map V.int))/\F a:=by
  unfold RZ at r;cases r with
  | @lst n a vs _ h f b l e=>
    refine ⟨a,rfl,?_,f⟩;rw [h];congr 2;refine Ah7 (by simpa using l) λ i h1 h2=> ?_;have h2':i<ns.length:=by simpa using h2
    have:=e i vs[i] (.int ns[i]) (by simp [h1]) (by simp [h2']);cases hv:vs[i] <;> rw [hv] at this <;> cases this;simp
section
variable {t u:TS} {D:Ends} {te ta tb tk:TE} {tt tu:TT} {Q:VK} {QT:Bool->Hp->Prop} {QA:List V->Hp->Prop} {x:V} {r:R2} {tr:TA} {K:PySem.W.Frag}
theorem Sl (h:t { D with nx:=u D } σ H):US t u D σ H:=h
theorem BM (h:D.nx σ H):R3 D σ H:=h
theorem O1 (h:te σ H λ x H1=>g x σ H1 D.nx):P7 te g D σ H:=h
theorem E6 {QS:St->Hp->Prop} (h:QS (σ.set i (some v)) H):A5 i v σ H QS:=h
theorem OF (e:σ[i]?=some (some v)) (h:Q v H):PZ i σ H Q:=⟨v,e,h⟩
theorem aN (h:Q v H):tC v σ H Q:=h
theorem Z5 (h:ta σ H λ x H1=>tb σ H1 λ y H2=>r x y H2 Q):tOp r ta tb σ H Q:=h
theorem AK {C:Int->Int->Prop} {gg:Int->Int->V} {a b:Int} (c:C a b) (h:Q (gg a b) H):rI C gg (.int a) (.int b) H Q:=⟨a,b,rfl,rfl,c,h⟩
theorem Si {gg:Int->Int->V} {a b:Int} (h:Q (gg a b) H):rI0 gg (.int a) (.int b) H Q:=⟨a,b,rfl,rfl,h⟩
theorem SZ {a b:Int} (h:Q (.bl (decide (a=b))) H):rEq (.int a) (.int b) H Q:=⟨rfl,by rw [show decide (V.int a=V.int b)=decide (a=b) by rw [Ad0];simp];exact h⟩
theorem Tw {a b:Int} (h:Q (.bl (!decide (a=b))) H):rNe (.int a) (.int b) H Q:=⟨rfl,by rw [show decide (V.int a=V.int b)=decide (a=b) by rw [Ad0];simp];exact h⟩
theorem SU {a b:Str} (h:Q (.bl (decide (a=b))) H):rEq (.str a) (.str b) H Q:=⟨rfl,by rw [show decide (V.str a=V.str b)=decide (a=b) by rw [Ad0];simp];exact h⟩
theorem Tr {a:Bool} (h:Q (.bl (decide (a=b))) H):rEq (.bl a) (.bl b) H Q:=⟨rfl,by rw [show decide (V.bl a=V.bl b)=decide (a=b) by rw [Ad0];simp];exact h⟩
theorem SE {a:Bool} (h:Q (.bl (!decide (a=b))) H):rNe (.bl a) (.bl b) H Q:=⟨rfl,by rw [show decide (V.bl a=V.bl b)=decide (a=b) by rw [Ad0];simp];exact h⟩
theorem TK (h:tt σ H λ c H1=>QT (!c) H1):UX tt σ H QT:=h
theorem Re (h:te σ H λ x H'=>∃ k,x= .bl k/\QT k H'):RT te σ H QT:=h
theorem WS (h:te σ H λ x H'=>∃ k,x= .bl k/\QT k H'):tB te σ H QT:=h
theorem Vx {R:Bool->Prop} (h:R b):∃ k,V.bl b= .bl k/\R k:=⟨b,rfl,h⟩
theorem UW (h:tt σ H λ c H1=>if c=true then QT true H1 else tu σ H1 QT):tOr tt tu σ H QT:=h
theorem Tv (h:tt σ H λ c H1=>if c=true then tu σ H1 QT else QT false H1):UE tt tu σ H QT:=h
theorem QQ (h:ta σ H λ x H1=>∃ c,x= .bl c/\if c=true then tb σ H1 Q else Q (.bl false) H1):RU ta tb σ H Q:=h
theorem Qk (h:ta σ H λ x H1=>∃ c,x= .bl c/\Q (.bl (!c)) H1):R1 ta σ H Q:=h
theorem Sj (h:tt σ H λ b H1=>if b=true then t D σ H1 else u D σ H1):Qc tt t u D σ H:=h
theorem UI (h:tt σ H λ c H1=>if c=true then ta σ H1 Q else tb σ H1 Q):tIf tt ta tb σ H Q:=h
theorem Su (h:te σ H D.rt):Yk te D σ H:=h
theorem Rr (h:te σ H λ _ H1=>D.nx σ H1):PM te D σ H:=h
theorem Tc (h:QA [] H):NY σ H QA:=h
theorem QH (h:te σ H λ x H1=>tr σ H1 λ xs H2=>QA (x::xs) H2):Ng te tr σ H QA:=h
theorem S2 (h:tr σ H λ xs H1=>xs.length<=sizeLine/\∀ p,H1 p=none->Q (.ref p) (upd H1 p (.lst xs))):Ws tr σ H Q:=h
theorem Ti (h:tr σ H λ xs H1=>xs.length<=sizeLine/\∀ p,H1 p=none->Q (.ref p) (upd H1 p (.tup xs))):W1 tr σ H Q:=h
theorem Z3 {rr:List V->Hp->VK->Prop} (h:tr σ H λ vs H1=>rr vs H1 Q):tCB rr tr σ H Q:=h
theorem Ql {E:XK} (h:tr σ H λ vs H1=>sp vs H1 Q E):Ly sp [] E tr σ H Q:=by
  unfold Ly;simpa using h
theorem Ub {rs:V->Option Int->Option Int->Hp->VK->Prop} {tl th:TO} (h:te σ H λ x H1=>tl σ H1 λ l H2=>th σ H2 λ u H3=>rs x l u H3 Q):tSl rs te tl th σ H Q:=h
theorem QG (h:te σ H λ x H1=>∃ i,x= .int i/\QO (some i) H1):RD te σ H QO:=h
theorem Nz (h:QO none H):MK σ H QO:=h
theorem Tn {a:Int} {R:Int->Prop} (h:R a):∃ k,V.int a= .int k/\R k:=⟨a,rfl,h⟩
theorem PH (c:SqL K H p xs) (h:∀ q,H q=none->Q (.ref q) (upd H q (.lst (Em xs lo hi)))):Tl K (.ref p) lo hi H Q:=⟨p,xs,rfl,c,h⟩
theorem Qg {z:Str} (c:z.length<=sizeLine) (h:Q (.int z.length) H):Oz K [.str z] H Q:=⟨_,_,rfl,⟨c,rfl⟩,h⟩
theorem A9 (c:SqL K H p xs) (h:Q (.int xs.length) H):Oz K [.ref p] H Q:=⟨_,_,rfl, .inl ⟨xs,c,rfl⟩,h⟩
theorem Hw (c:SqT K H p xs) (h:Q (.int xs.length) H):Oz K [.ref p] H Q:=⟨_,_,rfl, .inr ⟨xs,c,rfl⟩,h⟩
theorem Ph (c:SqL K H p (ns.map V.int)) (h:Q (.int ns.sum) H):WW K [.ref p] H Q:=⟨p,ns,rfl,c,h⟩
theorem IT {bs:List Bool} (c:SqL K H p (bs.map V.bl)) (h:Q (.bl (bs.all id)) H):YN K [.ref p] H Q:=⟨p,bs,rfl,c,h⟩
theorem A1 {n:String} {ty:Value} (c:TyOf K H x ty) (e:PySem.W.kitOne K ty (.type n)=some b) (h:Q (.bl b) H):R7 K [x, .ty n] H Q:=⟨x,n,ty,b,rfl,c,e,h⟩
theorem AF {k:Int} (c:SqL K H p xs) (e:atI xs k=some v) (h:Q v H):Td K (.ref p) (.int k) H Q:=⟨p,xs,k,v,rfl,rfl,c,e,h⟩
theorem Ao {k:Int} (c:SqT K H p xs) (e:atI xs k=some v) (h:Q v H):SM K (.ref p) (.int k) H Q:=⟨p,xs,k,v,rfl,rfl,c,e,h⟩
theorem Ma {z:Str} {k:Int} {c:Nat} (l:z.length<=sizeLine) (e:atI z.cps.toList k=some c) (h:Q (.str ⟨#[c]⟩) H):ZL (.str z) (.int k) H Q:=⟨z,k,c,rfl,rfl,l,e,h⟩
theorem So (c:xs.length<=1000) (h:B):xs.length<=sizeLine/\B:=⟨Ac5 c (by decide),h⟩
end
theorem ED {p A:Prop} [Decidable p] (h1:p->A) (h2:¬ p->B):if decide p=true then A else B:=by
  by_cases h:p
  · rw [if_pos (decide_eq_true h)];exact h1 h
  · rw [if_neg (λ q=>h (of_decide_eq_true q))];exact h2 h
theorem V9 {p A:Prop} [Decidable p] (h1:¬ p->A) (h2:p->B):if (!decide p)=true then A else B:=by
  by_cases h:p
  · rw [decide_eq_true h];exact B2 (h2 h)
  · rw [decide_eq_false h];exact DI (h1 h)
theorem Sx {A:Prop} (h1:b=true->A) (h2:b=false->B):if b=true then A else B:=by
  cases b with
  | true=>exact DI (h1 rfl)
  | false=>exact B2 (h2 rfl)
def tyD:Dt->String | .non=>"NoneType" | .bl _=>"bool" | .int _=>"int" | .str _=>"str" | .lst _=>"list" | .tup _=>"tuple"
def Ew:Dt->Bool | .lst _=>true | _=>false
def CD:Dt->Bool | .tup _=>true | _=>false
def Z7:Dt->Bool | .bl _=>true | _=>false
theorem Rp.ty {K:PySem.W.Frag} {d:Dt} (r:Rp H F n v d):TyOf K H v (.type (tyD d)):=by
  cases r with
  | non=>exact .non
  | bl b=>exact .bl b
  | int i=>exact .int i
  | str z=>exact .str z
  | lst h _ _ _ _=>exact .lst h
  | tup h _ _ _=>exact .tup h
theorem N2:DV "NoneType" "list"=some false/\DV "bool" "list"=some false/\DV "int" "list"=some false/\DV "str" "list"=some false/\DV "list" "list"=some true/\DV "tuple" "list"=some false:=by decide +kernel
theorem Hu {K:PySem.W.Frag} (d:Dt):PySem.W.kitOne K (.type (tyD d)) (.type "list")=some (Ew d):=by
  obtain ⟨h1,h2,h3,h4,h5,h6⟩:=N2;cases d with
  | non=>exact kb h1
  | bl _=>exact kb h2
  | int _=>exact kb h3
  | str _=>exact kb h4
  | lst _=>exact kb h5
  | tup _=>exact kb h6
theorem Mg:DV "NoneType" "tuple"=some false/\DV "bool" "tuple"=some false/\DV "int" "tuple"=some false/\DV "str" "tuple"=some false/\DV "list" "tuple"=some false/\DV "tuple" "tuple"=some true:=by decide +kernel
theorem FR {K:PySem.W.Frag} (d:Dt):PySem.W.kitOne K (.type (tyD d)) (.type "tuple")=some (CD d):=by
  obtain ⟨h1,h2,h3,h4,h5,h6⟩:=Mg;cases d with
  | non=>exact kb h1
  | bl _=>exact kb h2
  | int _=>exact kb h3
  | str _=>exact kb h4
  | lst _=>exact kb h5
  | tup _=>exact kb h6
theorem N7:DV "NoneType" "bool"=some false/\DV "bool" "bool"=some true/\DV "int" "bool"=some false/\DV "str" "bool"=some false/\DV "list" "bool"=some false/\DV "tuple" "bool"=some false:=by decide +kernel
theorem Nh {K:PySem.W.Frag} (d:Dt):PySem.W.kitOne K (.type (tyD d)) (.type "bool")=some (Z7 d):=by
  obtain ⟨h1,h2,h3,h4,h5,h6⟩:=N7;cases d with
  | non=>exact kb h1
  | bl _=>exact kb h2
  | int _=>exact kb h3
  | str _=>exact kb h4
  | lst _=>exact kb h5
  | tup _=>exact kb h6
theorem VP {K:PySem.W.Frag} (d:Dt):PySem.W.kitAny K (.type (tyD d)) (["list","tuple"].map Value.type)=some (Ew d||CD d):=by
  show (match PySem.W.kitOne K (.type (tyD d)) (.type "list") with
    | some true=>some true
    | some false=>(match PySem.W.kitOne K (.type (tyD d)) (.type "tuple") with
      | some true=>some true
      | some false=>some false
      | none=>none)
    | none=>none)=_
  rw [Hu,FR];cases d <;> rfl
theorem OD {K:PySem.W.Frag} {Q:VK} {x:V} {ns:List String} {t:Value} (hp:H p=some (.tup (ns.map V.ty))) (c:TyOf K H x t) (e:PySem.W.kitAny K t (ns.map Value.type)=some b) (h:Q (.bl b) H):OA K [x, .ref p] H Q:=⟨x,p,ns,t,b,rfl,hp,c,e,h⟩
def Br:Dt->List Dt | .lst ds=>ds | .tup ds=>ds | _=>[]
theorem Rp.seq {K:PySem.W.Frag} {d:Dt} (r:Rp H F n v d) (h:(Ew d||CD d)=true):
    ∃ m a vs,n=m+1/\v= .ref a/\SqS (CD d) K H a vs/\vs.length=(Br d).length/\vs.length<=100000/\∀ (i:Nat) (x:V) (e:Dt),vs[i]?=some x->(Br d)[i]?=some e->Rp H F m x e:=by
  cases r with
  | @lst m a vs ds q f b l e=>exact ⟨m,a,vs,rfl,rfl,(show SqL K H a vs from SqL.of q),l,b,e⟩
  | @tup m a vs ds q b l e=>exact ⟨m,a,vs,rfl,rfl,(show SqT K H a vs from SqT.of q),l,b,e⟩
  | non=>cases h
  | bl _=>cases h
  | int _=>cases h
  | str _=>cases h
theorem Nd {K:PySem.W.Frag} {Q:VK} {tp:Bool} (c:SqS tp K H p xs) (h:Q (.int xs.length) H):Oz K [.ref p] H Q:=by
  cases tp with
  | false=>exact A9 c h
  | true=>exact Hw c h
theorem SqS.same {K:PySem.W.Frag} {tp:Bool} (c:SqS tp K H p xs) (s:Same H H'):SqS tp K H' p xs:=by
  cases tp with
  | false=>exact (show SqL K H' p xs from s.seq c)
  | true=>
    rcases (show SqT K H p xs from c) with (q | ⟨o,q⟩) | q
    · exact (show SqT K H' p xs from .inl (.inl (s _ _ q)))
    · exact (show SqT K H' p xs from .inl (.inr ⟨o,s _ _ q⟩))
    · exact (show SqT K H' p xs from .inr q)
theorem Aj (h:H p=none):Same H (upd H p o):=λ b u e=>by rw [Ai (Ax e h)];exact e
theorem Ci (s:Same H H') (h:H D=none):Same H (upd H' D o):=λ b u e=>by rw [Ai (Ax e h)];exact s b u e
theorem Oe {d:Dt} (r:Rp H F n v d) (h:(Ew d||CD d)=false):SV v v=true:=by
  cases r with
  | non=>rfl
  | bl _=>rfl
  | int _=>rfl
  | str _=>rfl
  | lst _ _ _ _ _=>cases h
  | tup _ _ _ _=>cases h
theorem Qn {u:V} {d:Dt} (r:Rp H F n v d) (r2:Rp H F n u d) (h:(Ew d||CD d)=false):v=u:=by
  cases r with
  | non=>cases r2;rfl
  | bl _=>cases r2;rfl
  | int _=>cases r2;rfl
  | str _=>cases r2;rfl
  | lst _ _ _ _ _=>cases h
  | tup _ _ _ _=>cases h
structure SrcOk (J:It) (g:TG) (σ0:St) (H:Hp) (n:Nat) (st:Nat->St):Prop where
  go:∀ i H',i<n->Same H H'->J.go i H'
  stop:∀ H',Same H H'->J.stop n H'
  yld:∀ i H' x H'' (R:St->Hp->Prop),i<n->Same H H'->J.yld i H' x H''->(∀ H3,Same H' H3->R (st i) H3)->g x σ0 H'' R
  kp:∀ i,i<n->Kp σ0 (st i)
section
variable {J:It} {σ0:St} {st:Nat->St} {te:TE} {Q:VK}
theorem Rp.off {d:Dt} (r:Rp H F m v d) (hD:H D=some (.lst xs)) (hF:¬ F D):Rp (L2.upd H D o) F m v d:=by
  refine r.mono (λ a u e q=> ?_) λ _ h=>h;have n:a≠D:=λ z=>by
    subst z;rw [hD] at e;cases e;exact hF (q _ rfl)
  rw [Ai n];exact e
theorem J6 {p:Nat->Bool} {G:Nat->Dt} (S:SrcOk J g σ0 H n st) (hD:H D=none) (hn:n<=100000)
    (ht:∀ i H' (R:Bool->Hp->Prop),i<n->Same H H'->(∀ H3,Same H' H3->R (p i) H3)->tc (st i) H' R)
    (he:∀ i H' (R:VK),i<n->p i=true->Same H H'->(∀ H3 y,Same H' H3->Rp H3 (FN H') m y (G i)->R y H3)->te (st i) H' R)
    (hd:∀ H' ys,Same H H'->H' D=some (.lst ys)->Rp H' (FN H) (m+1) (.ref D) (.lst (((Aa9 n).filter p).map G))->Q (.ref D) H'):
    EV J σ0 g tc te Q H D:=by
  refine ⟨λ i k ys H'=>k=n - i/\i<=n/\Same H H'/\H' D=some (.lst ys)/\ys.length=(((Aa9 i).filter p).map G).length/\∀ (j:Nat) (y:V) (d:Dt),ys[j]?=some y->(((Aa9 i).filter p).map G)[j]?=some d->Rp H' (λ a=>H a=none/\a≠D) m y d,
    ⟨_,rfl,Ad3 _,Ci (Same.refl _) hD,Af,rfl,λ j y d q=>by simp at q⟩,?_⟩
  rintro i k ys H1 ⟨rfl,hi,s1,hl,len,el⟩;have bnd:∀ i,(((Aa9 i).filter p).map G).length<=i:=λ i=>by
    rw [Aa1];exact Ac5 (Af9 _ _) (by simp)
  by_cases hlt:i<n
  · refine .inr ⟨S.go i H1 hlt s1,λ ys' H'=>Same H H'/\H' D=some (.lst ys')/\ys'.length=(((Aa9 (i+1)).filter p).map G).length/\∀ (j:Nat) (y:V) (d:Dt),ys'[j]?=some y->(((Aa9 (i+1)).filter p).map G)[j]?=some d->Rp H' (λ a=>H a=none/\a≠D) m y d,
      λ ys' H' q=>⟨n - (i+1),by omega,rfl,hlt,q⟩,λ x H2 y=> ?_⟩
    refine S.yld i H1 x H2 _ hlt s1 y λ H3 s3=>⟨S.kp i hlt,?_⟩;refine ht i H3 _ hlt (s1.trans s3) λ H4 s4=> ?_;have hl4:H4 D=some (.lst ys):=s4 _ _ (s3 _ _ hl);have s14:Same H H4:=s1.trans (s3.trans s4);cases hp:p i with
    | false=>
      refine B2 ⟨s14,hl4,?_,?_⟩
      · rw [Ag2,Ag3,List.filter_cons,hp];simpa using len
      · intro j y d h1 h2;have e:((Aa9 (i+1)).filter p).map G=((Aa9 i).filter p).map G:=by
          rw [Ag2,Ag3,List.filter_cons,hp];simp
        rw [e] at h2;exact (el j y d h1 h2).same (s3.trans s4)
    | true=>
      refine DI ?_;refine he i H4 _ hlt hp s14 λ H5 y s5 ry=> ?_;have hl5:H5 D=some (.lst ys):=s5 _ _ hl4;have e:((Aa9 (i+1)).filter p).map G=((Aa9 i).filter p).map G++[G i]:=by
        rw [Ag2,Ag3,List.filter_cons,hp];simp
      refine ⟨hl5,?_,?_,Af,?_,?_⟩
      · have:=bnd i;exact Nat.lt_of_le_of_lt (by omega:ys.length<=100000) (by decide)
      · exact Ci (s14.trans s5) hD
      · rw [e,Ac0,Ac0,len];rfl
      · intro j z d h1 h2;rw [e] at h2;have nF:¬ (H D=none/\D≠D):=λ q=>q.2 rfl;by_cases hj:j<ys.length
        · rw [Af0 hj] at h1;rw [Af0 (by omega)] at h2;exact ((el j z d h1 h2).same (s3.trans (s4.trans s5))).off hl5 nF
        · have ej:j=ys.length:=by
            have:=(Ad4.mp h1).1;rw [Ac0] at this;have:([y]:List V).length=1:=rfl;omega
          subst ej;rw [Ae8 (Aa7 _),Nat.sub_self] at h1;rw [len,Ae8 (Aa7 _),Nat.sub_self] at h2;cases h1;cases h2;refine (ry.imp (F':=λ a=>H a=none/\a≠D) λ a ha=>⟨s14.free ha,λ q=> ?_⟩).off hl5 nF;subst q;rw [show H4 a=none from ha] at hl4;cases hl4
  · have e:i=n:=by omega
    subst e;refine .inl ⟨S.stop H1 s1,hd H1 ys s1 hl (.lst hl hD ?_ len λ j y d h1 h2=>(el j y d h1 h2).imp λ a q=>q.1)⟩;have:=bnd i;omega
theorem Bd {G:Nat->Dt} (S:SrcOk J g σ0 H n st) (hD:H D=none) (hn:n<=100000)
    (he:∀ i H' (R:VK),i<n->Same H H'->(∀ H3 y,Same H' H3->Rp H3 (FN H') m y (G i)->R y H3)->te (st i) H' R)
    (hd:∀ H' ys,Same H H'->H' D=some (.lst ys)->Rp H' (FN H) (m+1) (.ref D) (.lst ((Aa9 n).map G))->Q (.ref D) H'):
    EV J σ0 g LX te Q H D:=by
  refine J6 (p:=λ _=>true) (m:=m) (G:=G) S hD hn (λ i H' R _ _ k=>k H' (Same.refl _)) (λ i H' R hi _ s k=>he i H' R hi s k) λ H' ys s hl r=>hd H' ys s hl ?_;have e:(Aa9 n).filter (λ _=>true)=Aa9 n:=by simp
  rw [e] at r;exact r
variable {K:PySem.W.Frag} {b:Addr} {zs:List V}
theorem Bf (h:SqL K H a xs) (h0:σ0[0]?=some none):SrcOk (Itl K a) (A5 0) σ0 H xs.length (λ i=>σ0.set 0 (some (xs.getD i .non))) where
  go:=λ i H' hi s=>⟨xs,xs[i],s.seq h,by simp [hi]⟩
  stop:=λ H' s=>⟨xs,s.seq h,Aa7 _⟩
  yld:=λ i H' x H'' R hi s y k=>by
    obtain ⟨e,hv⟩:=y;subst e;have e:x=xs.getD i .non:=by
      have:=hv xs (s.seq h);rw [Aa2,this];rfl
    subst e;exact k _ (Same.refl _)
  kp:=λ i hi=>(Kp.refl _).set h0
theorem E5 (h:SqT K H a xs) (h0:σ0[0]?=some none):SrcOk (Itt K a) (A5 0) σ0 H xs.length (λ i=>σ0.set 0 (some (xs.getD i .non))) where
  go:=λ i H' hi s=>⟨xs,xs[i],(SqS.same (tp:=true) h s),by simp [hi]⟩
  stop:=λ H' s=>⟨xs,(SqS.same (tp:=true) h s),Aa7 _⟩
  yld:=λ i H' x H'' R hi s y k=>by
    obtain ⟨e,hv⟩:=y;subst e;have e:x=xs.getD i .non:=by
      have:=hv xs (SqS.same (tp:=true) h s);rw [Aa2,this];rfl
    subst e;exact k _ (Same.refl _)
  kp:=λ i hi=>(Kp.refl _).set h0
theorem Gq {lo:Int} (h0:σ0[0]?=some none):SrcOk (Itr lo n) (A5 0) σ0 H n (λ i=>σ0.set 0 (some (.int (lo+i)))) where
  go:=λ i H' hi s=>hi
  stop:=λ H' s=>Aa7 _
  yld:=λ i H' x H'' R hi s y k=>by
    obtain ⟨e,hv⟩:=y;subst e hv;exact k _ (Same.refl _)
  kp:=λ i hi=>(Kp.refl _).set h0
theorem Lp (h:SqL K H a xs) (h0:σ0[0]?=some none) (h1:σ0[1]?=some none):SrcOk (Ite K a) (JD K 2 (CB (A5 0) (CB (A5 1) KO))) σ0 H xs.length (λ i=>(σ0.set 0 (some (.int i))).set 1 (some (xs.getD i .non))) where
  go:=λ i H' hi s=>⟨xs,xs[i],s.seq h,by simp [hi]⟩
  stop:=λ H' s=>⟨xs,s.seq h,Aa7 _⟩
  yld:=λ i H' x H'' R hi s y k=>by
    obtain ⟨p,v,hp,rfl,rfl,hv⟩:=y;have e:v=xs.getD i .non:=by
      have:=hv xs (s.seq h);rw [Aa2,this];rfl
    subst e;exact ⟨p,_,rfl,SqT.of Af,rfl,_,_,rfl,_,_,rfl,rfl,k _ (Aj hp)⟩
  kp:=λ i hi=>((Kp.refl _).set h0).set h1
end
theorem Bl {α β:Type} (f:α->β) (xs:List α) (d:α):(Aa9 xs.length).map (λ i=>f (xs.getD i d))=xs.map f:=by
  refine Ah7 (by simp) λ i h1 h2=> ?_;have hi:i<xs.length:=by simpa using h2
  simp [Aa2,hi]
theorem Pl (a b c:Int) (hc:c≠0):0<=Builtin.Range.rangeSize a b c/\Builtin.Range.rangeSize a b c<=(b - a).natAbs:=by
  unfold Builtin.Range.rangeSize;split
  · rename_i h
    split
    · rename_i h2
      have h3:0<=(b - a - 1) / c:=Int.ediv_nonneg (by omega) (by omega);have h4:(b - a - 1) / c<=b - a - 1:=Int.ediv_le_self _ (by omega);omega
    · omega
  · rename_i h
    split
    · rename_i h2
      have h3:0<=(a - b - 1) / (-c):=Int.ediv_nonneg (by omega) (by omega);have h4:(a - b - 1) / (-c)<=a - b - 1:=Int.ediv_le_self _ (by omega);omega
    · omega
theorem QI {a b c:Int} (ha: -(2 ^ 40)<=a/\a<2 ^ 40) (hb: -(2 ^ 40)<=b/\b<2 ^ 40) (hc: -(2 ^ 20)<=c/\c<2 ^ 20) (h0:c≠0):Builtin.Range.small a b c=true:=by
  have h:=Pl a b c h0;unfold Builtin.Range.small;simp only [Builtin.Range.rangeFitsLong,Ad9,Bool.or_eq_true,decide_eq_true_eq,beq_iff_eq];generalize Builtin.Range.rangeSize a b c=n at h;have hn:(b - a).natAbs<2 ^ 42:=by omega
  refine ⟨⟨⟨⟨by omega,by omega⟩,by omega⟩,by omega⟩, .inr ?_⟩;split <;> rw [Ad9,decide_eq_true_eq,decide_eq_true_eq] <;> omega
def Itc (lo c:Int) (n:Nat):It:=⟨λ i _=>i<n,λ i H x H'=>H'=H/\x= .int (lo+i*c),λ i _=>n<=i⟩
theorem La {K:PySem.W.Frag} (it:Addr) (lo c:Int) (n:Nat):Turn P w K tg (Itc lo c n) [it] it (λ i h=>IsRangeIter h it (lo+(i:Nat)*c) ((n:Int) - (i:Nat)) c) where
  mem:=by simp
  obj:=λ i h st b hb=>by
    have e:b=it:=by simpa using hb
    subst e;exact ⟨_,st,λ v z=>by cases (show Data.fields _=Data.cell v from z)⟩
  keep:=λ i h h' st k=>k it (by simp) _ st
  item:=by
    intro X hP hw hK hc i pins s σ H E I hf st hg;subst hP hw hK;obtain ⟨f0,f1,f2,f3,f4,f5⟩:=hf it (by simp);have W:=Walks.range (prog:=X.prog) (w:=X.w) (I.ok.hd hc) it lo c n;refine W.item i s _ _ hg st λ v h' tk hv st' kk=> ?_;obtain ⟨t,rfl⟩:=hv;have I1:Inv X pins σ H { s with heap:=h',toks:=tk }:=I.turned (λ b o hb e=>kk b o (by simpa using hb) e) f0 f1 f3 f4 f5;exact ⟨_,rfl,Nf (s:={ s with heap:=h',toks:=tk }) (n:="range_iterator") st' rfl rfl (by decide) ⟨.int (lo+i*c),H,I1,⟨t,rfl⟩,⟨rfl,rfl⟩,st',λ b hb=>(hf b hb).1⟩⟩
  done:=by
    intro X hP hw hK hc i pins s σ H E I hf st hg;subst hP hw hK;obtain ⟨f0,f1,f2,f3,f4,f5⟩:=hf it (by simp);exact wpAny_pyNext_range_end (I.ok.hd hc) st (by have:n<=i:=hg;omega) λ h' eb=>⟨rfl,I.turned (t':=s.toks) (λ b o hb e=>eb b o hb e) f0 f1 f3 f4 f5⟩
  self:=λ _ _ _ _ _ st h=>wpAny_pyIter_rangeiter st h
section
def R0 (ta:TA):TI:=λ σ H R=>ta σ H λ vs H1=>∃ i j c:Int,vs=[.int i, .int j, .int c]/\(-(2 ^ 40)<=i/\i<2 ^ 40)/\(-(2 ^ 40)<=j/\j<2 ^ 40)/\(-(2 ^ 20)<=c/\c<2 ^ 20)/\c≠0/\R (Itc i c (Builtin.Range.rangeSize i j c).toNat) H1
theorem Nv {a b c:Expr} {ta:TA} {p:Pos} (hg:Gl X "range") (hm:X.mg "range"=none) (ha:PA X [a,b,c] ta) (hs:starEach [a,b,c] X.env=[(false,eval a X.env),(false,eval b X.env),(false,eval c X.env)]:=by rfl)
    (hs2:starEach [b,c] X.env=[(false,eval b X.env),(false,eval c X.env)]:=by rfl):PI X tg (.Call (.Name "range" p) [a,b,c] [] pos) (R0 ta):=by
  intro pins s σ H R I h;refine Call_ (Cd I hg hm boot_range (PyProof.Rows.callWith_type1 (thn (ha pos pins s σ H _ I h) λ us s1 ⟨vs,H1,I1,r1,q1⟩=> ?_) (by rw [hs,hs2]) (by rw [hs2];rfl)));obtain ⟨i,j,k,e,h1,h2,h3,h0,q⟩:=q1;subst e;cases r1 with
  | cons r rr=>
    cases rr with
    | cons r' rr=>
      cases rr with
      | cons r'' rr=>
        cases rr;obtain ⟨t,rfl⟩:=r;obtain ⟨t',rfl⟩:=r';obtain ⟨t'',rfl⟩:=r'';refine call_range_3 h0 ?_ (.inl (PyProof.noPylong_small (by omega)));refine wpAny_pyIter_range (IsRange.new ..) (QI h1 h2 h3 h0) ?_;have I2:Inv X pins σ H1 { s1 with heap:=s1.heap.push { cls:= .type "range",data:= .fields #[.int i t, .int j t', .int k t''] },toks:=s1.toks }:=I1.kept λ b o e=>Aa3 _ e;refine ⟨(s1.heap.push { cls:= .type "range",data:= .fields #[.int i t, .int j t', .int k t''] }).objs.size,[(s1.heap.push { cls:= .type "range",data:= .fields #[.int i t, .int j t', .int k t''] }).objs.size],_,_,H1,rfl,
          I2.kept (t':=s1.toks) λ b o e=>Aa3 _ e,La _ i k (Builtin.Range.rangeSize i j k).toNat,?_,λ b hb=> ?_,q⟩
        · have e1:i+((0:Nat):Int)*k=i:=by simp
          have e2:(((Builtin.Range.rangeSize i j k).toNat:Nat):Int) - ((0:Nat):Int)=Builtin.Range.rangeSize i j k:=by have:=(Pl i j k h0).1;omega
          show IsRangeIter _ _ (i+((0:Nat):Int)*k) ((((Builtin.Range.rangeSize i j k).toNat:Nat):Int) - ((0:Nat):Int)) k;rw [e1,e2];exact Aa6 _ rfl
        · have e:b=(s1.heap.push { cls:= .type "range",data:= .fields #[.int i t, .int j t', .int k t''] }).objs.size:=by simpa using hb
          subst e;exact I2.fpOk (Aa7 _) (I2.hok.fresh (Aa7 _))
theorem My {lo c:Int} {σ0:St} (h0:σ0[0]?=some none):SrcOk (Itc lo c n) (A5 0) σ0 H n (λ i=>σ0.set 0 (some (.int (lo+i*c)))) where
  go:=λ i H' hi s=>hi
  stop:=λ H' s=>Aa7 _
  yld:=λ i H' x H'' R hi s y k=>by
    obtain ⟨e,hv⟩:=y;subst e hv;exact k _ (Same.refl _)
  kp:=λ i hi=>(Kp.refl _).set h0
def WO:List V->Hp->VK->Prop:=λ xs H Q=>∃ b:Bool,xs=[.bl b]/\Q (.int (if b=true then 1 else 0)) H
end
theorem Mn:BY X (.type "int") WO:=by
  intro pins s σ H xs us Q I r h;obtain ⟨b,rfl,q⟩:=h;exact NB pins s σ H _ us Q I r (.inr ⟨b,rfl,q⟩)
end L2
variable {f z x b i1 i2 I l1 l2 C y lp dx q:PySem.Addr} {Q:L2.VK} {vs:List L2.V} {ep j:Nat} {B H1 H2:L2.Hp} {ls:List (List Nat)} {ns:List Nat} {ds:List L2.Dt} {σ0:L2.St} {ta t:L2.TA} {J:L2.It} {base:PySem.Heap} {d0 d1 d2:L2.Dt} {v0:L2.V} {zs:List PySem.Str} {ks:List Int} {apos:PySem.Pos} {st:Nat->L2.St} {QS:L2.St->L2.Hp->Prop} {F' G:PySem.Addr->Prop} {r:L2.V->List L2.V->L2.Hp->L2.VK->Prop} {fp:List PySem.Addr} {S:PySem.Addr->L2.Sp->Prop} {R:List (L2.V × L2.V)->L2.Hp->Prop}
namespace MM
theorem Lq {α:Type} {p:List α->Prop} (h0:p []) (h1:∀ l a,p l->p (l++[a])):∀ l,p l:=λ l=>by
  have h:∀ r:List α,p r.reverse:=λ r=>by
    induction r with
    | nil=>exact h0
    | cons a r ih=>rw [List.reverse_cons];exact h1 _ _ ih
  have:=h l.reverse
  rwa [List.reverse_reverse] at this
theorem or_add_and (a:Nat):∀ b:Nat,(a ||| b)+(a &&& b)=a+b:=by
  induction a using Nat.strongRecOn with
  | ind a ih=>
    intro b;by_cases h:a=0
    · subst h;simp
    · have ih':=ih (a / 2) (by omega) (b / 2);have e1:(a ||| b)=2*((a ||| b) / 2)+(a ||| b)%2:=by omega
      have e2:(a &&& b)=2*((a &&& b) / 2)+(a &&& b)%2:=by omega
      have d1:(a ||| b) / 2=a / 2 ||| b / 2:=by simpa using Nat.or_div_two (a:=a) (b:=b)
      have d2:(a &&& b) / 2=a / 2 &&& b / 2:=by simpa using Nat.and_div_two (a:=a) (b:=b)
      have m1:(a ||| b)%2+(a &&& b)%2=a%2+b%2:=by
        have z:∀ x:Nat,x%2=(x.testBit 0).toNat:=λ x=>by rw [Nat.toNat_testBit];simp
        rw [z (a ||| b),z (a &&& b),z a,z b,Nat.testBit_or,Nat.testBit_and];cases a.testBit 0 <;> cases b.testBit 0 <;> rfl
      rw [d1] at e1;rw [d2] at e2;omega
def ofB (f:Nat->Bool):Nat->Nat
  | 0=>0
  | w+1=>ofB f w+(f w).toNat*2 ^ w
theorem ofB_lt (f:Nat->Bool):∀ w,ofB f w<2 ^ w
  | 0=>by simp [ofB]
  | w+1=>by
    have:=ofB_lt f w;unfold ofB;rw [Nat.pow_succ];cases f w <;> simp <;> omega
theorem ofB_bit (f:Nat->Bool):∀ w i,(ofB f w).testBit i=(decide (i<w)&&f i)
  | 0,i=>by simp [ofB]
  | w+1,i=>by
    have hl:=ofB_lt f w;unfold ofB;have e:ofB f w+(f w).toNat*2 ^ w=2 ^ w*(f w).toNat+ofB f w:=by rw [Nat.mul_comm];omega
    rw [e,Nat.testBit_two_pow_mul_add _ hl];by_cases h:i<w
    · rw [if_pos h,ofB_bit f w i];simp [h,Nat.lt_succ_of_lt h]
    · rw [if_neg h];by_cases h2:i=w
      · subst h2;cases f i <;> simp
      · have h3:¬ i<w+1:=by omega
        have h4:i - w≠0:=by omega
        have h5:(1:Nat).testBit (i - w)=false:=by
          obtain ⟨d,hd⟩:∃ d,i - w=d+1:=⟨i - w - 1,by omega⟩;rw [hd,Nat.testBit_succ];simp
        cases f w
        · simp [h3]
        · simp only [Bool.toNat_true,h5,h3,decide_false,Bool.false_and]
theorem Px (m w:Nat) (h:m<2 ^ w):ofB m.testBit w=m:=by
  refine Nat.eq_of_testBit_eq λ i=> ?_;rw [ofB_bit];by_cases hi:i<w
  · simp [hi]
  · have:m.testBit i=false:=Ae6 (Ab3 h (Ae7 (by decide) (by omega)));simp [hi,this]
theorem NH {f g:Nat->Bool} {w:Nat} (h:∀ i,i<w->f i=g i):ofB f w=ofB g w:=by
  refine Nat.eq_of_testBit_eq λ i=> ?_;rw [ofB_bit,ofB_bit];by_cases hi:i<w
  · simp [hi,h i hi]
  · simp [hi]
theorem eq_ofB {w:Nat} {f:Nat->Bool} (h:m<2 ^ w) (b:∀ i,i<w->m.testBit i=f i):m=ofB f w:=by
  rw [<-Px m w h];exact NH b
theorem bit_div (m e:Nat):m / 2 ^ e%2=(m.testBit e).toNat:=by
  rw [Nat.testBit_eq_decide_div_mod_eq];have:m / 2 ^ e%2<2:=Nat.mod_lt _ (by decide);by_cases h:m / 2 ^ e%2=1
  · simp [h]
  · have:m / 2 ^ e%2=0:=by omega
    simp [this]
theorem sum_bits (f:Nat->Bool) (w:Nat):((Aa9 w).map λ e=>(f e).toNat*2 ^ e).sum=ofB f w:=by
  induction w with
  | zero=>rfl
  | succ w ih=>rw [Ag2,Ae0,List.sum_append,ih];simp [ofB]
def mOf (ns:List Nat):Nat:=ns.foldl (λ m n=>m ||| 2 ^ (n - 1)) 0
theorem mOf_snoc (ns:List Nat) (n:Nat):mOf (ns++[n])=mOf ns ||| 2 ^ (n - 1):=by unfold mOf;rw [List.foldl_append];rfl
theorem mOf_bit (ns:List Nat) (i:Nat):(mOf ns).testBit i=ns.any λ n=>decide (n - 1=i):=by
  refine Lq (p:=λ ns=>(mOf ns).testBit i=ns.any λ n=>decide (n - 1=i)) (by simp [mOf]) (λ l a ih=> ?_) ns
  · rw [mOf_snoc,Nat.testBit_or,ih,List.any_append,Nat.testBit_two_pow];simp
theorem mOf_lt {w:Nat} (h:∀ n∈ns,n - 1<w):mOf ns<2 ^ w:=by
  refine Nat.lt_pow_two_of_testBit _ λ i hi=> ?_;rw [mOf_bit,List.any_eq_false];intro n hn;have:=h n hn;simp;omega
def uOf (ms:List Nat):Nat:=ms.foldl (λ m n=>m ||| n) 0
theorem uOf_snoc (ns:List Nat) (n:Nat):uOf (ns++[n])=uOf ns ||| n:=by unfold uOf;rw [List.foldl_append];rfl
theorem uOf_bit (ns:List Nat) (i:Nat):(uOf ns).testBit i=ns.any λ n=>n.testBit i:=by
  refine Lq (p:=λ ns=>(uOf ns).testBit i=ns.any λ n=>n.testBit i) (by simp [uOf]) (λ l a ih=> ?_) ns;rw [uOf_snoc,Nat.testBit_or,ih,List.any_append];simp
def bits (m:Nat):Nat:=if m=0 then 0 else m.log2+1
theorem MU (m:Nat):m<2 ^ bits m:=by
  unfold bits;split
  · subst_vars;decide
  · exact Nat.lt_log2_self
theorem bits_le {w:Nat} (h:m<2 ^ w):bits m<=w:=by
  unfold bits;split
  · exact Ad3 _
  · rename_i h0
    exact (Nat.log2_lt h0).mpr h
def nOf (m:Nat):List Nat:=((Aa9 (bits m)).filter m.testBit).map (· + 1)
theorem nOf_mem (m n:Nat):n∈nOf m↔1<=n/\m.testBit (n - 1)=true:=by
  unfold nOf;simp only [Ac3,Ag0,Ae9];constructor
  · rintro ⟨k,⟨_,h⟩,rfl⟩;exact ⟨by omega,by simpa using h⟩
  · rintro ⟨h1,h2⟩;refine ⟨n - 1,⟨?_,h2⟩,by omega⟩;rcases Ah4 (n - 1) (bits m) with q | q
    · exact q
    · rw [Ae6 (Ab3 (MU m) (Ae7 (by decide) q))] at h2;cases h2
theorem Pe {w:Nat} (h:m<2 ^ w):nOf m=((Aa9 w).filter m.testBit).map (· + 1):=by
  unfold nOf;have hb:=bits_le h;obtain ⟨d,rfl⟩:∃ d,w=bits m+d:=⟨w - bits m,by omega⟩;congr 1;rw [List.range_add,Ag3];have e:((Aa9 d).map (bits m+ ·)).filter m.testBit=[]:=by
    rw [List.filter_eq_nil_iff];intro x hx;obtain ⟨k,_,rfl⟩:=Ac3.mp hx;rw [Ae6 (Ab3 (MU m) (Ae7 (by decide) (Nat.le_add_right _ _)))];simp
  rw [e,List.append_nil]
theorem nOf_len {w:Nat} (h:m<2 ^ w):(nOf m).length<=w:=by
  rw [Pe h,Aa1];exact Ac5 (Af9 _ _) (by simp)
end MM
namespace L2
open PySem PySem.Spec PyProof.Rows
section
theorem JQ {x:Str} {i:Int} (h:∃ t,X.mg x=some (.int i t)) (hg:Gl X x:=by rfl) (hd:(x == ("__debug__":Str))=false:=by decide):PE X (.Name x pos) (tC (.int i)):=by
  obtain ⟨t,e⟩:=h;exact KW hg e ⟨t,rfl⟩ hd
theorem MS {x z:Str} (h:∃ t,X.mg x=some (.str z t)) (hg:Gl X x:=by rfl) (hd:(x == ("__debug__":Str))=false:=by decide):PE X (.Name x pos) (tC (.str z)):=by
  obtain ⟨t,e⟩:=h;exact KW hg e ⟨t,rfl⟩ hd
end
section
variable {td ty tv:TE} {D:Ends}
theorem Ri (h:td σ H λ x H1=>ty σ H1 λ y H2=>∃ a v,x= .ref a/\DGet H2 a y (some v)/\Q v H2):RJ td ty σ H Q:=h
theorem Kj {R:VK} {z:Str} (ha:H a=some (.dK kvs)) (e:Hl kvs (.inr z)=some v) (h:R v H):∃ b u,V.ref a= .ref b/\DGet H b (.str z) (some u)/\R u H:=⟨a,v,rfl,e▸DGet.k (k:= .inr z) ha,h⟩
theorem Qd {trs:List (TE × TE)} (h:∀ p,H p=none->FE trs σ (upd H p (.dK [])) λ ps H2=>H2 p=some (.dK [])/\∃ kvs:List (Key × V),ps=kvs.map (λ kv=>(kV kv.1,kv.2))/\kvs.length<=15/\Q (.ref p) (upd H2 p (.dK (AR [] kvs)))):RN trs σ H Q:=h
theorem QF (h:R [] H):FE [] σ H R:=h
theorem O4 {tk tw:TE} {r:List (TE × TE)} (h:tk σ H λ x H1=>tw σ H1 λ y H2=>FE r σ H2 λ ps H3=>R ((x,y)::ps) H3):FE ((tk,tw)::r) σ H R:=h
end
theorem Room.units1 {k:Nat} (r:Room k A):A.units+1<cLine:=by have:=r.un;omega
section
variable {K:PySem.W.Frag} {to:TE} {y:V}
theorem Tu (h:to σ H λ x H1=>tyV K T x H1/\r x [] H1 Q):S4 K T r to σ H Q:=h
theorem Zr (h:to σ H λ x H1=>tyV K T x H1/\t σ H1 λ xs H2=>r x xs H2 Q):tBM K T r to t σ H Q:=h
theorem tyL {B:Prop} (c:SqL K H l xs) (h:B):tyV K "list" (.ref l) H/\B:=⟨.inl ⟨rfl,xs,c⟩,h⟩
theorem tyI {B:Prop} {i:Int} (h:B):tyV K "int" (.int i) H/\B:=⟨rfl,h⟩
theorem DW (c:H l=some (.lst xs)) (b:xs.length<16777216) (h:Q .non (upd H l (.lst (xs++[y])))):rAppend (.ref l) [y] H Q:=⟨l,xs,y,rfl,rfl,c,by rw [sizeLine_eq];exact b,h⟩
theorem FC (c:SqL K H l xs) (d:SqL K H p ys) (b:xs.length+ys.length<=16777216) (h:∀ q,H q=none->Q (.ref q) (upd H q (.lst (xs++ys)))):ON K (.ref l) (.ref p) H Q:=⟨l,p,xs,ys,rfl,rfl,c,d,by rw [sizeLine_eq];exact b,h⟩
theorem O3 {k:Int} (c:H l=some (.lst xs)) (b1:0<=k) (b2:k<=100000) (b3:xs.length<=100) (h:∀ q,H q=none->Q (.ref q) (upd H q (.lst (Ab5 k.toNat xs).flatten))):X3 (.ref l) (.int k) H Q:=
  ⟨l,k,xs,rfl,rfl,c,by omega,by omega,by
    rw [sizeLine_eq];have h1:k.toNat<=100000:=by omega
    exact Ac5 (Nat.mul_le_mul b3 h1) (by decide),h⟩
theorem Rv {as bs:List Int} (c:SqL K H l (as.map V.int)) (d:SqL K H p (bs.map V.int)) (h:Q (.bl (decide (as=bs))) H):LT K false (.ref l) (.ref p) H Q:=
  ⟨l,p,_,_,rfl,rfl,c,d,Ge as,Ge bs,by rw [LN];exact h⟩
theorem QY {as bs:List Int} (c:SqL K H l (as.map V.int)) (d:SqL K H p (bs.map V.int)) (h:Q (.bl (!decide (as=bs))) H):LT K true (.ref l) (.ref p) H Q:=
  ⟨l,p,_,_,rfl,rfl,c,d,Ge as,Ge bs,by rw [LN];exact h⟩
theorem Fa (c:SqL K H z xs) (h:∀ q,H q=none->Q (.ref q) (upd H q (.lst xs))):FK K [.ref z] H Q:=⟨z,xs,rfl, .inl c,h⟩
theorem Bi (c:SqT K H z xs) (h:∀ q,H q=none->Q (.ref q) (upd H q (.lst xs))):FK K [.ref z] H Q:=⟨z,xs,rfl, .inr c,h⟩
theorem Bt (c:SqL K H z xs) (h:∀ q,H q=none->Q (.ref q) (upd H q (.tup xs))):Ll K [.ref z] H Q:=⟨z,xs,rfl, .inl ⟨c,h⟩⟩
end
end L2
namespace L2
open PySem
open Sem (wp)
open AutoSeq1 (wpAny_loadPart')
section
theorem LQ {newId:String} {Bn:Builtin} {v:Value} {x:Str} {Q:Value->Shared->Prop} (ft:TypeCalled T newId "object.__init__") (hne:(some newId != some "object.__new__")=true)
    (hct:checkTypeCall T ⟨[v],[(x,u)]⟩=pure ()) (hcn:checkBuiltinCall newId ⟨[.type T,v],[(x,u)]⟩=pure ()) (hok:∀ obj,argsOk "object.__init__" ⟨[obj,v],[(x,u)]⟩) (entryN:entryFor table newId=some Bn)
    (g:wpAny (model prog w) A.in1.in1 (Bn ⟨[.type T,v],[(x,u)]⟩) (λ fin s1=>∃ obj,fin= .done (.ret obj)/\s1.TypeIs obj T/\Q obj s1) E s):wpAny (model prog w) A (call (.type T) [v] [(x,u)]) Q E s:=by
  obtain ⟨c,tl,hmro⟩:=ft.mro;have hmade:=ft.made;have hsub:=ft.sub;refine wpAny_call (codeAny_of_tree ?_);show wpAny _ _ (callAny (.type T) _) _ _ _;refine Aa5 ⟨Code.quiet_builtin _ (by decide +kernel),codeAny_builtin F.entry_type_call ?_⟩;rw [Around.under_plain (weight_type_call_type T [v] [(x,u)]) (units_type_call_type T [v] [(x,u)])];have h1:=ft.notType;have h2:=ft.canCreate
  repeat (any_goals (first | assumption | wp_step))
  refine codeAny_call_builtin ft.plain entryN (wpAny_of_eq hcn (Af1 g (λ fin s1 q=> ?_) λ _ _ q=>q));obtain ⟨obj,rfl,hT,q⟩:=q;have hli:=ft.init.lookup;have hbi:=ft.init.bind obj;show wpAny _ _ _ _ _ _
  repeat (any_goals (first | assumption | wp_step))
  refine codeAny_call_builtin ft.init.plain F.entry_object_init (ft.init.check _ _ _ _ _ _ _ _ hT (hok obj) ?_)
  repeat (any_goals (first | assumption | wp_step))
  trace_state
theorem LL {v:Value} {t:Tok} {Q:Value->Shared->Prop}
    (h:wpAny (model prog w) A (pyIter v) (λ itv s1=>Q (.ref s1.heap.objs.size) { s1 with heap:=s1.heap.push { cls:= .type "enumerate",data:= .fields #[.none, .bool false,itv,rawInt 1, .none, .none] } }) E s):
    wpAny (model prog w) A (Builtin.«enumerate.__new__» ⟨[.type "enumerate",v],[("start", .int 1 t)]⟩) (λ fin s1=>∃ obj,fin= .done (.ret obj)/\Q obj s1) E s:=by
  have hsub:=sub_enumerate;have hit:∀ {R:Value->Shared->Prop},(∀ itv s1,Q (.ref s1.heap.objs.size) { s1 with heap:=s1.heap.push { cls:= .type "enumerate",data:= .fields #[.none, .bool false,itv,rawInt 1, .none, .none] } }->R itv s1)->wpAny (model prog w) A (pyIter v) R E s:=λ k=>Af1 h k λ _ _ q=>q;unfold Builtin.«enumerate.__new__»
  wp_walk
  refine wpAny_stack_any λ st=>Aa5 ?_;split
  · rename_i c _ _ _ _ _
    cases (c == Value.type "enumerate")
    · wp_walk using hit
      intro itv s1 q
      wp_walk
      exact ⟨_,rfl,q⟩
    · wp_walk using hit
      intro itv s1 q
      wp_walk
      exact ⟨_,rfl,q⟩
  · wp_walk using hit
    intro itv s1 q
    wp_walk
    exact ⟨_,rfl,q⟩
theorem II {v:Value} {t:Tok} {Q:Value->Shared->Prop}
    (h:wpAny (model prog w) A.in1.in1 (pyIter v) (λ itv s1=>∃ it,itv= .ref it/\∀ h',IsEnum h' s1.heap.objs.size it 1 .none->(∀ b o,s1.heap.get? b=some o->h'.get? b=some o)->h'.objs.size=s1.heap.objs.size+1->Q (.ref s1.heap.objs.size) { s1 with heap:=h' }) E s):
    wpAny (model prog w) A (call (.type "enumerate") [v] [("start", .int 1 t)]) Q E s:=by
  refine LQ F.called_enumerate (by decide) (by kernel_rfl) (by kernel_rfl) (λ obj=>by unfold argsOk;kernel_rfl) F.entry_enumerate_new (LL (Af1 h (λ itv s1 q=> ?_) λ _ _ q=>q));obtain ⟨it,rfl,q⟩:=q;refine ⟨⟨_,Aa6 _ rfl,rfl⟩,q _ (Aa6 _ rfl) (λ b o e=>Aa3 _ e) (Ad7 ..)⟩
end
theorem Sw {Pv:Nat->Value->Prop} {St:Nat->Heap->Prop} (k:Nat) (D:Draws prog w A it fp n Pv St):
    Draws prog w A it fp (n+k) (λ i v=>∃ j,i=j+k/\Pv j v) (λ i h=>∃ j,i=j+k/\St j h) where
  live:=λ i h ⟨j,_,st⟩=>D.live j h st
  frame:=λ i h h' ⟨j,e,st⟩ q=>⟨j,e,D.frame j h h' st q⟩
  item:=λ i s Q E hi ⟨j,e,st⟩ hQ=>D.item j s Q E (by omega) st λ x h' tk p st' sb=>hQ x h' tk ⟨j,e,p⟩ ⟨j+1,by omega,st'⟩ sb
  done:=λ s Q E ⟨j,e,st⟩ hE=>D.done s Q E (by
    have q:j=n:=by omega
    rw [q] at st;exact st) hE
theorem GT {M:Model} {args:List (Bool × Sem Value)} {kws:List (Option Str × Sem Value)} {Q:Value->Shared->Prop}
    (hp:args.any (·.1)=false) (hk:kws.any (·.1.isNone)=false) (h:wpAny M A (evalArgs (.type T) true args kws) (λ a s1=>wpAny M A (call (.type T) a.pos a.kw) Q E s1) E s):wpAny M A (callWith pos (.type T) [] args kws) Q E s:=by
  unfold callWith;refine Aa0 (Ad5 (Af1 h (λ a s1 h1=>Aa0 (wpAny_standAt ?_)) λ _ _ q=>q));simp only [hp,hk,Bool.or_false];refine Aa0 (Aa5 ?_);refine Aa0 (Af1 h1 (λ r s2 hr=> ?_) λ _ _ q=>q);exact Aa0 (Ad5 (wpAny_point (Aa5 hr)))
end L2
namespace L2
open PySem PySem.Spec PyProof.Rows
theorem Sn (hh:A.handled=none) (tp:Bool) (it l:Addr) (hne:l≠it) (items:Array Value):
    Draws prog w A it [it,l] items.size (λ i v=>items[i]?=some v) (λ i h=>By tp h it l i/\A8 tp h l items) where
  live:=λ _ _ st=>let ⟨o,e,_⟩:=A4 st.1;⟨o,e⟩
  frame:=λ _ _ _ st hk=>⟨An st.1 λ o e=>hk it (by simp) o e,AX st.2 λ o e=>hk l (by simp) o e⟩
  item:=λ i s Q E hi st hQ=>Bv st.1 st.2 (x:=items[i]) (by simp [hi]) λ h' hit sb=>hQ _ h' s.toks (by simp [hi]) ⟨hit,AX st.2 λ o e=>(sb.2 l hne).trans e⟩ sb
  done:=λ s Q E st hE=>CG hh st.1 st.2 (by simp) hE
def PP (tp:Bool) (K:PySem.W.Frag) (a:Addr):It:=
  ⟨λ i H=>∃ xs x,SqS tp K H a xs/\xs[i]?=some x,λ i H v H'=>∃ p x,H p=none/\v= .ref p/\H'=upd H p (.tup [.int ((i+1:Nat):Int),x])/\∀ xs,SqS tp K H a xs->xs[i]?=some x,λ i H=>∃ xs,SqS tp K H a xs/\xs.length<=i⟩
theorem LY {K:PySem.W.Frag} {k:Nat} (tp:Bool) (a e it:Addr) (hne:e≠it):
    Turn P w K (.Tuple elts k pos) (PP tp K a) [e,it] e (λ i h=>(∃ old,IsEnum h e it ((i+1:Nat):Int) old)/\By tp h it a i) where
  mem:=by simp
  obj:=λ i h st b hb=>by
    obtain ⟨⟨old,he⟩,hi⟩:=st;obtain ⟨o,eo,d⟩:=A4 hi;rcases Ab2.mp hb with z | z
    · subst z;exact ⟨_,he,λ v z=>by cases (show Data.fields _=Data.cell v from z)⟩
    · have z:b=it:=by simpa using z
      subst z;exact ⟨o,eo,λ v z=>by rw [d] at z;cases z⟩
  keep:=λ i h h' st kp=>by
    obtain ⟨⟨old,he⟩,hi⟩:=st;exact ⟨⟨old,kp e (by simp) _ he⟩,An hi λ o z=>kp it (by simp) o z⟩
  item:=by
    intro X hP hw hK hc i pins s σ H E I hf st hg;subst hP hw hK;obtain ⟨xs,x,hq,hx⟩:=hg;obtain ⟨its,rv,p⟩:=A0 I hq;obtain ⟨u,hu,ru⟩:=rv.get hx;obtain ⟨⟨old,he⟩,hi⟩:=st;obtain ⟨oi,ei,di⟩:=A4 hi;obtain ⟨oa,na,ea,da⟩:=BQ p;have hel:e<s.heap.objs.size:=Aa8 he;have hil:it<s.heap.objs.size:=Aa8 ei;have nia:a≠it:=λ z=>by
      subst z;rw [ei] at ea;cases ea;rw [di] at da;cases da
    have nea:e≠a:=λ z=>by
      subst z;rw [show s.heap.get? e=_ from he] at ea;cases ea;cases (show Data.fields _=Data.seq _ _ from da)
    have hlt:i<its.toArray.size:=by
      have:=(Ad4.mp hu).1;simpa using this
    have D:=Sw 1 (Sn (prog:=X.prog) (w:=X.w) (A:=X.A.in1) (I.ok.hd hc) tp it a nia its.toArray);refine wpAny_pyNext_enum_itemD (i:=i+1) D he ⟨i,rfl,hi,p⟩ (by omega) hne (by simp [hne,nea]) λ v h' tk pv ho st' hT hsz hk=> ?_;obtain ⟨j,ej,ev⟩:=pv;obtain ⟨j2,ej2,hi',p'⟩:=st';have ej:j=i:=by omega
    have ej2:j2=i+1:=by omega
    subst ej ej2;have ev:v=u:=by
      rw [show its.toArray[j]?=some u by simpa using hu] at ev;exact (Ae2.inj ev).symm
    subst ev;have I0:=I.laid (h':=s.heap.push { cls:= .type "tuple",data:= .seq #[.int ((j+1:Nat):Int) tk,v] }) (a:=s.heap.objs.size) (o:= .tup [.int ((j+1:Nat):Int),x]) (t':=tk+1) (λ _ _ q=>Aa3 _ q) (Aa7 _)
      ⟨(by show 2<=sizeLine;decide),[.int ((j+1:Nat):Int) tk,v], .cons ⟨_,rfl⟩ (.cons ru .nil),⟨_,Aa6 _ rfl,rfl,_,rfl⟩⟩
    have f0:∀ b∈[e,it],Dk X pins (upd H s.heap.objs.size (.tup [.int ((j+1:Nat):Int),x])) b:=λ b hb=>EE (hf b hb) (by
      rcases Ab2.mp hb with z | z
      · rw [z];exact Ab6 hel
      · rw [show b=it by simpa using z];exact Ab6 hil)
    have I1:=Inv.turnedL (t':=tk+1) (h':=h') [e,it] I0 f0 (λ b o hb z=>by
      have hb1:b≠e:=λ q=>hb (by simp [q]);have hb2:b≠it:=λ q=>hb (by simp [q]);rcases Ah2 (show (s.heap.push { cls:= .type "tuple",data:= .seq #[.int ((j+1:Nat):Int) tk,v] }).get? b=some o from z) with ⟨q1,q2⟩ | q
      · rw [q1,q2];exact hT
      · exact hk b o hb1 hb2 q)
    refine ⟨.ref s.heap.objs.size,rfl,wpAny_letOwnedTupleGo_enum (s:={ s with heap:=h',toks:=tk+1 }) ho λ h2 he2 sb=> ?_⟩;exact ⟨.ref s.heap.objs.size,_,Inv.turnedL (t':=tk+1) (h':=h2) [e,it] I1 f0 (λ b o hb z=>(sb.2 b λ q=>hb (by simp [q])).trans z),rfl,⟨_,x,I.fresh,rfl,rfl,λ ys hy=>by rw [FO I hy hq];exact hx⟩,
      ⟨⟨v,by simpa using he2⟩,An hi' λ o z=>(sb.2 it hne.symm).trans z⟩,λ b hb=>(f0 b hb).1⟩
  done:=by
    intro X hP hw hK hc i pins s σ H E I hf st hg;subst hP hw hK;obtain ⟨xs,hq,hx⟩:=hg;obtain ⟨its,rv,p⟩:=A0 I hq;obtain ⟨⟨old,he⟩,hi⟩:=st;obtain ⟨oi,ei,di⟩:=A4 hi;obtain ⟨oa,na,ea,da⟩:=BQ p;have hT:s.TypeIs (.ref e) "enumerate":=⟨_,he,rfl⟩;have hl:=rv.length;unfold pyNext;refine Aa0 (Af7 (Ab4 (name:=Str.ofString "__next__") hT F.slot_enumerate_next (Ab9 F.slot_enumerate_next hT F.entry_enumerate_next ?_ (F.args_enumerate_next_1 _))));show wpAny _ _ (field (.ref e) 2 >>= _) _ _ _;refine Aa0 (Ab8 he rfl (x:= .ref it) rfl ?_);refine Aa0 (CG (A:=X.A.in1) (I.ok.hd hc) hi p (by simp;omega) λ h' x eb hx'=> ?_);obtain ⟨o,ho,hc2⟩:=hx';exact Aa0 (Ah8 (T:="StopIteration") (b:=true) ⟨o,ho,hc2⟩ isSubtype_stop (Aa5 ⟨rfl,I.turnedL (t':=s.toks) [e,it] hf λ b o hb z=>eb b o (λ q=>hb (by simp [q])) z⟩))
  self:=λ _ _ _ _ _ st h=>by
    obtain ⟨⟨old,he⟩,_⟩:=st;exact wpAny_pyIter_enum he h
section
variable {k:Nat} {tpos:Pos} {K:PySem.W.Frag}
def O2 (K:PySem.W.Frag) (ta:TA):TI:=λ σ H R=>ta σ H λ vs H1=>∃ tp a,vs=[.ref a]/\(∃ xs,SqS tp K H1 a xs)/\R (PP tp K a) H1
theorem OM {l:Expr} {p kp cp:Pos} {cj:Nat} (hg:Gl X "enumerate") (hm:X.mg "enumerate"=none) (ha:PA X [l] ta) (hK:X.K=K:=by rfl) (hs:starEach [l] X.env=[(false,eval l X.env)]:=by rfl):
    PI X (.Tuple elts k tpos) (.Call (.Name "enumerate" p) [l] [⟨some "start", .Constant (.int 1) cj cp,kp⟩] pos) (O2 K ta):=by
  subst hK;intro pins s σ H R I h;refine Ah9 (Cd I hg hm Gy (GT (by rw [hs];rfl) rfl (PyProof.Rows.evalArgs_kw2 rfl ?_ (by rw [hs];rfl))));refine thn (ha pos pins s σ H _ I h) λ us s1 ⟨vs,H1,I1,r1,q1⟩=>PyProof.Rows.kwAll_cons ?_;refine Ad pins s1 σ H1 (λ v H2=>v= .int 1/\H2=H1) I1 ⟨rfl,rfl⟩ |> λ z=>thn z λ u s2 ⟨v,H2,I2,r2,ev,eh⟩=> ?_
  subst ev eh;obtain ⟨t,rfl⟩:=r2;refine PyProof.Rows.kwAll_nil ?_;obtain ⟨tp,a,e,⟨xs,hq⟩,q⟩:=q1;subst e;cases r1 with
  | cons r rr=>
    cases rr;cases r;obtain ⟨its,rv,pl⟩:=A0 I2 hq;refine II ?_;refine IC pl ⟨_,rfl,λ h' he hk hsz=> ?_⟩;refine wpAny_pyIter_enum he ?_;have hz:(s2.heap.push { cls:= .type (Kh tp),data:= .fields #[.ref a, .int 0 0] }).objs.size=s2.heap.objs.size+1:=Ad7 ..;have hk2:∀ b o,s2.heap.get? b=some o->h'.get? b=some o:=λ b o z=>hk b o (Aa3 _ z);have I3:=I2.kept (t':=s2.toks) hk2;have st:By tp h' s2.heap.objs.size a 0:=An GD λ o z=>hk _ o z;refine ⟨_,[_,s2.heap.objs.size],_,_,H2,rfl,I3,LY tp a _ _ (by rw [hz];exact Nat.succ_ne_self _),⟨⟨_,he⟩,st⟩,λ b hb=> ?_,q⟩;have hb':s2.heap.objs.size<=b:=by
      rcases Ab2.mp hb with z | z
      · rw [z,hz];exact Nat.le_succ _
      · have z:b=s2.heap.objs.size:=by simpa using z
        rw [z];exact Aa7 _
    exact I2.fpOk hb' (I2.hok.fresh hb')
end
def Isq (tp:Bool) (K:PySem.W.Frag) (a:Addr):It:=if tp=true then Itt K a else Itl K a
section
variable {K:PySem.W.Frag}
def iSq (K:PySem.W.Frag) (tl:TE):TI:=λ σ H R=>tl σ H λ x H1=>∃ tp a,x= .ref a/\(∃ xs,SqS tp K H1 a xs)/\R (Isq tp K a) H1
theorem OV {l:Expr} {tl:TE} (hl:PE X l tl) (hK:X.K=K:=by rfl):PI X tg l (iSq K tl):=by
  subst hK;intro pins s σ H R I h;refine thn (hl pins s σ H _ I h) λ v s1 ⟨x,H1,I1,r1,q1⟩=> ?_;obtain ⟨tp,a,e,⟨xs,hq⟩,q⟩:=q1;subst e;cases r1;cases tp with
  | false=>
    obtain ⟨its,rv,p,hz⟩:=I1.list (show SqL X.K H1 a xs from hq);refine wpAny_pyIter_list p.isList ?_;refine ⟨s1.heap.objs.size,[s1.heap.objs.size],_,_,H1,rfl,I1.kept (t':=s1.toks) λ b o e=>Aa3 _ e,Kf a _,⟨_,Aa6 _ rfl,rfl,rfl⟩,λ b hb=> ?_,q⟩;have e:b=s1.heap.objs.size:=by simpa using hb
    subst e;exact I1.fpOk (Aa7 _) (I1.hok.fresh (Aa7 _))
  | true=>
    obtain ⟨its,rv,p,hz⟩:=I1.tuple (show SqT X.K H1 a xs from hq);refine wpAny_pyIter_tuple (show s1.heap.IsTuple a its.toArray from p) ?_;refine ⟨s1.heap.objs.size,[s1.heap.objs.size],_,_,H1,rfl,I1.kept (t':=s1.toks) λ b o e=>Aa3 _ e,Iu a _,⟨_,Aa6 _ rfl,rfl,rfl⟩,λ b hb=> ?_,q⟩;have e:b=s1.heap.objs.size:=by simpa using hb
    subst e;exact I1.fpOk (Aa7 _) (I1.hok.fresh (Aa7 _))
end
structure FSrc (J:It) (g:TG) (H:Hp) (n:Nat) (set:Nat->St->St):Prop where
  go:∀ i H',i<n->Same H H'->J.go i H'
  stop:∀ H',Same H H'->J.stop n H'
  yld:∀ i σ H' x H'' (R:St->Hp->Prop),i<n->Same H H'->J.yld i H' x H''->(∀ H3,Same H' H3->R (set i σ) H3)->g x σ H'' R
theorem Hx {set:Nat->St->St} {tb:TS} {D:Ends} (S:FSrc J g H n set) (Pv:Nat->St->Hp->Prop) (h0:Pv 0 σ H) (hk:∀ i σ H',Pv i σ H'->Same H H')
    (hs:∀ i σ H' H3,i<n->Pv i σ H'->Same H' H3->tb { D with nx:=Pv (i+1),ct:=Pv (i+1),bk:=D.nx } (set i σ) H3) (hd:∀ σ H',Pv n σ H'->D.nx σ H'):
    ∃ W:Nat->Nat->St->Hp->Prop,(∃ m,W 0 m σ H)/\∀ i m σ H,W i m σ H->
      (J.stop i H/\D.nx σ H)\/(J.go i H/\∃ N:St->Hp->Prop,(∀ σ' H',N σ' H'->∃ m',m'<m/\W (i+1) m' σ' H')/\∀ x H',J.yld i H x H'->g x σ H' λ σ2 H2=>tb { D with nx:=N,ct:=N,bk:=D.nx } σ2 H2):=by
  refine ⟨λ i m σ H'=>m=n - i/\i<=n/\Pv i σ H',⟨n,by simp,Ad3 _,h0⟩,?_⟩;rintro i m σ H1 ⟨rfl,hi,p⟩;by_cases hlt:i<n
  · exact .inr ⟨S.go i H1 hlt (hk _ _ _ p),Pv (i+1),λ σ' H' p'=>⟨n - (i+1),by omega,rfl,hlt,p'⟩,λ x H' y=>S.yld i σ H1 x H' _ hlt (hk _ _ _ p) y λ H3 s3=>hs i σ H1 H3 hlt p s3⟩
  · have e:i=n:=by omega
    subst e;exact .inl ⟨S.stop H1 (hk _ _ _ p),hd σ H1 p⟩
section
variable {K:PySem.W.Frag} {zs:List V} {tp:Bool} {i1 i2:Nat}
theorem MN (h:SqS tp K H a xs):FSrc (Isq tp K a) (A5 i1) H xs.length (λ i σ=>σ.set i1 (some (xs.getD i .non))):=by
  cases tp with
  | false=>exact {
      go:=λ i H' hi s=>⟨xs,xs[i],SqS.same (tp:=false) h s,by simp [hi]⟩
      stop:=λ H' s=>⟨xs,SqS.same (tp:=false) h s,Aa7 _⟩
      yld:=λ i σ H' x H'' R hi s y k=>by
        obtain ⟨e,hv⟩:=y;subst e;have e:x=xs.getD i .non:=by
          rw [Aa2,hv xs (SqS.same (tp:=false) h s)];rfl
        subst e;exact k _ (Same.refl _) }
  | true=>exact {
      go:=λ i H' hi s=>⟨xs,xs[i],SqS.same (tp:=true) h s,by simp [hi]⟩
      stop:=λ H' s=>⟨xs,SqS.same (tp:=true) h s,Aa7 _⟩
      yld:=λ i σ H' x H'' R hi s y k=>by
        obtain ⟨e,hv⟩:=y;subst e;have e:x=xs.getD i .non:=by
          rw [Aa2,hv xs (SqS.same (tp:=true) h s)];rfl
        subst e;exact k _ (Same.refl _) }
theorem E8 (h:SqL K H a xs):FSrc (Itl K a) (A5 i1) H xs.length (λ i σ=>σ.set i1 (some (xs.getD i .non))):=MN (tp:=false) h
theorem OH (h:SqS tp K H a xs):FSrc (PP tp K a) (JD K 2 (CB (A5 i1) (CB (A5 i2) KO))) H xs.length (λ i σ=>(σ.set i1 (some (.int ((i+1:Nat):Int)))).set i2 (some (xs.getD i .non))) where
  go:=λ i H' hi s=>⟨xs,xs[i],h.same s,by simp [hi]⟩
  stop:=λ H' s=>⟨xs,h.same s,Aa7 _⟩
  yld:=λ i σ H' x H'' R hi s y k=>by
    obtain ⟨p,v,hp,rfl,rfl,hv⟩:=y;have e:v=xs.getD i .non:=by
      rw [Aa2,hv xs (h.same s)];rfl
    subst e;exact ⟨p,_,rfl,SqT.of Af,rfl,_,_,rfl,_,_,rfl,rfl,k _ (Aj hp)⟩
theorem FSrc.src {set:Nat->St->St} (S:FSrc J g H n set) (kp:∀ i,i<n->Kp σ0 (set i σ0)):SrcOk J g σ0 H n (λ i=>set i σ0) where
  go:=S.go
  stop:=S.stop
  yld:=λ i H' x H'' R hi s y k=>S.yld i σ0 H' x H'' R hi s y k
  kp:=kp
theorem Tb (h:SqS tp K H a xs) (h0:σ0[0]?=some none):SrcOk (Isq tp K a) (A5 0) σ0 H xs.length (λ i=>σ0.set 0 (some (xs.getD i .non))):=(MN h).src λ i _=>(Kp.refl _).set h0
theorem NS (h:SqS tp K H a xs) (h0:σ0[0]?=some none) (h1:σ0[1]?=some none):SrcOk (PP tp K a) (JD K 2 (CB (A5 0) (CB (A5 1) KO))) σ0 H xs.length (λ i=>(σ0.set 0 (some (.int ((i+1:Nat):Int)))).set 1 (some (xs.getD i .non))):=
  (OH h).src λ i _=>((Kp.refl _).set h0).set h1
end
theorem bA (a b:Nat):Builtin.bitAnd (a:Int) (b:Int)=((a &&& b:Nat):Int):=by
  rw [PyProof.Rows.bitAnd_pp (by omega) (by omega)];rfl
theorem bO (a b:Nat):Builtin.bitOr (a:Int) (b:Int)=((a ||| b:Nat):Int):=by
  have h:=MM.or_add_and a b;rw [PyProof.Rows.bitOr_and,bA];omega
theorem Qr (m:Nat):((Builtin.Int.intBits (m:Int):Nat):Int)=((MM.bits m:Nat):Int):=by
  unfold Builtin.Int.intBits MM.bits;by_cases h:m=0
  · subst h;rfl
  · have e:((m:Int) == 0)=false:=by simp [h]
    rw [e,if_neg h];simp
theorem ES (n:Nat):(1:Int)*2 ^ n=((2 ^ n:Nat):Int):=by
  rw [Int.one_mul];push_cast;rfl
section
def rBits:V->List V->Hp->VK->Prop:=λ x vs H Q=>∃ i:Int,x= .int i/\vs=[]/\Q (.int (Builtin.Int.intBits i:Nat)) H
theorem JI:MtM X "int.bit_length" rBits:=by
  intro pins s σ H x vs v us Q I rx rv h;obtain ⟨i,rfl,rfl,q⟩:=h;obtain ⟨t,rfl⟩:=rx;have hus:=rv.zero;subst hus;exact PyProof.Rows.call_int_bit_length ⟨.int _,H,I.tok _,⟨_,rfl⟩,q⟩
end
section
variable {D:Ends} {te:TE} {ti:TIp} {x:V}
theorem Ru (h:Q (.int (MM.bits m:Nat)) H):rBits (.int (m:Nat)) [] H Q:=⟨m,rfl,rfl,by rw [Qr];exact h⟩
theorem OO (e:σ[i]?=some (some x)) (h:te σ H λ y H1=>ti x y H1 λ z H2=>D.nx (σ.set i (some z)) H2):VL i te ti D σ H:=⟨x,e,h⟩
end
abbrev nV (n:Nat):V:= .int (n:Nat)
theorem BC (h:i<(ns.map nV).length):(ns.map nV).getD i .non= .int (ns.getD i 0:Nat):=by
  have h':i<ns.length:=by simpa using h
  simp [Aa2,h']
theorem CO {ns:List Int} (h:i<(ns.map V.int).length):(ns.map V.int).getD i .non= .int (ns.getD i 0):=by
  have h':i<ns.length:=by simpa using h
  simp [Aa2,h']
theorem Ro {ns:List Int} {k:Int} (h0:0<=k) (h1:k<ns.length):atI (ns.map V.int) k=some (.int (ns.getD k.toNat 0)):=by
  obtain ⟨j,rfl⟩:∃ j:Nat,k=j:=⟨k.toNat,by omega⟩;have h':j<ns.length:=by omega
  refine AH ?_;rw [show ((j:Int)).toNat=j by omega];simp [Aa2,h']
theorem Le {k:Int} (h0:0<=k) (h1:k<ns.length):atI (ns.map nV) k=some (.int (ns.getD k.toNat 0:Nat)):=by
  obtain ⟨j,rfl⟩:∃ j:Nat,k=j:=⟨k.toNat,by omega⟩;have h':j<ns.length:=by omega
  refine AH ?_;rw [show ((j:Int)).toNat=j by omega];simp [Aa2,h']
theorem Kc (h:i<ns.length):ns.take (i+1)=ns.take i++[ns.getD i 0]:=by
  rw [List.take_succ_eq_append_getElem h];simp [Aa2,h]
theorem BP {te:TE} {G:Nat->Int} (S:SrcOk J g σ0 H n st) (hD:H D=none) (hn:n<=100000)
    (he:∀ i H' (R:VK),i<n->Same H H'->(∀ H3,Same H' H3->R (.int (G i)) H3)->te (st i) H' R)
    (hd:∀ H',Same H H'->H' D=some (.lst (((Aa9 n).map G).map V.int))->Q (.ref D) H'):EV J σ0 g LX te Q H D:=by
  refine Bd (m:=0) (G:=λ i=> .int (G i)) S hD hn (λ i H' R hi s k=>he i H' R hi s λ H3 s3=>k H3 _ s3 (.int _)) λ H' ys s hl r=> ?_;have e:(Aa9 n).map (λ i=>Dt.int (G i))=((Aa9 n).map G).map Dt.int:=by rw [Ae1];rfl
  rw [e] at r;obtain ⟨b,eb,hb,fb⟩:=Nm r;cases eb;exact hd H' s hb
theorem Cc {te:TE} {p:Nat->Bool} {G:Nat->Int} (S:SrcOk J g σ0 H n st) (hD:H D=none) (hn:n<=100000)
    (ht:∀ i H' (R:Bool->Hp->Prop),i<n->Same H H'->(∀ H3,Same H' H3->R (p i) H3)->tc (st i) H' R)
    (he:∀ i H' (R:VK),i<n->p i=true->Same H H'->(∀ H3,Same H' H3->R (.int (G i)) H3)->te (st i) H' R)
    (hd:∀ H',Same H H'->H' D=some (.lst ((((Aa9 n).filter p).map G).map V.int))->Q (.ref D) H'):EV J σ0 g tc te Q H D:=by
  refine J6 (m:=0) (p:=p) (G:=λ i=> .int (G i)) S hD hn ht (λ i H' R hi hp s k=>he i H' R hi hp s λ H3 s3=>k H3 _ s3 (.int _)) λ H' ys s hl r=> ?_;have e:((Aa9 n).filter p).map (λ i=>Dt.int (G i))=(((Aa9 n).filter p).map G).map Dt.int:=by rw [Ae1];rfl
  rw [e] at r;obtain ⟨b,eb,hb,fb⟩:=Nm r;cases eb;exact hd H' s hb
theorem F2 {te:TE} {G:Nat->Bool} (S:SrcOk J g σ0 H n st) (hD:H D=none) (hn:n<=100000)
    (he:∀ i H' (R:VK),i<n->Same H H'->(∀ H3,Same H' H3->R (.bl (G i)) H3)->te (st i) H' R)
    (hd:∀ H',Same H H'->H' D=some (.lst (((Aa9 n).map G).map V.bl))->Q (.ref D) H'):EV J σ0 g LX te Q H D:=by
  refine Bd (m:=0) (G:=λ i=> .bl (G i)) S hD hn (λ i H' R hi s k=>he i H' R hi s λ H3 s3=>k H3 _ s3 (.bl _)) λ H' ys s hl r=> ?_;have e:ys=((Aa9 n).map G).map V.bl:=by
    cases r with
    | @lst _ _ vs _ q f b l ee=>
      rw [hl] at q;cases q;refine Ah7 (by simpa using l) λ i h1 h2=> ?_;have hi:i<n:=by simpa using h2
      have:=ee i ys[i] (.bl (G i)) (by simp [h1]) (by simp [hi]);cases hv:ys[i] <;> rw [hv] at this <;> cases this;simp
  rw [e] at hl;exact hd H' s hl
def GX (P:Program) (w:World) (K:PySem.W.Frag) (mg:Str->Option Value) (base:Heap) (x:Str) (C:Addr) (k:Nat) (ps:List Str) (sp:Sp):Prop:=
  ∃ f fd,mg x=some (.ref C)/\Mk K C f/\FnOk P w K mg base CX0 k f fd ps sp/\Binds K fd ps []
def AI (P:Program) (w:World) (K:PySem.W.Frag) (mg:Str->Option Value) (base:Heap) (C:Addr) (m:Str) (k:Nat) (ps:List Str) (sp:Sp):Prop:=
  ∃ f fd,Cls K C/\Meth K C m f/\FnOk P w K mg base CX0 k f fd ps sp/\Binds K fd ps []
section
variable {x m:Str} {k:Nat} {o:Expr} {ta:TE} {p:Pos}
theorem EA (h:GX X.prog X.w X.K X.mg X.base x C k ps sp) (hr:Room (k+1) X.A) (ha:PA X (e::es) t) (hg:Gl X x:=by rfl) (hdb:(x == ("__debug__":Str))=false:=by decide)
    (he:starEach (e::es) X.env=(false,eval e X.env)::starEach es X.env:=by rfl) (hpl:(backTo pos (starEach es X.env)).any (·.1)=false:=by rfl):
    PE X (.Call (.Name x p) (e::es) [] pos) (M7 C sp [] E0 t):=by
  obtain ⟨f,fd,hm,M,F,hb⟩:=h;exact QZ M F hr hg hm hb .nil MI ha hdb he hpl
theorem AY {pl:Sem Bool} (he:PE X o ta) (h:AI X.prog X.w X.K X.mg X.base C m k ps sp) (hr:Room k X.A) (ha:PA X (e::es) t)
    (hst:starEach (e::es) X.env=(false,eval e X.env)::starEach es X.env:=by rfl) (hpl:(backTo pos (starEach es X.env)).any (·.1)=false:=by rfl)
    (ht:eval (.Call (.Attribute o m apos) (e::es) [] pos) X.env=(do
      let ov <-eval o X.env
      standAt apos.atName
      let (f,first) <-holding [ov] (getMethod ov m pl)
      callWith pos f first (backTo pos (starEach (e::es) X.env)) (backToKw pos (keywordEach [] X.env))):=by rfl):
    PE X (.Call (.Attribute o m apos) (e::es) [] pos) (JW C m sp [] E0 ta t):=by
  obtain ⟨f,fd,c,hm,F,hb⟩:=h;exact QK (pl:=pl) he c hm F hr hb .nil MI ha hst hpl ht
theorem AG {pl:Sem Bool} (he:PE X o ta) (h:AI X.prog X.w X.K X.mg X.base C m k ps sp) (hr:Room k X.A)
    (ht:eval (.Call (.Attribute o m apos) [] [] pos) X.env=(do
      let ov <-eval o X.env
      standAt apos.atName
      let (f,first) <-holding [ov] (getMethod ov m pl)
      callWith pos f first (backTo pos (starEach [] X.env)) (backToKw pos (keywordEach [] X.env))):=by rfl):
    PE X (.Call (.Attribute o m apos) [] [] pos) (JW C m sp [] E0 ta NY):=by
  obtain ⟨f,fd,c,hm,F,hb⟩:=h;exact OZ (pl:=pl) he c hm F hr hb .nil MI ht
theorem Y8 {x:Str} (h:X.mg x=some (.ref C)) (hg:Gl X x:=by rfl) (hd:(x == ("__debug__":Str))=false:=by decide):PE X (.Name x pos) (tC (.ref C)):=KW hg h rfl hd
end
structure Kind (K:PySem.W.Frag) (C:Addr):Prop where
  cl:Cls K C
  ha:PySem.W.findIn K (.ref C) "__class__"=some (some (.builtin "object.__class__"))
  hn:PySem.W.specialIn K (.builtin "object.__class__") "__get__"=some (some (.builtin "getset_descriptor.__get__"))
  htk:PySem.W.takesIn K (.builtin "object.__class__")=some true
  hm:PySem.W.mroIn K C (.type "object")=some true
section
variable {K:PySem.W.Frag} {D:Ends} {te tv:TE} {fs:List (Str × V)} {f:Str}
theorem Sm (h:te σ H λ x H1=>∃ a C dx fs v,x= .ref a/\H1 a=some (.ins C dx fs)/\Cls K C/\NoAttr K C f/\fs.lookup f=some v/\Q v H1):Sf K te f σ H Q:=h
theorem SI (h:tv σ H λ y H1=>te σ H1 λ x H2=>∃ a C dx fs,x= .ref a/\H2 a=some (.ins C dx fs)/\Cls K C/\NoAttr K C f/\fs.length<1000/\D.nx σ (upd H2 a (.ins C dx (Bc f y fs)))):Xe K te tv f D σ H:=h
theorem Cy {y:V} (e:H a=some (.ins C dx fs)) (c:Cls K C) (n:NoAttr K C f) (l:fs.length<1000) (h:D.nx σ (upd H a (.ins C dx (Bc f y fs)))):∃ a' C' dx' fs',V.ref a= .ref a'/\H a'=some (.ins C' dx' fs')/\Cls K C'/\NoAttr K C' f/\fs'.length<1000/\D.nx σ (upd H a' (.ins C' dx' (Bc f y fs'))):=⟨a,C,dx,fs,rfl,e,c,n,l,h⟩
theorem Q0 (h:t σ H λ vs H1=>∀ x dx,H1 x=none->H1 dx=none->dx≠x->sp (.ref x::vs) (upd (upd H1 dx (.own x)) x (.ins C dx [])) (λ v H2=>v= .non/\Q (.ref x) H2) E0):M7 C sp [] E0 t σ H Q:=by
  unfold M7;simpa using h
theorem Qx {m:Str} (h:te σ H λ x H1=>∃ a dx fs,x= .ref a/\H1 a=some (.ins C dx fs)/\fs.lookup m=none/\t σ H1 λ vs H2=>sp (x::vs) H2 Q E0):JW C m sp [] E0 te t σ H Q:=by
  unfold JW;simpa using h
end
theorem On {r r':R2} {ta tb tc:TE} (h:ta σ H λ x H1=>tb σ H1 λ y H2=>r x y H2 λ z H3=>∃ k,z= .bl k/\(if k=true then tc σ H3 λ w' H4=>r' y w' H4 Q else Q (.bl false) H3)):PF r r' ta tb tc σ H Q:=h
def Gv (x:V) (a b:Int):Bool:=match x with | .int i=>decide (a<=i)&&decide (i<=b) | _=>false
theorem GS {b b':Bool} (e:b=b') (h:Q (.bl b') H):Q (.bl b) H:=e▸h
theorem SB {b:Bool} {A B:Prop} (h1:b=true->A) (h2:b=false->B):if b=true then A else B:=by
  cases b with
  | true=>exact h1 rfl
  | false=>exact h2 rfl
theorem Ip {u:HO} (h1:H x=none) (h2:H dx=none):Same H (upd (upd H dx u) x o):=λ b q e=>by
  rw [Ai (Ax e h1),Ai (Ax e h2)];exact e
mutual
def eqD:Dt->Dt->Bool
  | .non, .non=>true
  | .bl a, .bl b=>a == b
  | .int a, .int b=>a == b
  | .str a, .str b=>a == b
  | .bl a, .int b=>(if a then 1 else 0) == b
  | .int a, .bl b=>a == (if b then 1 else 0)
  | .lst xs, .lst ys=>Ey xs ys
  | .tup xs, .tup ys=>Ey xs ys
  | _,_=>false
def Ey:List Dt->List Dt->Bool
  | [],[]=>true
  | x::xs,y::ys=>eqD x y&&Ey xs ys
  | _,_=>false
end
theorem CV:∀ {xs ys:List Dt},xs.length≠ys.length->Ey xs ys=false
  | [],[],h=>absurd rfl h
  | [],_::_,_=>by unfold Ey;rfl
  | _::_,[],_=>by unfold Ey;rfl
  | x::xs,y::ys,h=>by
    unfold Ey;rw [CV (xs:=xs) (ys:=ys) (λ e=>h (by simp [e])),Bool.and_false]
theorem CZ:∀ {xs ys:List Dt},xs.length=ys.length->Ey xs ys=(Aa9 xs.length).all λ i=>eqD (xs.getD i .non) (ys.getD i .non)
  | [],[],_=>by unfold Ey;rfl
  | [],_::_,h=>by simp at h
  | _::_,[],h=>by simp at h
  | x::xs,y::ys,h=>by
    unfold Ey;rw [CZ (xs:=xs) (ys:=ys) (by simpa using h),Ac6,List.range_succ_eq_map,List.all_cons,List.all_map];rfl
mutual
theorem CT:∀ d:Dt,eqD d d=true
  | .non=>by unfold eqD;rfl
  | .bl a=>by unfold eqD;simp
  | .int a=>by unfold eqD;simp
  | .str a=>by unfold eqD;simp
  | .lst xs=>by unfold eqD;exact Gp xs
  | .tup xs=>by unfold eqD;exact Gp xs
theorem Gp:∀ d:List Dt,Ey d d=true
  | []=>by unfold Ey;rfl
  | x::xs=>by unfold Ey;rw [CT x,Gp xs];rfl
end
theorem Rp.inj {d e:Dt} (r:Rp H F n v d) (r2:Rp H G m v e):d=e:=by
  induction r generalizing m e with
  | non=>cases r2;rfl
  | bl b=>cases r2;rfl
  | int i=>cases r2;rfl
  | str z=>cases r2;rfl
  | @lst n a vs ds h f b l el ih=>
    cases r2 with
    | @lst m _ vs2 ds2 h2 f2 b2 l2 el2=>
      rw [h] at h2;cases h2;congr 1;refine Ah7 (by omega) λ i h1 h3=> ?_;have hv:i<vs.length:=by omega
      exact ih i vs[i] ds[i] (by simp [hv]) (by simp [h1]) (el2 i vs[i] ds2[i] (by simp [hv]) (by simp [h3]))
    | tup h2 _ _ _=>rw [h] at h2;cases h2
  | @tup n a vs ds h b l el ih=>
    cases r2 with
    | @tup m _ vs2 ds2 h2 b2 l2 el2=>
      rw [h] at h2;cases h2;congr 1;refine Ah7 (by omega) λ i h1 h3=> ?_;have hv:i<vs.length:=by omega
      exact ih i vs[i] ds[i] (by simp [hv]) (by simp [h1]) (el2 i vs[i] ds2[i] (by simp [hv]) (by simp [h3]))
    | lst h2 _ _ _ _=>rw [h] at h2;cases h2
section
theorem E9 {es:List Dt} {its2:List Value} (r:Vals xs its) (r2:Vals ys its2) (l1:xs.length=ds.length) (l2:ys.length=es.length)
    (el:∀ (i:Nat) (v:V) (d:Dt),xs[i]?=some v->ds[i]?=some d->Rp H F n v d) (el2:∀ (i:Nat) (v:V) (d:Dt),ys[i]?=some v->es[i]?=some d->Rp H G n v d)
    (ih:∀ {v u:V} {d e:Dt} {rv ru:Value},Rp H F n v d->Rp H G n u e->RelV v rv->RelV u ru->SeqAt.EqAt A s rv ru (eqD d e)):
    ∀ j (h1:j<its.toArray.size) (h2:j<its2.toArray.size),SeqAt.EqAt A s its.toArray[j] its2.toArray[j] (eqD (ds.getD j .non) (es.getD j .non)):=λ j h1 h2=>by
  have k1:=r.length;have k2:=r2.length;have h1':j<its.length:=by simpa using h1
  have h2':j<its2.length:=by simpa using h2
  have g1:xs[j]?=some (xs.getD j .non):=by rw [Aa2,Aa4 (by omega)];rfl
  have g2:ys[j]?=some (ys.getD j .non):=by rw [Aa2,Aa4 (by omega)];rfl
  have d1:ds[j]?=some (ds.getD j .non):=by rw [Aa2,Aa4 (by omega)];rfl
  have d2:es[j]?=some (es.getD j .non):=by rw [Aa2,Aa4 (by omega)];rfl
  obtain ⟨u,e1,ru⟩:=r.get g1;obtain ⟨u2,e2,ru2⟩:=r2.get g2;have q1:its.toArray[j]=u:=by rw [Aa4 h1'] at e1;simpa using Ae2.inj e1
  have q2:its2.toArray[j]=u2:=by rw [Aa4 h2'] at e2;simpa using Ae2.inj e2
  rw [q1,q2];exact ih (el j _ _ g1 d1) (el2 j _ _ g2 d2) ru ru2
theorem CJ (A:Around):A.in1.units=A.units+1:=rfl
theorem KB (I:Inv X pins σ H s):∀ {n:Nat} {A:Around} {v u:V} {d e:Dt} {rv ru:Value},Rp H F n v d->Rp H G n u e->RelV v rv->RelV u ru->A.units+n<cLine->SeqAt.EqAt A s rv ru (eqD d e):=by
  intro n;have sc:∀ {n m:Nat} {A:Around} {v u:V} {d e:Dt} {rv ru:Value},Rp H F n v d->Rp H G m u e->(Ew d||CD d)=false->(Ew e||CD e)=false->RelV v rv->RelV u ru->SeqAt.EqAt A s rv ru (eqD d e):=by
    intro n m A v u d e rv ru r r2 n1 n2 rr rr2;cases r with
    | non=>
      cases rr;cases r2 with
      | non=>
        cases rr2;simp only [eqD];exact (show SeqAt.EqAt A s Value.none Value.none true from SeqAt.EqAt.same _)
      | bl x2=>
        cases rr2;simp only [eqD];exact SeqAt.EqAt.none_bool _
      | int x2=>
        obtain ⟨t2,rfl⟩:=rr2;simp only [eqD];exact SeqAt.EqAt.none_int _ _
      | str x2=>
        obtain ⟨t2,rfl⟩:=rr2;simp only [eqD];exact SeqAt.EqAt.none_str _ _
      | lst _ _ _ _ _=>cases n2
      | tup _ _ _ _=>cases n2
    | bl x1=>
      cases rr;cases r2 with
      | non=>
        cases rr2;simp only [eqD];exact SeqAt.EqAt.bool_none _
      | bl x2=>
        cases rr2;simp only [eqD];exact SeqAt.EqAt.bool_bool _ _
      | int x2=>
        obtain ⟨t2,rfl⟩:=rr2;simp only [eqD];exact SeqAt.EqAt.bool_int _ _ _
      | str x2=>
        obtain ⟨t2,rfl⟩:=rr2;simp only [eqD];exact SeqAt.EqAt.bool_str _ _ _
      | lst _ _ _ _ _=>cases n2
      | tup _ _ _ _=>cases n2
    | int x1=>
      obtain ⟨t1,rfl⟩:=rr;cases r2 with
      | non=>
        cases rr2;simp only [eqD];exact SeqAt.EqAt.int_none _ _
      | bl x2=>
        cases rr2;simp only [eqD];exact SeqAt.EqAt.int_bool _ _ _
      | int x2=>
        obtain ⟨t2,rfl⟩:=rr2;simp only [eqD];exact SeqAt.EqAt.int_int _ _ _ _
      | str x2=>
        obtain ⟨t2,rfl⟩:=rr2;simp only [eqD];exact SeqAt.EqAt.int_str _ _ _ _
      | lst _ _ _ _ _=>cases n2
      | tup _ _ _ _=>cases n2
    | str x1=>
      obtain ⟨t1,rfl⟩:=rr;cases r2 with
      | non=>
        cases rr2;simp only [eqD];exact SeqAt.EqAt.str_none _ _
      | bl x2=>
        cases rr2;simp only [eqD];exact SeqAt.EqAt.str_bool _ _ _
      | int x2=>
        obtain ⟨t2,rfl⟩:=rr2;simp only [eqD];exact SeqAt.EqAt.str_int _ _ _ _
      | str x2=>
        obtain ⟨t2,rfl⟩:=rr2;simp only [eqD];exact SeqAt.EqAt.str_str _ _ _ _
      | lst _ _ _ _ _=>cases n2
      | tup _ _ _ _=>cases n2
    | lst _ _ _ _ _=>cases n1
    | tup _ _ _ _=>cases n1
  induction n with
  | zero=>
    intro A v u d e rv ru r r2 rr rr2 hu;exact sc r r2 (by cases r <;> rfl) (by cases r2 <;> rfl) rr rr2
  | succ n ih=>
    intro A v u d e rv ru r r2 rr rr2 hu;have hu':A.units<cLine:=by omega
    cases h1:(Ew d||CD d) with
    | false=>
      cases h2:(Ew e||CD e) with
      | false=>exact sc r r2 h1 h2 rr rr2
      | true=>
        cases r2 with
        | @lst _ b ys es q2 f2 b2 l2 el2=>
          obtain rfl:ru=Value.ref b:=rr2;obtain ⟨its2,rv2,pl2,_⟩:=I.list (SqL.of q2);cases r with
          | non=>cases rr;simp only [eqD];exact SeqAt.EqAt.none_list pl2.isList hu'
          | bl x1=>cases rr;simp only [eqD];exact SeqAt.EqAt.bool_list _ pl2.isList hu'
          | int x1=>obtain ⟨t,rfl⟩:=rr;simp only [eqD];exact SeqAt.EqAt.int_list _ _ pl2.isList hu'
          | str x1=>obtain ⟨t,rfl⟩:=rr;simp only [eqD];exact SeqAt.EqAt.str_list _ _ pl2.isList hu'
          | lst _ _ _ _ _=>cases h1
          | tup _ _ _ _=>cases h1
        | @tup _ b ys es q2 b2 l2 el2=>
          obtain rfl:ru=Value.ref b:=rr2;obtain ⟨its2,rv2,pl2,_⟩:=I.tuple (SqT.of q2);have pl2:s.heap.IsTuple b its2.toArray:=pl2;cases r with
          | non=>cases rr;simp only [eqD];exact SeqAt.EqAt.none_tuple pl2 hu'
          | bl x1=>cases rr;simp only [eqD];exact SeqAt.EqAt.bool_tuple _ pl2 hu'
          | int x1=>obtain ⟨t,rfl⟩:=rr;simp only [eqD];exact SeqAt.EqAt.int_tuple _ _ pl2 hu'
          | str x1=>obtain ⟨t,rfl⟩:=rr;simp only [eqD];exact SeqAt.EqAt.str_tuple _ _ pl2 hu'
          | lst _ _ _ _ _=>cases h1
          | tup _ _ _ _=>cases h1
        | _=>cases h2
    | true=>
      cases r with
      | @lst _ a xs ds q1 f1 b1 l1 el1=>
        obtain rfl:rv=Value.ref a:=rr;obtain ⟨its,rv1,pl,_⟩:=I.list (SqL.of q1);have k1:=rv1.length;cases r2 with
        | @lst _ b ys es q2 f2 b2 l2 el2=>
          obtain rfl:ru=Value.ref b:=rr2;obtain ⟨its2,rv2,pl2,_⟩:=I.list (SqL.of q2);have k2:=rv2.length;by_cases hab:a=b
          · subst hab;have e:=(Rp.lst (n:=n) q1 f1 b1 l1 el1).inj (Rp.lst (n:=n) q2 f2 b2 l2 el2);rw [e,CT];exact SeqAt.EqAt.same _
          · refine SeqAt.EqAt.of_refs hab ?_;simp only [eqD];by_cases hl:ds.length=es.length
            · rw [CZ hl];have q:=SeqAt.RcAt.lists (A:=A) (e:=λ i=>eqD (ds.getD i .non) (es.getD i .non)) pl.isList pl2.isList (by simp;omega) hu' (E9 rv1 rv2 l1 l2 el1 el2 λ r r2 rr rr2=>ih r r2 rr rr2 (by rw [CJ];omega));rw [show its.toArray.size=ds.length by simp;omega] at q;exact q
            · rw [CV hl];exact SeqAt.RcAt.lists_lengths pl.isList pl2.isList (by simp;omega) hu'
        | @tup _ b ys es q2 b2 l2 el2=>
          obtain rfl:ru=Value.ref b:=rr2;obtain ⟨its2,rv2,pl2,_⟩:=I.tuple (SqT.of q2);simp only [eqD];exact SeqAt.EqAt.list_tuple pl.isList (show s.heap.IsTuple b its2.toArray from pl2) hu'
        | non=>cases rr2;simp only [eqD];exact SeqAt.EqAt.list_none pl.isList hu'
        | bl x1=>cases rr2;simp only [eqD];exact SeqAt.EqAt.list_bool _ pl.isList hu'
        | int x1=>obtain ⟨t,rfl⟩:=rr2;simp only [eqD];exact SeqAt.EqAt.list_int _ _ pl.isList hu'
        | str x1=>obtain ⟨t,rfl⟩:=rr2;simp only [eqD];exact SeqAt.EqAt.list_str _ _ pl.isList hu'
      | @tup _ a xs ds q1 b1 l1 el1=>
        obtain rfl:rv=Value.ref a:=rr;obtain ⟨its,rv1,pl,_⟩:=I.tuple (SqT.of q1);have pl:s.heap.IsTuple a its.toArray:=pl;have k1:=rv1.length;cases r2 with
        | @tup _ b ys es q2 b2 l2 el2=>
          obtain rfl:ru=Value.ref b:=rr2;obtain ⟨its2,rv2,pl2,_⟩:=I.tuple (SqT.of q2);have pl2:s.heap.IsTuple b its2.toArray:=pl2;have k2:=rv2.length;by_cases hab:a=b
          · subst hab;have e:=(Rp.tup (n:=n) (F:=F) q1 b1 l1 el1).inj (Rp.tup (n:=n) (F:=G) q2 b2 l2 el2);rw [e,CT];exact SeqAt.EqAt.same _
          · refine SeqAt.EqAt.of_refs hab ?_;simp only [eqD];have q:=SeqAt.RcAt.tuples (A:=A) (e:=λ i=>eqD (ds.getD i .non) (es.getD i .non)) pl pl2 hu' (E9 rv1 rv2 l1 l2 el1 el2 λ r r2 rr rr2=>ih r r2 rr rr2 (by rw [CJ];omega));have e1:its.toArray.size=ds.length:=by simp;omega
            have e2:its2.toArray.size=es.length:=by simp;omega
            rw [e1,e2] at q;by_cases hl:ds.length=es.length
            · rw [CZ hl];rw [<-hl,Nat.min_self,beq_self_eq_true,Bool.and_true] at q;exact q
            · rw [CV hl];rw [beq_eq_false_iff_ne.mpr hl,Bool.and_false] at q;exact q
        | @lst _ b ys es q2 f2 b2 l2 el2=>
          obtain rfl:ru=Value.ref b:=rr2;obtain ⟨its2,rv2,pl2,_⟩:=I.list (SqL.of q2);simp only [eqD];exact SeqAt.EqAt.tuple_list pl pl2.isList hu'
        | non=>cases rr2;simp only [eqD];exact SeqAt.EqAt.tuple_none pl hu'
        | bl x1=>cases rr2;simp only [eqD];exact SeqAt.EqAt.tuple_bool _ pl hu'
        | int x1=>obtain ⟨t,rfl⟩:=rr2;simp only [eqD];exact SeqAt.EqAt.tuple_int _ _ pl hu'
        | str x1=>obtain ⟨t,rfl⟩:=rr2;simp only [eqD];exact SeqAt.EqAt.tuple_str _ _ pl hu'
      | _=>cases h1
def Ue (neg:Bool):R2:=λ x y H Q=>∃ (n:Nat) (d e:Dt),n<=30/\Rp H FT n x d/\Rp H FT n y e/\(Ew d&&Ew e||CD d&&CD e)=true/\Q (.bl (if neg then !eqD d e else eqD d e)) H
theorem Tp (hu:X.A.units+64<cLine):OpR X (compareOp .Eq) (Ue false):=by
  intro pins s σ H x y v u Q I rx ry h;obtain ⟨n,d,e,hn,r,r2,hs,q⟩:=h;cases r with
  | @lst m a xs ds q1 f1 b1 l1 el1=>
    cases r2 with
    | @lst _ b ys es q2 f2 b2 l2 el2=>
      obtain rfl:v=Value.ref a:=rx;obtain rfl:u=Value.ref b:=ry;obtain ⟨its,rv1,pl,_⟩:=I.list (SqL.of q1);obtain ⟨its2,rv2,pl2,_⟩:=I.list (SqL.of q2);have k1:=rv1.length;have k2:=rv2.length;have q:Q (.bl (Ey ds es)) H:=by
        have q:=q;unfold eqD at q;exact q
      by_cases hl:ds.length=es.length
      · refine SeqAt.eq_listAt (e:=λ i=>eqD (ds.getD i .non) (es.getD i .non)) pl.isList pl2.isList (by simp;omega) (by omega) (E9 rv1 rv2 l1 l2 el1 el2 λ r r2 rr rr2=>KB I r r2 rr rr2 (by rw [CJ];omega)) ⟨.bl _,H,I,rfl,?_⟩;rw [show its.toArray.size=ds.length by simp;omega, <-CZ hl];exact q
      · refine SeqAt.eq_list_lengthsAt pl.isList pl2.isList (by simp;omega) (by omega) ⟨.bl _,H,I,rfl,?_⟩;rw [<-CV hl];exact q
    | _=>cases hs
  | @tup m a xs ds q1 b1 l1 el1=>
    cases r2 with
    | @tup _ b ys es q2 b2 l2 el2=>
      obtain rfl:v=Value.ref a:=rx;obtain rfl:u=Value.ref b:=ry;obtain ⟨its,rv1,pl,_⟩:=I.tuple (SqT.of q1);obtain ⟨its2,rv2,pl2,_⟩:=I.tuple (SqT.of q2);have k1:=rv1.length;have k2:=rv2.length;have q:Q (.bl (Ey ds es)) H:=by
        have q:=q;unfold eqD at q;exact q
      refine SeqAt.eq_tupleAt (e:=λ i=>eqD (ds.getD i .non) (es.getD i .non)) (show s.heap.IsTuple a its.toArray from pl) (show s.heap.IsTuple b its2.toArray from pl2) (by omega) (E9 rv1 rv2 l1 l2 el1 el2 λ r r2 rr rr2=>KB I r r2 rr rr2 (by rw [CJ];omega)) ⟨.bl _,H,I,rfl,?_⟩;have e1:its.toArray.size=ds.length:=by simp;omega
      have e2:its2.toArray.size=es.length:=by simp;omega
      rw [e1,e2];by_cases hl:ds.length=es.length
      · rw [<-hl,Nat.min_self,beq_self_eq_true,Bool.and_true, <-CZ hl];exact q
      · rw [beq_eq_false_iff_ne.mpr hl,Bool.and_false, <-CV hl];exact q
    | _=>cases hs
  | _=>cases hs
theorem Kl (hu:X.A.units+64<cLine):OpR X (compareOp .NotEq) (Ue true):=by
  intro pins s σ H x y v u Q I rx ry h;obtain ⟨n,d,e,hn,r,r2,hs,q⟩:=h;cases r with
  | @lst m a xs ds q1 f1 b1 l1 el1=>
    cases r2 with
    | @lst _ b ys es q2 f2 b2 l2 el2=>
      obtain rfl:v=Value.ref a:=rx;obtain rfl:u=Value.ref b:=ry;obtain ⟨its,rv1,pl,_⟩:=I.list (SqL.of q1);obtain ⟨its2,rv2,pl2,_⟩:=I.list (SqL.of q2);have k1:=rv1.length;have k2:=rv2.length;have q:Q (.bl (!Ey ds es)) H:=by
        have q:=q;unfold eqD at q;exact q
      by_cases hl:ds.length=es.length
      · refine SeqAt.RcNeAt.lists (e:=λ i=>eqD (ds.getD i .non) (es.getD i .non)) pl.isList pl2.isList (by simp;omega) (by omega) (E9 rv1 rv2 l1 l2 el1 el2 λ r r2 rr rr2=>KB I r r2 rr rr2 (by rw [CJ];omega)) _ _ _ _ ⟨.bl _,H,I,rfl,?_⟩;rw [show its.toArray.size=ds.length by simp;omega, <-CZ hl];exact q
      · refine SeqAt.RcNeAt.lists_lengths pl.isList pl2.isList (by simp;omega) (by omega) _ _ _ _ ⟨.bl _,H,I,rfl,?_⟩;rw [CV hl] at q;exact q
    | _=>cases hs
  | @tup m a xs ds q1 b1 l1 el1=>
    cases r2 with
    | @tup _ b ys es q2 b2 l2 el2=>
      obtain rfl:v=Value.ref a:=rx;obtain rfl:u=Value.ref b:=ry;obtain ⟨its,rv1,pl,_⟩:=I.tuple (SqT.of q1);obtain ⟨its2,rv2,pl2,_⟩:=I.tuple (SqT.of q2);have k1:=rv1.length;have k2:=rv2.length;have q:Q (.bl (!Ey ds es)) H:=by
        have q:=q;unfold eqD at q;exact q
      refine SeqAt.RcNeAt.tuples (e:=λ i=>eqD (ds.getD i .non) (es.getD i .non)) (show s.heap.IsTuple a its.toArray from pl) (show s.heap.IsTuple b its2.toArray from pl2) (by omega) (E9 rv1 rv2 l1 l2 el1 el2 λ r r2 rr rr2=>KB I r r2 rr rr2 (by rw [CJ];omega)) _ _ _ _ ⟨.bl _,H,I,rfl,?_⟩;have e1:its.toArray.size=ds.length:=by simp;omega
      have e2:its2.toArray.size=es.length:=by simp;omega
      rw [e1,e2];by_cases hl:ds.length=es.length
      · rw [<-hl,Nat.min_self,beq_self_eq_true,Bool.and_true, <-CZ hl];exact q
      · rw [beq_eq_false_iff_ne.mpr hl,Bool.and_false, <-CV hl];exact q
    | _=>cases hs
  | _=>cases hs
end
end L2
namespace L2
open PySem PySem.Spec PyProof.Rows
abbrev dN (n:Nat):Dt:= .int (n:Nat)
def dL (ns:List Nat):Dt:= .lst (ns.map dN)
def dT (ns:List Nat):Dt:= .tup (ns.map dN)
def dS (zs:List Str):Dt:= .lst (zs.map .str)
def dST (zs:List Str):Dt:= .tup (zs.map .str)
def dLL (ls:List (List Nat)):Dt:= .lst (ls.map dL)
def dTT (ls:List (List Nat)):Dt:= .tup (ls.map dT)
section
theorem FQ {α:Type} {f:α->V} {g:α->Dt} (uniq:∀ (a:α) (v:V),Rp H F n v (g a)->v=f a) {as:List α} (l:vs.length=(as.map g).length)
    (e:∀ (i:Nat) (v:V) (d:Dt),vs[i]?=some v->(as.map g)[i]?=some d->Rp H F n v d):vs=as.map f:=by
  refine Ah7 (by simpa using l) λ i h1 h2=> ?_;have h3:i<as.length:=by simpa using h2
  rw [List.getElem_map];exact uniq _ _ (e i vs[i] (g as[i]) (by simp [h1]) (by simp [h3]))
theorem Ps (a:Nat) (v:V) (r:Rp H F n v (dN a)):v=nV a:=by cases r;rfl
theorem Pm (a:Str) (v:V) (r:Rp H F n v (.str a)):v= .str a:=by cases r;rfl
theorem B9 (r:Rp H F n v (dL ns)):∃ a,v= .ref a/\H a=some (.lst (ns.map nV))/\F a/\ns.length<=100000:=by
  unfold dL at r;cases r with
  | @lst m a vs _ h f b l e=>
    have q:=FQ (f:=nV) (λ a v r=>Ps a v r) l e;subst q;exact ⟨a,rfl,h,f,by simpa using b⟩
theorem C4 (r:Rp H F n v (dT ns)):∃ a,v= .ref a/\H a=some (.tup (ns.map nV))/\ns.length<=100000:=by
  unfold dT at r;cases r with
  | @tup m a vs _ h b l e=>
    have q:=FQ (f:=nV) (λ a v r=>Ps a v r) l e;subst q;exact ⟨a,rfl,h,by simpa using b⟩
theorem GW (r:Rp H F n v (dS zs)):∃ a,v= .ref a/\H a=some (.lst (zs.map V.str))/\F a/\zs.length<=100000:=by
  unfold dS at r;cases r with
  | @lst m a vs _ h f b l e=>
    have q:=FQ (f:=V.str) (λ a v r=>Pm a v r) l e;subst q;exact ⟨a,rfl,h,f,by simpa using b⟩
theorem DY (r:Rp H F n v (dST zs)):∃ a,v= .ref a/\H a=some (.tup (zs.map V.str))/\zs.length<=100000:=by
  unfold dST at r;cases r with
  | @tup m a vs _ h b l e=>
    have q:=FQ (f:=V.str) (λ a v r=>Pm a v r) l e;subst q;exact ⟨a,rfl,h,by simpa using b⟩
theorem Ky {α:Type} {f:α->V} {g:α->Dt} {as:List α} (k:∀ a∈as,Rp H F n (f a) (g a)):∀ (i:Nat) (v:V) (d:Dt),(as.map f)[i]?=some v->(as.map g)[i]?=some d->Rp H F n v d:=by
  intro i v d h1 h2;rw [Ac4] at h1 h2;cases e:as[i]? with
  | none=>rw [e] at h1;cases h1
  | some a=>
    rw [e] at h1 h2;cases h1;cases h2;exact k a (List.mem_of_getElem? e)
theorem Be (h:H a=some (.lst (ns.map nV))) (f:F a) (b:ns.length<=100000):Rp H F (n+1) (.ref a) (dL ns):= .lst h f (by simpa using b) (by simp) (Ky λ k _=> .int _)
theorem Qf (h:H a=some (.tup (ns.map nV))) (b:ns.length<=100000):Rp H F (n+1) (.ref a) (dT ns):= .tup h (by simpa using b) (by simp) (Ky λ k _=> .int _)
theorem Ji (h:H a=some (.lst (zs.map V.str))) (f:F a) (b:zs.length<=100000):Rp H F (n+1) (.ref a) (dS zs):= .lst h f (by simpa using b) (by simp) (Ky λ k _=> .str _)
theorem OW (h:H a=some (.tup (zs.map V.str))) (b:zs.length<=100000):Rp H F (n+1) (.ref a) (dST zs):= .tup h (by simpa using b) (by simp) (Ky λ k _=> .str _)
theorem Dn (r:Rp H F n v (.lst ds)):∃ m a vs,n=m+1/\v= .ref a/\H a=some (.lst vs)/\F a/\vs.length=ds.length/\vs.length<=100000/\∀ i,i<ds.length->Rp H F m (vs.getD i .non) (ds.getD i .non):=by
  cases r with
  | @lst m a vs _ h f b l e=>
    refine ⟨m,a,vs,rfl,rfl,h,f,l,b,λ i hi=>e i _ _ ?_ ?_⟩
    · rw [Aa2,Aa4 (by omega)];rfl
    · rw [Aa2,Aa4 hi];rfl
theorem GN (r:Rp H F n v (.tup ds)):∃ m a vs,n=m+1/\v= .ref a/\H a=some (.tup vs)/\vs.length=ds.length/\vs.length<=100000/\∀ i,i<ds.length->Rp H F m (vs.getD i .non) (ds.getD i .non):=by
  cases r with
  | @tup m a vs _ h b l e=>
    refine ⟨m,a,vs,rfl,rfl,h,l,b,λ i hi=>e i _ _ ?_ ?_⟩
    · rw [Aa2,Aa4 (by omega)];rfl
    · rw [Aa2,Aa4 hi];rfl
theorem AU {α β:Type} (f:α->β) (as:List α) (i:Nat) (x:β) (y:α) (h:i<as.length):(as.map f).getD i x=f (as.getD i y):=by simp [Aa2,h]
theorem Oj (h:i<(zs.map V.str).length):(zs.map V.str).getD i .non= .str (zs.getD i Str.empty):=AU V.str zs i .non Str.empty (by simpa using h)
theorem getD_mem {α:Type} {as:List α} {y:α} (h:i<as.length):as.getD i y∈as:=by
  rw [Aa2,Aa4 h];exact Ag6 h
theorem Dy {α β:Type} (f:α->β) (as:List α) (y:α):(Aa9 as.length).map (λ i=>f (as.getD i y))=as.map f:=Bl f as y
end
theorem Rp.ins {d:Dt} {fs:List (Str × V)} (r:Rp H F n v d) (h:H x=some (.ins C dx fs)):Rp (L2.upd H x o) F n v d:=by
  induction r with
  | non=>exact .non
  | bl b=>exact .bl b
  | int i=>exact .int i
  | str z=>exact .str z
  | @lst n a vs ds q f b l e ih=>
    refine .lst ?_ f b l ih;rw [Ai (A3 q h (by intro z;cases z))];exact q
  | @tup n a vs ds q b l e ih=>
    refine .tup ?_ b l ih;rw [Ai (A3 q h (by intro z;cases z))];exact q
def But (x:Addr) (H H':Hp):Prop:=∀ b o,H b=some o->b≠x->H' b=some o
theorem But.same (b:But x H H1) (s:Same H1 H2):But x H H2:=λ a o e n=>s _ _ (b a o e n)
theorem But.of (s:Same H H1):But x H H1:=λ a o e _=>s _ _ e
theorem But.put (b:But x H H1):But x H (upd H1 x o):=λ a u e n=>by rw [Ai n];exact b a u e n
theorem But.rp {d:Dt} {fs:List (Str × V)} (k:But x H H') (h:H x=some (.ins C dx fs)) (r:Rp H F n v d):Rp H' F n v d:=by
  induction r with
  | non=>exact .non
  | bl b=>exact .bl b
  | int i=>exact .int i
  | str z=>exact .str z
  | @lst n a vs ds q f b l e ih=>exact .lst (k _ _ q (A3 q h (by intro z;cases z))) f b l ih
  | @tup n a vs ds q b l e ih=>exact .tup (k _ _ q (A3 q h (by intro z;cases z))) b l ih
theorem Rp.tupd {t:Addr} (r:Rp H F (n+1) (.ref D) (.lst ds)) (hl:H D=some (.lst ys)) (ht:H t=none):Rp (L2.upd H t (.tup ys)) F (n+1) (.ref t) (.tup ds):=by
  cases r with
  | @lst _ _ vs _ q f b l ee=>
    rw [hl] at q;cases q;exact .tup Af b l λ i v e h1 h2=>(ee i v e h1 h2).new ht
theorem RP (ls:List (List Nat)):(Aa9 ls.length).map (λ i=>dT (ls.getD i []))=ls.map dT:=Bl dT ls []
theorem PU (ls:List (List Nat)):(Aa9 ls.length).map (λ i=>dL (ls.getD i []))=ls.map dL:=Bl dL ls []
theorem Lx {k:Int} (h:0<=k):Em xs (some k) none=xs.drop k.toNat:=by
  unfold Em;have e2:HT.sIx xs.length xs.length none=xs.length:=rfl;rw [e2];have e1:HT.sIx xs.length 0 (some k)=min k.toNat xs.length:=by
    unfold HT.sIx;simp only;split <;> omega
  rw [e1];by_cases q:k.toNat<=xs.length
  · rw [Nat.min_eq_left q,Af5 (by simp)]
  · rw [Nat.min_eq_right (by omega),List.drop_of_length_le (Aa7 _),List.drop_of_length_le (by omega)];simp
theorem ME {k:Int} (h:0<=k):Em xs none (some k)=xs.take k.toNat:=by
  unfold Em;have e2:HT.sIx xs.length 0 none=0:=rfl;rw [e2,List.drop_zero];have e1:HT.sIx xs.length xs.length (some k)=min k.toNat xs.length:=by
    unfold HT.sIx;simp only;split <;> omega
  rw [e1,Nat.sub_zero];by_cases q:k.toNat<=xs.length
  · rw [Nat.min_eq_left q]
  · rw [Nat.min_eq_right (by omega),Af5 (Aa7 _),Af5 (by omega)]
section
variable {K:PySem.W.Frag} {own:List Str} {fr:List (Str × Nat)} {te tl:TE} {tb:TS} {D:Ends} {R:It->Hp->Prop}
theorem Rh (h:wi σ H λ J H1=>∀ D,H1 D=none->EV J (F3 own fr σ) g tc te Q H1 D):Ke wi own fr g tc te σ H Q:=h
theorem Sb (h:wi σ H λ J H1=>∃ W:Nat->Nat->St->Hp->Prop,(∃ m,W 0 m σ H1)/\∀ i m σ H,W i m σ H->
  (J.stop i H/\D.nx σ H)\/(J.go i H/\∃ N:St->Hp->Prop,(∀ σ' H',N σ' H'->∃ m',m'<m/\W (i+1) m' σ' H')/\∀ x H',J.yld i H x H'->g x σ H' λ σ2 H2=>tb { D with nx:=N,ct:=N,bk:=D.nx } σ2 H2)):To wi g tb D σ H:=h
theorem WY (h:tl σ H λ x H1=>∃ a,x= .ref a/\(∃ xs,SqL K H1 a xs)/\R (Itl K a) H1):Nt K tl σ H R:=h
theorem VS (h:tl σ H λ x H1=>∃ a,x= .ref a/\(∃ xs,SqT K H1 a xs)/\R (Itt K a) H1):TJ K tl σ H R:=h
theorem Uk (h:tl σ H λ x H1=>∃ tp a,x= .ref a/\(∃ xs,SqS tp K H1 a xs)/\R (Isq tp K a) H1):iSq K tl σ H R:=h
theorem VM (h:ta σ H λ vs H1=>∃ a,vs=[.ref a]/\(∃ xs,SqL K H1 a xs)/\R (Ite K a) H1):RX K ta σ H R:=h
theorem XQ (h:ta σ H λ vs H1=>∃ tp a,vs=[.ref a]/\(∃ xs,SqS tp K H1 a xs)/\R (PP tp K a) H1):O2 K ta σ H R:=h
theorem T9 (h:ta σ H λ vs H1=>∃ t1 t2 a b,vs=[.ref a, .ref b]/\(∃ xs,SqS t1 K H1 a xs)/\(∃ ys,SqS t2 K H1 b ys)/\R (Izs t1 t2 K a b) H1):iZs K ta σ H R:=h
theorem Vv (h:ta σ H λ vs H1=>∃ j:Int,vs=[.int j]/\ -(2 ^ 62)<=j/\j<2 ^ 62/\R (Itr 0 j.toNat) H1):RI ta σ H R:=h
theorem Uv (h:ta σ H λ vs H1=>∃ i j:Int,vs=[.int i, .int j]/\(-(2 ^ 62)<=i/\i<2 ^ 62/\ -(2 ^ 62)<=j/\j<2 ^ 62)/\R (Itr i (j - i).toNat) H1):RM ta σ H R:=h
theorem Zh (h:ta σ H λ vs H1=>∃ i j c:Int,vs=[.int i, .int j, .int c]/\(-(2 ^ 40)<=i/\i<2 ^ 40)/\(-(2 ^ 40)<=j/\j<2 ^ 40)/\(-(2 ^ 20)<=c/\c<2 ^ 20)/\c≠0/\R (Itc i c (Builtin.Range.rangeSize i j c).toNat) H1):R0 ta σ H R:=h
end
theorem HH {K:PySem.W.Frag} {t:TGs} (h:SqT K H a xs) (l:xs.length=n) (k:t xs σ H QS):JD K n t (.ref a) σ H QS:=⟨a,xs,rfl,h,l,k⟩
theorem Io {t:TG} {u:TGs} (k:t v σ H λ σ' H'=>u vs σ' H' QS):CB t u (v::vs) σ H QS:=⟨v,vs,rfl,k⟩
theorem M3 (k:QS σ H):KO [] σ H QS:=⟨rfl,k⟩
theorem FL {H0:Hp} {set:Nat->St->St} {tb:TS} {D:Ends} (S:FSrc J g H0 n set) (Pv:Nat->St->Hp->Prop) (h0:Pv 0 σ H) (hk:∀ i σ H',Pv i σ H'->Same H0 H')
    (hs:∀ i σ H' H3,i<n->Pv i σ H'->Same H' H3->tb { D with nx:=Pv (i+1),ct:=Pv (i+1),bk:=D.nx } (set i σ) H3) (hd:∀ σ H',Pv n σ H'->D.nx σ H'):
    ∃ W:Nat->Nat->St->Hp->Prop,(∃ m,W 0 m σ H)/\∀ i m σ H,W i m σ H->
      (J.stop i H/\D.nx σ H)\/(J.go i H/\∃ N:St->Hp->Prop,(∀ σ' H',N σ' H'->∃ m',m'<m/\W (i+1) m' σ' H')/\∀ x H',J.yld i H x H'->g x σ H' λ σ2 H2=>tb { D with nx:=N,ct:=N,bk:=D.nx } σ2 H2):=by
  refine ⟨λ i m σ H'=>m=n - i/\i<=n/\Pv i σ H',⟨n,by simp,Ad3 _,h0⟩,?_⟩;rintro i m σ H1 ⟨rfl,hi,p⟩;by_cases hlt:i<n
  · exact .inr ⟨S.go i H1 hlt (hk _ _ _ p),Pv (i+1),λ σ' H' p'=>⟨n - (i+1),by omega,rfl,hlt,p'⟩,λ x H' y=>S.yld i σ H1 x H' _ hlt (hk _ _ _ p) y λ H3 s3=>hs i σ H1 H3 hlt p s3⟩
  · have e:i=n:=by omega
    subst e;exact .inl ⟨S.stop H1 (hk _ _ _ p),hd σ H1 p⟩
theorem DU (h0:σ0[0]?=some none):SrcOk (Itr 0 n) (A5 0) σ0 H n (λ i=>σ0.set 0 (some (.int (i:Nat)))):=by
  have:=Gq (H:=H) (lo:=0) (n:=n) h0;simpa using this
theorem RK {A B:Prop} (h:B):if (!true)=true then A else B:=by simpa using h
theorem HK {v1 v2 v3 v4 v5 v6:V} {d3 d4 d5 d6:Dt} (h:H a=some (.tup [v0,v1,v2,v3,v4,v5,v6])) (r0:Rp H F n v0 d0) (r1:Rp H F n v1 d1) (r2:Rp H F n v2 d2) (r3:Rp H F n v3 d3) (r4:Rp H F n v4 d4) (r5:Rp H F n v5 d5) (r6:Rp H F n v6 d6):
    Rp H F (n+1) (.ref a) (.tup [d0,d1,d2,d3,d4,d5,d6]):=by
  refine .tup h (by simp) rfl λ i v u h1 h2=> ?_
  match i with
  | 0=>cases h1;cases h2;exact r0
  | 1=>cases h1;cases h2;exact r1
  | 2=>cases h1;cases h2;exact r2
  | 3=>cases h1;cases h2;exact r3
  | 4=>cases h1;cases h2;exact r4
  | 5=>cases h1;cases h2;exact r5
  | 6=>cases h1;cases h2;exact r6
  | i+7=>cases h1
theorem AQ {α:Type} {xs:List α} (h:xs.length=n+1):∃ x ys,xs=x::ys/\ys.length=n:=by
  cases xs with
  | nil=>cases h
  | cons x ys=>exact ⟨x,ys,rfl,Nat.succ.inj h⟩
theorem Nb {d3 d4 d5 d6:Dt} (r:Rp H F n v (.tup [d0,d1,d2,d3,d4,d5,d6])):∃ m a v0 v1 v2 v3 v4 v5 v6,n=m+1/\v= .ref a/\H a=some (.tup [v0,v1,v2,v3,v4,v5,v6])/\
    Rp H F m v0 d0/\Rp H F m v1 d1/\Rp H F m v2 d2/\Rp H F m v3 d3/\Rp H F m v4 d4/\Rp H F m v5 d5/\Rp H F m v6 d6:=by
  cases r with
  | @tup m a vs _ h b l e=>
    replace l:vs.length=7:=l;obtain ⟨v0,w0,rfl,l0⟩:=AQ l;obtain ⟨v1,w1,rfl,l1⟩:=AQ l0;obtain ⟨v2,w2,rfl,l2⟩:=AQ l1;obtain ⟨v3,w3,rfl,l3⟩:=AQ l2;obtain ⟨v4,w4,rfl,l4⟩:=AQ l3;obtain ⟨v5,w5,rfl,l5⟩:=AQ l4;obtain ⟨v6,w6,rfl,l6⟩:=AQ l5;cases List.eq_nil_of_length_eq_zero l6;exact ⟨m,a,v0,v1,v2,v3,v4,v5,v6,rfl,rfl,h,e 0 _ _ rfl rfl,e 1 _ _ rfl rfl,e 2 _ _ rfl rfl,e 3 _ _ rfl rfl,e 4 _ _ rfl rfl,e 5 _ _ rfl rfl,e 6 _ _ rfl rfl⟩
theorem ifJ {c:TT} {t u:TS} {D:Ends} (J:St->Hp->Prop) (h1:∀ σ' H',J σ' H'->D.nx σ' H') (h2:(∀ σ' H',J σ' H'->D.nx σ' H')->Qc c t u D σ H):Qc c t u D σ H:=h2 h1
theorem Ku {α:Type} (f:α->List Nat) (xs:List α):Dt.lst (xs.map λ x=>dL (f x))=dLL (xs.map f):=by unfold dLL;rw [Ae1];rfl
theorem Tf {α:Type} (f:α->Nat) (xs:List α):Dt.lst (xs.map λ x=>dN (f x))=dL (xs.map f):=by unfold dL;rw [Ae1];rfl
theorem Oy {α:Type} (f:α->Str) (xs:List α):Dt.lst (xs.map λ x=>Dt.str (f x))=dS (xs.map f):=by unfold dS;rw [Ae1];rfl
theorem QV (s:Nat) (ns:List Nat):inV (nV s) (ns.map nV)=decide (s∈ns):=by
  unfold inV;rw [Ad0,List.any_eq_true,decide_eq_true_eq];constructor
  · rintro ⟨y,hy,e⟩;obtain ⟨k,hk,rfl⟩:=Ac3.mp hy;have e:((k:Nat):Int)=(s:Nat):=by simpa [eqV] using e
    have:k=s:=by omega
    exact this▸hk
  · intro h;exact ⟨nV s,Ac3.mpr ⟨s,h,rfl⟩,by simp [eqV]⟩
theorem OG (ns:List Nat):(ns.map nV).all B5=true:=by simp [B5]
theorem Sy {K:PySem.W.Frag} {tp:Bool} {s:Nat} (c:SqS tp K H p (ns.map nV)) (h:Q (.bl (decide (s∈ns))) H):rIn K false (nV s) (.ref p) H Q:=by
  refine ⟨p,_,rfl,?_,rfl,OG ns,by rw [QV];exact h⟩;cases tp with
  | false=>exact .inl c
  | true=>exact .inr c
theorem EQ {k:Int} (e:k=j) (h:j<vs.length):atI vs k=some (vs.getD j .non):=by
  subst e;refine AH ?_;rw [Aa2,Aa4 h];rfl
theorem Mh (p:Nat->Bool) (G:Nat->Nat) (n:Nat):(((Aa9 n).filter p).map G).sum=((Aa9 n).map λ i=>(p i).toNat*G i).sum:=by
  induction n with
  | zero=>rfl
  | succ n ih=>
    rw [Ag2,Ag3,Ae0,Ae0,List.sum_append,List.sum_append,ih];cases h:p n <;> simp [h]
theorem KZ:∀ (ns:List Nat),(ns.map λ n=>((n:Nat):Int)).sum=((ns.sum:Nat):Int)
  | []=>rfl
  | a::ns=>by rw [Ag9,List.sum_cons,KZ ns,List.sum_cons];push_cast;rfl
end L2
namespace L2
theorem Qt {α:Type} {as:List α} {y:α} (h:i<as.length):as.getD i y=as[i]:=by
  rw [Aa2,Aa4 h];rfl
end L2
namespace L2
open PySem PySem.Spec PyProof.Rows
theorem L3 {y:Nat} (h:j<n):(Aa9 n).getD j y=j:=by
  rw [Qt (by simpa using h),List.getElem_range]
theorem CK {α:Type} (f:Nat->α) {y:α} (h:j<n):((Aa9 n).map f).getD j y=f j:=by
  rw [AU f (Aa9 n) j y 0 (by simpa using h),L3 h]
def ZD (i j:Int):Prop:=0<j/\j<2 ^ 200
theorem N8 {j:Int} (h0:0<j) (h:j<2 ^ 200):j.natAbs.log2<9000:=by
  have h1:j.natAbs<2 ^ 200:=by omega
  have:=(Nat.log2_lt (show j.natAbs≠0 by omega)).mpr h1;omega
theorem BB:OpR X (binaryOp .FloorDiv) (rI ZD λ i j=> .int (i / j)):=opI λ i j _ _ _ _ _ hc q=>by
  rw [<-Int.fdiv_eq_ediv_of_nonneg i (by have:=hc.1;omega)] at q;exact floordiv_int (by have:=hc.1;omega) q (.inl (PyProof.noPylong_of_log2 (N8 hc.1 hc.2)))
section
variable {K:PySem.W.Frag} {o:Expr} {ta to:TE} {f name:Str} {cpos:Pos} {id:String}
theorem Az (he:PE X e ta) (hb:attributeBase e f X.env (eval e X.env)=eval e X.env) (hK:X.K=K:=by rfl):PE X (.Attribute e f pos) (Sf K ta f):=by
  subst hK;exact Sh he hb
theorem MG (pa:PlainAttrs T) (slot:Slot T name id) (hty:typeOf (.builtin id)=pure (.type "method_descriptor")) (hm:MtR X id r) (ho:PE X o to) (hK:X.K=K:=by rfl)
    (hbase:attributeBase o name X.env (eval o X.env)=eval o X.env:=by rfl) (hline:(apos.endLine == cpos.line)=true:=by rfl):PE X (.Call (.Attribute o name apos) [] [] cpos) (S4 K T r to):=by
  subst hK;exact SN pa slot hty hm ho hbase hline
theorem C6 (pa:PlainAttrs T) (slot:Slot T name id) (hty:typeOf (.builtin id)=pure (.type "method_descriptor")) (hm:MtR X id r) (ho:PE X o to) (ha:PA X (e::es) t) (hK:X.K=K:=by rfl)
    (hbase:attributeBase o name X.env (eval o X.env)=eval o X.env:=by rfl)
    (hfew:((backTo cpos (starEach (e::es) X.env)).all (λ x=> !x.1)&&(backToKw cpos (keywordEach [] X.env)).all (λ x=>x.1.isSome)
      && decide ((e::es).length+([]:List Keyword).length+(if ([]:List Keyword).isEmpty then 0 else 1)<30))=true:=by rfl)
    (hline:(apos.endLine == cpos.line)=true:=by rfl) (hs:starEach (e::es) X.env=(false,eval e X.env)::starEach es X.env:=by rfl) (hplain:(backTo cpos (starEach es X.env)).any (·.1)=false:=by rfl):
    PE X (.Call (.Attribute o name apos) (e::es) [] cpos) (tBM K T r to t):=by
  subst hK;exact VA pa slot hty hm ho ha hbase hfew hline hs hplain
end
def IsRvd (h:Heap) (a l:Addr) (i:Int):Prop:=∃ o,h.get? a=some o/\o.cls= .type "reversed"/\o.data= .fields #[.ref l,rawInt i]
section
theorem IsRvd.at {i:Int} (x:IsRvd h a l i) (e:∀ o,h.get? a=some o->h'.get? a=some o):IsRvd h' a l i:=let ⟨o,ho,r⟩:=x;⟨o,e _ ho,r⟩
end
def WA (P:Program) (w:World) (K:PySem.W.Frag) (mg:Str->Option Value) (base:Heap) (k:Nat) (f:Addr) (sp:Sp):Prop:=
  ∃ fd ps,PySem.W.keepIn K (.ref f)=true/\FnOk P w K mg base CX0 k f fd ps sp/\Binds K fd ps []
theorem CallF.val {K:PySem.W.Frag} {x:Str} {k:Nat} (h:CallF P w K mg base x k ps sp):∃ f,mg x=some (.ref f)/\WA P w K mg base k f sp:=
  let ⟨f,fd,hm,hk,F,hb⟩:=h;⟨f,hm,fd,ps,hk,F,hb⟩
theorem arg1 {α:Type} {P:List α->Prop} (h:∀ a0,P [a0]):∀ us:List α,us.length=1->P us:=λ us hl=>match us,hl with | [a0],_=>h a0
theorem arg2 {α:Type} {P:List α->Prop} (h:∀ a0 a1,P [a0,a1]):∀ us:List α,us.length=2->P us:=λ us hl=>match us,hl with | [a0,a1],_=>h a0 a1
theorem arg3 {α:Type} {P:List α->Prop} (h:∀ a0 a1 a2,P [a0,a1,a2]):∀ us:List α,us.length=3->P us:=λ us hl=>match us,hl with | [a0,a1,a2],_=>h a0 a1 a2
theorem arg4 {α:Type} {P:List α->Prop} (h:∀ a0 a1 a2 a3,P [a0,a1,a2,a3]):∀ us:List α,us.length=4->P us:=λ us hl=>match us,hl with | [a0,a1,a2,a3],_=>h a0 a1 a2 a3
theorem arg5 {α:Type} {P:List α->Prop} (h:∀ a0 a1 a2 a3 a4,P [a0,a1,a2,a3,a4]):∀ us:List α,us.length=5->P us:=λ us hl=>match us,hl with | [a0,a1,a2,a3,a4],_=>h a0 a1 a2 a3 a4
theorem arg6 {α:Type} {P:List α->Prop} (h:∀ a0 a1 a2 a3 a4 a5,P [a0,a1,a2,a3,a4,a5]):∀ us:List α,us.length=6->P us:=λ us hl=>match us,hl with | [a0,a1,a2,a3,a4,a5],_=>h a0 a1 a2 a3 a4 a5
theorem arg7 {α:Type} {P:List α->Prop} (h:∀ a0 a1 a2 a3 a4 a5 a6,P [a0,a1,a2,a3,a4,a5,a6]):∀ us:List α,us.length=7->P us:=λ us hl=>match us,hl with | [a0,a1,a2,a3,a4,a5,a6],_=>h a0 a1 a2 a3 a4 a5 a6
theorem arg8 {α:Type} {P:List α->Prop} (h:∀ a0 a1 a2 a3 a4 a5 a6 a7,P [a0,a1,a2,a3,a4,a5,a6,a7]):∀ us:List α,us.length=8->P us:=λ us hl=>match us,hl with | [a0,a1,a2,a3,a4,a5,a6,a7],_=>h a0 a1 a2 a3 a4 a5 a6 a7
theorem arg9 {α:Type} {P:List α->Prop} (h:∀ a0 a1 a2 a3 a4 a5 a6 a7 a8,P [a0,a1,a2,a3,a4,a5,a6,a7,a8]):∀ us:List α,us.length=9->P us:=λ us hl=>match us,hl with | [a0,a1,a2,a3,a4,a5,a6,a7,a8],_=>h a0 a1 a2 a3 a4 a5 a6 a7 a8
structure BlkScopeC (X:Cx) (scope:Scope) (cx:Str) (own:List Str) (fr:List (Str × Nat)):Prop where
  kind:scope.kind= .function
  onec:∀ y∈scope.names,y.2= .cell->y.1=cx
  isc:scope.names.lookup cx=some .cell
  lay:∀ n cl,cellsFrom n scope.names cl=(cx,n)::cl
  push:∀ h:Heap,pushCells h scope.names=h.push { cls:= .type "cell",data:= .cell none }
  loc:∀ y∈scope.names,y.2= .local->scope.names.lookup y.1=some .local
  free:∀ y∈scope.names,y.2= .free->(X.env.scope.names.lookup y.1=some .cell\/X.env.scope.names.lookup y.1=some .free)
  fr:∀ p∈fr,X.N[p.2]?=some p.1/\(p.1,NameKind.free)∈scope.names
  only:∀ x,(x,NameKind.free)∈scope.names->scope.names.lookup x=some .free
theorem Ts {D:Ends} (h:ta σ H λ vs H1=>∃ v w,vs=[v,w]/\D.nx ((σ.set i (some v)).set j (some w)) H1):Yr i j ta D σ H:=h
theorem SR {x y:V} {R:V->V->Prop} (h:R x y):∃ v w,[x,y]=[v,w]/\R v w:=⟨x,y,rfl,h⟩
end L2
namespace HT
open PySem PySem.Spec PyProof.Rows
theorem getItem_tuple_whole {t sl:Addr} {items:Array Value} {vl vu:Value} {Q:Value->Shared->Prop} (ht:IsTup s.heap t items) (hs:s.heap.IsSliceOf sl vl vu .none) (pl:IsPart vl lo) (pu:IsPart vu hi)
    (w1:sIx items.size 0 lo=0) (w2:sIx items.size items.size hi=items.size) (h:Q (.ref t) s):wpAny (model prog w) A (getItem (.ref t) (.ref sl)) Q E s:=by
  obtain ⟨os,hos,hcs,hds⟩:=id hs;have hTs:s.TypeIs (.ref sl) "slice":=⟨os,hos,hcs⟩;unfold getItem
  try with_reducible refine Ad5 ?_
  first | refine Aa0 (Aa5 ?_) | skip
  refine Aa0 (wpAny_sequenceKey ht.typeIs (by decide) ?_);refine Aa0 (Ab4 (name:=Str.ofString "__getitem__") ht.typeIs PyProof.Rows.slot_tuple_getitem
    (Ab9 PyProof.Rows.slot_tuple_getitem ht.typeIs entry_tuple_getitem ?_ (args_tuple_getitem _ _)))
  show wpAny _ _ (Builtin.Tuple.tupleItemsOf (.ref t) >>= _) _ _ s;refine Aa0 (tupleItemsOf_ ht ?_);refine Aa0 (wpAny_typeOf hTs ?_);rw [if_pos (by decide)];refine Aa0 (DJ hs pl pu ?_);have hyes:(((sIx items.size 0 lo:Nat):Int) == 0&&(1:Int) == 1&&(sIx items.size items.size hi - sIx items.size 0 lo) == items.size)=true:=by
    rw [w1,w2];simp
  show wpAny _ _ (if (((sIx items.size 0 lo:Nat):Int) == 0&&(1:Int) == 1&&(sIx items.size items.size hi - sIx items.size 0 lo) == items.size)=true then _ else _) _ _ s;rw [if_pos hyes];unfold Builtin.Tuple.tupleIsExact;refine Aa0 (Aa0 (wpAny_typeOf ht.typeIs (Aa5 ?_)));rw [if_pos (by decide)];exact Aa0 (wpAny_rule (Aa5 ⟨_,rfl,Aa5 h⟩))
end HT
namespace L2
open PySem PySem.Spec PyProof.Rows
theorem F9:∀ {vs:List Value} {ns:List Int},IntsAre vs ns->Vals (ns.map V.int) vs
  | _,_, .nil=> .nil
  | _,_, .cons n t h=> .cons ⟨t,rfl⟩ (F9 h)
theorem KM:checkCount "sorted" 1 1 1=pure ():=rfl
def ax (K:PySem.W.Frag):V->Option Int->Option Int->Hp->VK->Prop:=λ x lo hi H Q=>∃ a xs,x= .ref a/\SqT K H a xs/\∀ H' p,Same H H'->SqT K H' p (Em xs lo hi)->Q (.ref p) H'
theorem ZZ {K:PySem.W.Frag} (hK:X.K=K:=by rfl):SlR X (ax K):=by
  subst hK;intro pins s σ H x v vl vu lo hi sl Q I rx hs pl pu h;obtain ⟨a,xs,rfl,hx,q⟩:=h;by_cases hw:HT.sIx xs.length 0 lo=0/\HT.sIx xs.length xs.length hi=xs.length
  · cases rx;obtain ⟨its,r,ht,hz⟩:=I.tuple hx;have hlen:its.toArray.size=xs.length:=by rw [Ab0];exact r.length.symm
    refine ⟨"tuple",_,PyProof.Rows.slot_tuple_getitem.lookup,ht.typeIs,?_⟩;refine HT.getItem_tuple_whole ht hs pl pu (by rw [hlen];exact hw.1) (by rw [hlen];exact hw.2) ?_;have e:Em xs lo hi=xs:=by
      unfold Em;rw [hw.1,hw.2,List.drop_zero,Nat.sub_zero,Af5 (Aa7 _)]
    exact ⟨.ref a,H,I,rfl,q H a (Same.refl _) (by rw [e];exact hx)⟩
  · exact SC pins s σ H _ v vl vu lo hi sl Q I rx hs pl pu ⟨a,xs,rfl,hx,hw,λ p hp=>q _ p (Aj hp) (SqT.of Af)⟩
def DK {α:Type}:Sem α->Prop
  | .rule _ k=>DK (k ())
  | .at _ k=>DK (k ())
  | .load _ _ k=>∀ o,DK (k o)
  | .update _ _ f k=>(∀ o,(f o).dict=o.dict)/\DK (k ())
  | .loadIfAlive _ k=>∀ o,DK (k o)
  | .point _ k=>DK (k ())
  | .alloc _ k=>∀ a,DK (k a)
  | .fresh k=>∀ t,DK (k t)
  | .ask k=>∀ t,DK (k t)
  | .choose _ _ k=>∀ t,DK (k t)
  | .os _ _ k=>∀ t,DK (k t)
  | .call .. => False
  | .handled _ k=>∀ t,DK (k t)
  | .genState _ k=>∀ t,DK (k t)
  | .newGen _ k=>∀ t,DK (k t)
  | .resume .. => False
  | .stack k=>∀ t,DK (k t)
  | .thread k=>∀ t,DK (k t)
  | _=>True
def KD (h h':Heap):Prop:=∀ (b:Nat) (o:Obj),h.objs[b]?=some o->∃ o',h'.objs[b]?=some o'/\o'.dict=o.dict
theorem KD.trans {h1 h2:Heap} (a:KD h h1) (b:KD h1 h2):KD h h2:=λ c o e=>by
  obtain ⟨o1,e1,d1⟩:=a c o e;obtain ⟨o2,e2,d2⟩:=b c o1 e1;exact ⟨o2,e2,d2.trans d1⟩
theorem OX {o:Obj} (e:h.get? b=some o):h.objs[b]?=some o:=by
  unfold Heap.get? at e;split at e
  · cases e
  · exact e
theorem KD.at' (k:KD h h') {o o':Obj} (e:h.get? b=some o) (e':h'.get? b=some o'):o'.dict=o.dict:=by
  obtain ⟨o1,e1,d1⟩:=k b o (OX e);rw [OX e'] at e1;cases e1;exact d1
theorem KD.push (h:Heap) (o:Obj):KD h (h.push o):=λ b u e=>by
  refine ⟨u,?_,rfl⟩;show (h.objs.push o)[b]?=some u;have hb:b<h.objs.size:=(Array.getElem?_eq_some_iff.mp e).1;rw [Array.getElem?_push_lt hb];rw [Ab7 hb] at e;exact e
theorem DK.bind {α β:Type} {f:α->Sem β}:∀ {t:Sem α},DK t->(∀ a,DK (f a))->DK (t >>= f):=by
  intro t;show _->_->DK (Sem.bind t f)
  induction t with
  | pure a=>intro _ h;exact h a
  | raise e=>intro _ _;trivial
  | unsupported w=>intro _ _;trivial
  | finish e=>intro _ _;trivial
  | rule t k ih=>intro d h;exact ih () d h
  | «at» t k ih=>intro d h;exact ih () d h
  | load a part k ih=>intro d h o;exact ih o (d o) h
  | update a part f k ih=>intro d h;exact ⟨d.1,ih () d.2 h⟩
  | alloc o k ih=>intro d h a;exact ih a (d a) h
  | loadIfAlive a k ih=>intro d h o;exact ih o (d o) h
  | point l k ih=>intro d h;exact ih () d h
  | register a k ih=>intro _ _;trivial
  | fresh k ih=>intro d h o;exact ih o (d o) h
  | ask k ih=>intro d h o;exact ih o (d o) h
  | choose a n k ih=>intro d h o;exact ih o (d o) h
  | os a n k ih=>intro d h o;exact ih o (d o) h
  | call c a b l k ih=>intro d h;exact d.elim
  | handled a k ih=>intro d h o;exact ih o (d o) h
  | newGen c k ih=>intro d h o;exact ih o (d o) h
  | genState g k ih=>intro d h o;exact ih o (d o) h
  | resume g r l k ih=>intro d h;exact d.elim
  | yield v g l k ih=>intro _ _;trivial
  | stack k ih=>intro d h o;exact ih o (d o) h
  | fork c k ih=>intro _ _;trivial
  | thread k ih=>intro d h o;exact ih o (d o) h
  | await a t b l k ih=>intro _ _;trivial
section
variable {M:Model}
def Tj (h:Heap) (a:Addr) (od:Option Addr):Prop:=∃ o,h.get? a=some o/\o.dict=od
end
def WL (outer:List Env) (s:Shared) (H':Hp) (a C t:Addr) (s':Shared):Prop:=
  ∃ B:Heap,B.FlyingW outer a (.ref C) (.ref t) s'.heap/\∀ b,(H' b≠none\/∃ o,s.heap.get? b=some o)->b∉frs outer->∀ o,s'.heap.get? b=some o->B.get? b=some o
def CXE (P:Program) (w:World):CXT:=λ outer H s E e s'=>
  ∃ a C t od H',e= .ref a/\s'.os=s.os/\AllBare s'.gens/\Un (frs outer) [] H H' s.heap s'.heap/\HOk P w H' s'.heap/\WL outer s H' a C t s'/\Tj s'.heap a od/\E (.ref C) od H'
end L2
namespace MSort
open PySem.W PyProof.Rows
def KP (lt:Nat->Nat->Bool) (n:Nat) {α:Type}:KasT α->(α->Prop)->Prop
  | .ret a,Q=>Q a
  | .ask i j k,Q=>i<n/\j<n/\KP lt n (k (lt i j)) Q
theorem MP {lt:Nat->Nat->Bool} {n:Nat} {α β:Type} {f:α->KasT β} {Q:β->Prop}:∀ (t:KasT α),KP lt n t (λ a=>KP lt n (f a) Q)->KP lt n (t.bind f) Q
  | .ret _,h=>h
  | .ask i j k,h=>⟨h.1,h.2.1,MP (k (lt i j)) h.2.2⟩
theorem MT {lt:Nat->Nat->Bool} {n:Nat} {α:Type} {Q Q':α->Prop} (hq:∀ a,Q a->Q' a):∀ (t:KasT α),KP lt n t Q->KP lt n t Q'
  | .ret a,h=>hq a h
  | .ask i j k,h=>⟨h.1,h.2.1,MT hq (k (lt i j)) h.2.2⟩
structure Ok (n:Nat) (p:Array Nat):Prop where
  size:p.size=n
  perm:p.toList.Perm (Aa9 n)
theorem Ok.lt {p:Array Nat} (h:Ok n p) (hi:i<n):p.getD i 0<n:=by
  have hi':i<p.size:=by rw [h.size];exact hi
  have e:p.getD i 0=p[i]:=by simp [Array.getD,hi']
  rw [e];have:=h.perm.mem_iff.mp (Array.mem_toList_iff.mpr (Array.getElem_mem hi'));exact Ae9.mp this
theorem Ok.inj {p:Array Nat} (h:Ok n p) (hi:i<n) (hj:j<n) (e:p.getD i 0=p.getD j 0):i=j:=by
  have hi':i<p.size:=by rw [h.size];exact hi
  have hj':j<p.size:=by rw [h.size];exact hj
  have e1:p.getD i 0=p.toList[i]'(by simpa using hi'):=by simp [Array.getD,hi']
  have e2:p.getD j 0=p.toList[j]'(by simpa using hj'):=by simp [Array.getD,hj']
  rw [e1,e2] at e;have nd:p.toList.Nodup:=h.perm.symm.nodup List.nodup_range;exact (List.getElem_inj nd).mp e
theorem Ok.to {p q:Array Nat} (h:Ok n p) (hq:q.Perm p):Ok n q:=
  ⟨hq.size_eq.trans h.size,(Array.perm_iff_toList_perm.mp hq).trans h.perm⟩
variable {r:Nat->Nat} {p:Array Nat}
def K (r:Nat->Nat) (p:Array Nat) (i:Nat):Nat:=r (p.getD i 0)
def Inj (r:Nat->Nat) (n:Nat):Prop:=∀ i j,i<n->j<n->r i=r j->i=j
def L (r:Nat->Nat):Nat->Nat->Bool:=λ i j=>decide (r i<r j)
def Up (r:Nat->Nat) (p:Array Nat) (k:Nat):Prop:=∀ i j,i<j->j<k->K r p i<K r p j
theorem aM (hr:Inj r n) (o:Ok n p) (hi:i<n) (hj:j<n) (hij:i≠j):K r p i≠K r p j:=
  λ e=>hij (o.inj hi hj (hr _ _ (o.lt hi) (o.lt hj) e))
theorem KR {p q:Array Nat} (h:p[i]?=q[j]?):p.getD i 0=q.getD j 0:=by
  have e:∀ (a:Array Nat) k,a.getD k 0=(a[k]?).getD 0:=λ a k=>by simp
  rw [e,e,h]
theorem LJ {src d:Nat} (hs:src<p.size) (hd:d<=src) (k:Nat):K r (bubble p src d) k=if k=src - d then K r p src else if src - d<k/\k<=src then K r p (k - 1) else K r p k:=by
  have e:=getElem?_bubble hs d hd k;unfold K;by_cases h1:k=src - d
  · rw [if_pos h1] at e ⊢;rw [KR e]
  · rw [if_neg h1] at e ⊢;by_cases h2:src - d<k/\k<=src
    · rw [if_pos h2] at e ⊢;rw [KR e]
    · rw [if_neg h2] at e ⊢;rw [KR e]
theorem place (hr:Inj r n) (o:Ok n p) {k:Nat} (hk:k<n):∀ (f l h:Nat),h - l<=f->l<=h->h<=k->(∀ i,i<l->K r p i<K r p k)->(∀ i,h<=i->i<k->K r p k<K r p i)->Up r p k->
    KP (L r) n (kas_place p k f l h) (λ x=>x<=k/\(∀ i,i<x->K r p i<K r p k)/\(∀ i,x<=i->i<k->K r p k<K r p i))
  | 0,l,h,e,a,b,c,d,u=>⟨by omega,c,λ i h1 h2=>d i (by omega) h2⟩
  | f+1,l,h,e,a,b,c,d,u=>by
    show KP (L r) n (if l>=h then _ else _) _;by_cases g:l>=h
    · rw [if_pos g];exact ⟨by omega,c,λ i h1 h2=>d i (by omega) h2⟩
    · rw [if_neg g];have hmk:(l+h) / 2<k:=by omega
      refine ⟨o.lt hk,o.lt (by omega),?_⟩;show KP (L r) n (if L r (p.getD k 0) (p.getD ((l+h) / 2) 0)=true then _ else _) _;by_cases z:K r p k<K r p ((l+h) / 2)
      · rw [if_pos (show L r (p.getD k 0) (p.getD ((l+h) / 2) 0)=true from decide_eq_true z)];refine place hr o hk f l _ (by omega) (by omega) (by omega) c (λ i h1 h2=> ?_) u;by_cases e':i=(l+h) / 2
        · rw [e'];exact z
        · have:=u _ i (show (l+h) / 2<i by omega) h2;omega
      · rw [if_neg (show ¬ L r (p.getD k 0) (p.getD ((l+h) / 2) 0)=true from λ y=>z (of_decide_eq_true y))];have ne:=aM hr o hk (show (l+h) / 2<n by omega) (by omega);refine place hr o hk f _ h (by omega) (by omega) (by omega) (λ i h1=> ?_) d u;by_cases e':i=(l+h) / 2
        · rw [e'];omega
        · have:=u i _ (show i<(l+h) / 2 by omega) hmk;omega
theorem bin (hr:Inj r n):∀ (f k:Nat) (p:Array Nat),Ok n p->k+f=n->Up r p k->KP (L r) n (kas_bin f p k) (λ x=>Ok n x/\Up r x n)
  | 0,k,p,o,e,u=>⟨o,(show k=n by omega)▸u⟩
  | f+1,k,p,o,e,u=>by
    refine MP _ (MT (λ l h=> ?_) _ (place hr o (k:=k) (by omega) k 0 k (by omega) (by omega) (Aa7 _) (λ i h=>by omega) (λ i h1 h2=>by omega) u));obtain ⟨h1,h2,h3⟩:=h;have hs:k<p.size:=by rw [o.size];omega
    refine bin hr f (k+1) _ (o.to (bubble_perm _ _ _)) (by omega) ?_;intro i j hij hj;rw [LJ hs (by omega),LJ hs (by omega),show k - (k - l)=l by omega];by_cases a:i=l
    · rw [if_pos a,if_neg (by omega),if_pos (by omega)];exact h3 _ (by omega) (by omega)
    · rw [if_neg a];by_cases b:j=l
      · rw [if_pos b,if_neg (by omega)];exact h2 _ (by omega)
      · rw [if_neg b];by_cases c:l<i/\i<=k
        · rw [if_pos c,if_pos (by omega)];exact u _ _ (by omega) (by omega)
        · rw [if_neg c];by_cases d:l<j/\j<=k
          · rw [if_pos d];by_cases e:i<j - 1
            · exact u _ _ e (by omega)
            · omega
          · rw [if_neg d];exact u _ _ hij (by omega)
end MSort
namespace HT
open PySem PySem.Spec PyProof.Rows PySem.W
def RawD (d:Addr) (es:Array DictEntry) (ep:Nat) (h:Heap):Prop:=∃ o,h.get? d=some o/\o.ExactDict/\o.data= .dict es ep
theorem RawD.type {d:Addr} {es:Array DictEntry} (x:RawD d es ep s.heap):s.TypeIs (.ref d) "dict":=⟨_,x.choose_spec.1,x.choose_spec.2.1.1⟩
theorem RawD.to {d:Addr} {es:Array DictEntry} (x:RawD d es ep h) (k:∀ o,h.get? d=some o->h'.get? d=some o):RawD d es ep h':=⟨_,k _ x.choose_spec.1,x.choose_spec.2⟩
end HT
namespace HT
open PySem PySem.Spec PyProof.Rows PySem.W
def lexB (x:Str) (i:Int) (y:Str) (j:Int):Bool:=if x=y then decide (i<j) else decide (x.cps.toList<y.cps.toList)
end HT
namespace L2
open PySem PySem.Spec PyProof.Rows PySem.W
structure LexOk (rk:List Key->Nat) (ks:List (List Key)):Prop where
  shp:∀ k∈ks,∃ (x:Str) (i:Int),k=[.inr x, .inl i]
  inj:∀ k∈ks,∀ k'∈ks,rk k=rk k'->k=k'
  ord:∀ (x:Str) (i:Int) (y:Str) (j:Int),([.inr x, .inl i]:List Key)∈ks->([.inr y, .inl j]:List Key)∈ks->HT.lexB x i y j=decide (rk [.inr x, .inl i]<rk [.inr y, .inl j])
end L2
namespace HT
open PySem PySem.Spec PyProof.Rows PySem.W PySem.Calls PySem.Builtin PySem.Builtin.ObjectAttr PySem.Builtin.Getset_descriptor
def ExcAt (a C:Addr) (h:Heap):Prop:=∃ o,h.get? a=some o/\o.cls= .ref C
structure ExcKind (K:Frag) (C:Addr):Prop where
  cl:(clsIn K C).isSome=true
  ga:findIn K (.ref C) "__getattribute__"=some (some (.builtin "BaseException.__getattribute__"))
  ng:findIn K (.ref C) "__getattr__"=some none
  hb:mroIn K C (.type "BaseException")=some true
  ha:findIn K (.ref C) "__class__"=some (some (.builtin "object.__class__"))
  hn:specialIn K (.builtin "object.__class__") "__get__"=some (some (.builtin "getset_descriptor.__get__"))
  htk:takesIn K (.builtin "object.__class__")=some true
  hm:mroIn K C (.type "object")=some true
theorem ExcAt.type {M:Model} (x:ExcAt a C h):Looks M h (typeOf (.ref a)) (.ref C):=by
  obtain ⟨o,e,c⟩:=x;exact c▸(Looks.ld e).andThen .now
end HT
namespace L2
open PySem PySem.Spec PyProof.Rows
def CallE (P:Program) (w:World) (K:PySem.W.Frag) (mg:Str->Option Value) (base:Heap) (x:Str) (k:Nat) (ps:List Str) (sp:Sp):Prop:=
  ∃ f fd,mg x=some (.ref f)/\PySem.W.keepIn K (.ref f)=true/\FnOk P w K mg base (CXE P w) k f fd ps sp/\Binds K fd ps []
end L2
namespace L2
open PySem PySem.Spec PyProof.Rows
inductive DX where
  | d (d:Dt) | dic | tdic (GQ:List Dt)
inductive Rx (H:Hp) (n:Nat):V->DX->Prop
  | d {v:V} {d:Dt} (r:Rp H FT n v d):Rx H n v (.d d)
  | dic {a:Addr} (h:H a=some (.dK [])):Rx H n (.ref a) .dic
  | tdic {t a:Addr} {ws:List V} {ds:List Dt} (ht:H t=some (.tup (.ref a::ws))) (h:H a=some (.dK [])) (l:ws.length=ds.length) (e:∀ (i:Nat) (v:V) (d:Dt),ws[i]?=some v->ds[i]?=some d->Rp H FT n v d):Rx H n (.ref t) (.tdic ds)
end L2
namespace L2
open PySem PySem.Spec PyProof.Rows PySem.W
def exO (a:Addr) (o:Obj):HO:= .ext λ h=>h.get? a=some o
section
variable {K:PySem.W.Frag} {N:List Str} {qual:Str} {cd:Value} {cl:List (Str × Addr)} {outer:List Env} {E:XK}
structure ClOkL (N:List Str) (scope:Scope) (cl:List (Str × Addr)) (h:Heap) (H:Hp) (vs:List V):Prop where
  len:vs.length=N.length
  inj:∀ x y c,cl.lookup x=some c->cl.lookup y=some c->x=y
  has:∀ x,(scope.names.lookup x=some .cell\/scope.names.lookup x=some .free)->∃ c,cl.lookup x=some c
  val:∀ (i:Nat) (x:Str) (v:V),N[i]?=some x->vs[i]?=some v->∃ c u,scope.names.lookup x=some .free/\cl.lookup x=some c/\RelV v u/\h.IsCell c (some u)
  cell:∀ x c,cl.lookup x=some c->(∃ v,h.IsCell c v)/\H c=none
end
def WF (qual:Str) (oc:Obj):Prop:=∃ vs t,oc.data= .fields vs/\vs[1]?=some (.str qual t)
structure LamX (X:Cx) (c P:Addr):Prop where
  code:X.env.code= .ref c
  hd:CodeHd X.base c P
  blt:X.base.BuiltinsAt X.mg P
structure LamOk (params:Arguments) (scope:Scope):Prop where
  kind:scope.kind= .function
  co:scope.isCoroutine=false
  gen:scope.isGenerator=false
  cell:∀ x∈scope.names,x.2≠ .cell
  bind:∀ (qual:Str) (body:Expr) (cl:List (Str × Addr)) (pm cdv ctv:Value),bindArgs (kla_fn "<lambda>" qual params body scope cl pm cdv ctv) ⟨[],[]⟩=pure []
section
variable {K:PySem.W.Frag}
structure ThAt (s:Shared) (H:Hp) (outer:List Env) (f c':Addr) (oc:Obj) (N:List Str) (qual:Str) (scope:Scope) (cl:List (Str × Addr)) (params:Arguments) (body:Expr) (pm ctv:Value) (vs:List V):Prop where
  hf:s.heap.get? f=some (kla_obj "<lambda>" qual params body scope cl pm c' ctv)
  hf0:H f=none
  nf:f∉frs outer
  hc:H c'=some (exO c' oc)
  hoc:WF qual oc
  C:ClOkL N scope cl s.heap H vs
  nc:∀ x c,cl.lookup x=some c->c∉frs outer
  lo:LamOk params scope
end
def bar (T:Addr) (H:Hp):Hp:=λ b=>if b=T then none else H b
theorem IQ {T:Addr}:Same (bar T H) H:=λ b o e=>by
  by_cases hb:b=T
  · have e':=(if_pos hb).symm.trans e;cases e'
  · exact (if_neg hb).symm.trans e
theorem TL {T:Addr} {H'':Hp} (s:Same (bar T H) H') (k:∀ b o,b≠T->H' b=some o->H'' b=some o):Same (bar T H) H'':=λ b o e=>by
  by_cases hb:b=T
  · have e':=(if_pos hb).symm.trans e;cases e'
  · exact k b o hb (s b o e)
end L2
namespace HT
open PySem PySem.Spec PyProof.Rows PySem.W
def Rise (xs:Array Nat):Prop:=xs.toList.Pairwise (· < ·)
theorem Rise.at {xs:Array Nat} (h:Rise xs) (hij:i<j) (hj:j<xs.size):xs.getD i 0<xs.getD j 0:=by
  have:=List.pairwise_iff_getElem.mp h i j (by simpa using Nat.lt_trans hij hj) (by simpa using hj) hij;simpa [Array.getD,hj,Nat.lt_trans hij hj] using this
theorem Ii {xs:Array Nat} {j:Nat}:∀ (f lo hi:Nat),hi - lo<=f->lo<=hi->hi<=xs.size->Rise xs->(∀ i,i<lo->xs.getD i 0<j)->(∀ i,hi<=i->i<xs.size->j<=xs.getD i 0)->
    SetTable.below.go xs j f lo hi<=xs.size/\(∀ i,i<SetTable.below.go xs j f lo hi->xs.getD i 0<j)/\∀ i,SetTable.below.go xs j f lo hi<=i->i<xs.size->j<=xs.getD i 0
  | 0,lo,hi,hf,hl,hs,r,a,b=>by
    have e:lo=hi:=by omega
    subst e;unfold SetTable.below.go;exact ⟨hs,a,b⟩
  | f+1,lo,hi,hf,hl,hs,r,a,b=>by
    unfold SetTable.below.go;by_cases c:lo<hi
    · rw [if_pos c];dsimp only;have m1:(lo+hi) / 2<hi:=by omega
      have m2:lo<=(lo+hi) / 2:=by omega
      have e:xs.getD ((lo+hi) / 2) j=xs.getD ((lo+hi) / 2) 0:=by
        have:(lo+hi) / 2<xs.size:=by omega
        simp [Array.getD,this]
      rw [e];by_cases d:xs.getD ((lo+hi) / 2) 0<j
      · rw [if_pos d];refine Ii f _ _ (by omega) (by omega) hs r (λ i hi'=> ?_) b;rcases Ah4 i ((lo+hi) / 2) with z | z
        · exact Nat.lt_trans (r.at z (by omega)) d
        · have:i=(lo+hi) / 2:=by omega
          rw [this];exact d
      · rw [if_neg d];refine Ii f _ _ (by omega) (by omega) (by omega) r a (λ i hi' hz=> ?_);rcases Nat.eq_or_lt_of_le hi' with z | z
        · rw [<-z];omega
        · have:=r.at z hz;omega
    · rw [if_neg c];have e:lo=hi:=by omega
      subst e;exact ⟨hs,a,b⟩
theorem Ik {xs:Array Nat} (r:Rise xs):SetTable.below xs j<=xs.size/\(∀ i,i<SetTable.below xs j->xs.getD i 0<j)/\∀ i,SetTable.below xs j<=i->i<xs.size->j<=xs.getD i 0:=
  Ii _ _ _ (by omega) (Ad3 _) (Aa7 _) r (λ i h=>absurd h (Nat.not_lt_zero _)) (λ i h z=>absurd z (by omega))
theorem Mz {xs:Array Nat} (r:Rise xs):SetTable.below xs 0=0:=by
  obtain ⟨_,a,_⟩:=Ik (j:=0) r;rcases Nat.eq_zero_or_pos (SetTable.below xs 0) with z | z
  · exact z
  · exact absurd (a 0 z) (by omega)
theorem L8 {xs:Array Nat} (r:Rise xs) (hi:i<xs.size):SetTable.below xs (xs.getD i 0+1)=i+1:=by
  obtain ⟨s,a,b⟩:=Ik (j:=xs.getD i 0+1) r;rcases Nat.lt_trichotomy (SetTable.below xs (xs.getD i 0+1)) (i+1) with z | z | z
  · have:=b i (by omega) hi;omega
  · exact z
  · have h1:=a (i+1) z;have h2:=r.at (show i<i+1 by omega) (show i+1<xs.size by omega);omega
theorem PV {xs:Array Nat} (r:Rise xs) (h:xs[SetTable.below xs j]?≠some j):Rise (SetTable.insertAt xs (SetTable.below xs j) j):=by
  obtain ⟨s,a,b⟩:=Ik (j:=j) r;generalize SetTable.below xs j=p at*;unfold Rise;rw [SetTable.toList_insertAt];have lt1:∀ x∈xs.toList.take p,x<j:=λ x hx=>by
    obtain ⟨i,hi,rfl⟩:=List.mem_iff_getElem.mp hx;rw [Af6,Ad2] at hi;have:=a i (by omega);have hi':i<xs.size:=by omega
    simpa [Array.getD,hi'] using this
  have lt2:∀ x∈xs.toList.drop p,j<x:=λ x hx=>by
    obtain ⟨i,hi,rfl⟩:=List.mem_iff_getElem.mp hx;rw [List.length_drop,Ad2] at hi;have hi':p+i<xs.size:=by omega
    have:=b (p+i) (by omega) hi';rw [List.getElem_drop];have e:xs.getD (p+i) 0=xs.toList[p+i]'(by simpa using hi'):=by simp [Array.getD,hi']
    rw [<-e];rcases Nat.eq_zero_or_pos i with z | z
    · subst z;have hne:xs.getD p 0≠j:=λ q=>h (by
        have hp:p<xs.size:=by omega
        rw [Ab7 hp];simpa [Array.getD,hp] using q)
      have hne':xs.getD (p+0) 0≠j:=hne;omega
    · have:=r.at (show p<p+i by omega) hi';have h0:=b p (Aa7 _) (by omega);omega
  rw [List.pairwise_append];refine ⟨List.Pairwise.sublist (List.take_sublist ..) r,?_,λ x hx y hy=> ?_⟩
  · rw [List.pairwise_cons];exact ⟨lt2,List.Pairwise.sublist (List.drop_sublist ..) r⟩
  · rcases Ab2.mp hy with rfl | hy
    · exact lt1 x hx
    · exact Nat.lt_trans (lt1 x hx) (lt2 y hy)
structure TOk (L:Bool) (t:SetTable):Prop where
  rise:Rise t.place
  dum:t.dummies= #[]
  led:t.led=L
theorem Ls:SetTable.has #[] j=false:=by
  simp [SetTable.has]
theorem LH {t:SetTable} {f:Nat->Int} {h:Int} (hd:t.dummies= #[]):∀ (n:Nat) (p:SetTable.Probe) (j:Nat) (d:Option Nat),p.dummy=none->SetTable.probe.go t f h n p=some (.empty j d)->d=none/\t.slot j= .empty
  | 0,p,j,d,_,e=>by unfold SetTable.probe.go at e;cases e
  | n+1,p,j,d,hp,e=>by
    unfold SetTable.probe.go at e;cases hs:t.slot p.j with
    | empty=>
      rw [hs] at e;simp only [Ae2.injEq,SetTable.Met.empty.injEq] at e;exact ⟨e.2▸hp,e.1▸hs⟩
    | dummy=>
      unfold SetTable.slot at hs;rw [hd,Ls] at hs;dsimp only at hs;split at hs
      · cases hs
      · cases hs
    | live i=>
      rw [hs] at e;dsimp only at e;split at e
      · cases e
      · refine LH hd n _ j d ?_ e;unfold SetTable.advance;split
        · exact hp
        · exact hp
theorem NK {t:SetTable} {h:Int} {b:Bool} (hd:t.dummies= #[]) (e:t.freeSlot h=some (j,b)):t.place[SetTable.below t.place j]?≠some j:=by
  unfold SetTable.freeSlot at e;split at e
  · rename_i j' d heq
    unfold SetTable.probe at heq;obtain ⟨rfl,hs⟩:=LH hd _ _ _ _ rfl heq;simp only [Ae2.injEq,Prod.mk.injEq,Option.getD_none] at e;obtain ⟨rfl,_⟩:=e;intro q;unfold SetTable.slot at hs;dsimp only at hs;rw [q] at hs;simp at hs
  · cases e
theorem E4 {L:Bool} {t:SetTable} (h:TOk L t) (n:Nat):TOk L (t.standIn n) where
  rise:=by
    unfold Rise SetTable.standIn;simpa using List.pairwise_lt_range
  dum:=rfl
  led:=h.led
theorem Qj {L:Bool} {t:SetTable} (h:TOk L t) (es:Array (Int × Value)) (hh:Int) (x:Value):TOk L (layNew t es hh x).2.1:=by
  unfold layNew;split
  · rename_i slot wd heq
    dsimp only;have k:TOk L (t.put slot).1:=⟨PV h.rise (NK h.dum heq),by
      unfold SetTable.put;dsimp only;rw [h.dum,Ls];rfl,h.led⟩
    unfold SetTable.orStandIn;split
    · exact k
    · exact E4 k _
  · exact E4 h _
theorem NJ {L:Bool} {t:SetTable} (h:TOk L t) (es:Array (Int × Value)) (n:Nat):TOk L (relayAll t es n).2.1:=by
  unfold relayAll;split
  · rename_i t' order heq
    dsimp only;split
    · unfold SetTable.relaid SetTable.laid at heq;simp only [Option.bind_eq_bind,Option.bind_eq_some_iff,Option.pure_def,Ae2.injEq,Prod.mk.injEq] at heq;obtain ⟨owner,_,rfl,_⟩:=heq;refine ⟨?_,rfl,h.led⟩;unfold Rise;simp only [List.map_filterMap];refine List.Pairwise.filterMap _ ?_ List.pairwise_lt_range;intro a a' r b hb b' hb';simp only [Option.map_map,Function.comp_def,Ah6] at hb hb';obtain ⟨_,_,rfl⟩:=hb;obtain ⟨_,_,rfl⟩:=hb';exact r
    · exact E4 h _
  · exact E4 h _
theorem ND (L:Bool):TOk L (.fresh 0 0 L):=⟨by unfold Rise SetTable.fresh;exact .nil,rfl,rfl⟩
def kOf (e:Int × Value):Int:=match e.2 with
  | .int k _=>k
  | _=>0
section
def WSet (prog:Program) (w:World) (a:Addr) (ks:List Int) (h:Heap):Prop:=∃ o es ep t,h.get? a=some o/\o.ExactSet/\o.data= .set es ep t/\ElemsOf (intKind prog w) es.toList/\(es.toList.map kOf).Perm ks/\ks.Nodup/\es.size<scanBound/\t.fits es.size=true/\TOk (!w.params.followText "set-order") t
theorem WSet.to (x:WSet prog w a ks h) (k:∀ o,h.get? a=some o->h'.get? a=some o):WSet prog w a ks h':=by
  obtain ⟨o,es,ep,t,ho,r⟩:=x;exact ⟨o,es,ep,t,k _ ho,r⟩
theorem WSet.len (x:WSet prog w a ks h):ks.length<scanBound:=by
  obtain ⟨o,es,ep,t,_,_,_,_,p,_,b,_⟩:=x;rw [<-p.length_eq,Aa1,Ad2];exact b
theorem Lu {es:List (Int × Value)} (h:ElemsOf (intKind prog w) es) {e:Int × Value} (he:e∈es):∃ k t,e.2= .int k t/\kOf e=k:=by
  obtain ⟨⟨k,hk,_⟩,_⟩:=h e he;obtain ⟨t,ht⟩:=Value.isInt_shape hk;exact ⟨k,t,ht,by unfold kOf;rw [ht]⟩
theorem Ou {k:Int} {t:Tok} {Q:Bool->Shared->Prop} (hS:WSet prog w a ks s.heap) (room:ks.length+1<scanBound)
    (h:∀ h' b,Heap.SameBut a s.heap h'->WSet prog w a (if k∈ks then ks else ks++[k]) h'->Q b { s with heap:=h' }):
    wpAny (model prog w) A (setAddHashed a (.int k t) (hashInt k)) Q E s:=by
  obtain ⟨o,es,ep,tb,ho,hex,hd,hel,pm,nd,hb,hf,tk⟩:=hS;have hlen:es.size=ks.length:=by rw [<-pm.length_eq,Aa1,Ad2]
  unfold setAddHashed setAddHashedIn;refine Ad5 (Aa0 (wpAny_setState_of ho hd hf ?_));dsimp only;rw [byScan_of (knd:=intKind prog w) (show (Value.int k t).scannable=true from rfl) hb hel];simp only [↓reduceIte];unfold setAddByScan;refine Aa0 (Aa0 (wpAny_rule (Aa0 (wpAny_setScan_of (knd:=intKind prog w) (k:=k) (intKind_is _ _ _ _) ho hd hf hel ?_))));cases hr:List.findIdx? (λ e=>(intKind prog w).is k e.2) es.toList with
  | some j=>
    dsimp only;obtain ⟨hj,hpj,_⟩:=List.findIdx?_eq_some_iff_getElem.mp hr;have hm:k∈ks:=by
      obtain ⟨t',ht⟩:=Value.isInt_shape hpj;refine pm.mem_iff.mp (Ac3.mpr ⟨_,Ag6 hj,?_⟩);unfold kOf;rw [ht]
    refine Aa5 (Aa5 ?_);have:=h s.heap false (Heap.SameBut.refl a s.heap) (by rw [if_pos hm];exact ⟨o,es,ep,tb,ho,hex,hd,hel,pm,nd,hb,hf,tk⟩);exact this
  | none=>
    dsimp only;have hn:k∉ks:=λ hm=>by
      obtain ⟨e,he,ek⟩:=Ac3.mp (pm.mem_iff.mpr hm);obtain ⟨k',t',e2,e3⟩:=Lu hel he;have:=List.findIdx?_eq_none_iff.mp hr e he;rw [e2,show k'=k from e3.symm.trans ek] at this;rw [show (intKind prog w).is k (.int k t')=true from intKind_is _ _ _ _] at this;cases this
    have hperm:=layNew_perm tb es (hashInt k) (.int k t);have hfits:=layNew_fits tb es (hashInt k) (.int k t);have htok:=Qj tk es (hashInt k) (.int k t);generalize layNew tb es (hashInt k) (.int k t)=L at hperm hfits htok ⊢;obtain ⟨es1,t1,wd,gave⟩:=L;dsimp only at hperm hfits htok ⊢;rw [Array.toList_push] at hperm;have hel1:ElemsOf (intKind prog w) es1.toList:=(hel.push (k:=k) (intKind_is _ _ _ _) rfl).perm hperm;have hs1:es1.size=es.size+1:=by rw [<-Ad2,hperm.length_eq,Ac0,Ad2];rfl
    have hb1:es1.size<scanBound:=by omega
    have pm1:(es1.toList.map kOf).Perm (ks++[k]):=(hperm.map kOf).trans (by
      rw [Ae0];exact List.Perm.append pm (List.Perm.refl _))
    have nd1:(ks++[k]).Nodup:=List.nodup_append.mpr ⟨nd,by simp,λ x hx y hy=>by
      rw [List.mem_singleton.mp hy];intro z;exact hn (z▸hx)⟩
    have gw:∀ (b:Bool) (s₁:Shared) (Q':Unit->Shared->Prop),Q' () s₁->wpAny (model prog w) A (match b with | true=>rule "set.scan.the-table-gave-way" | false=>pure ()) Q' E s₁:=
      λ b s₁ Q' hq=>by cases b <;> first | exact Aa5 hq | exact wpAny_rule hq
    refine Aa0 (gw gave s _ ?_);have tail:∀ t2:SetTable,t2.fits es1.size=true->TOk (!w.params.followText "set-order") t2->wpAny (model prog w) A (do
        storeSet a es1 t2
        if (!wd&&t2.tooFull)=true then do
            (match (relayAll t2 es1 (SetTable.grown es1.size)).2.2 with | true=>rule "set.scan.the-table-gave-way" | false=>pure ())
            storeSet a (relayAll t2 es1 (SetTable.grown es1.size)).1 (relayAll t2 es1 (SetTable.grown es1.size)).2.1
            pure (some true)
          else pure (some true)) (λ r s'=>∃ h' b,r=some b/\s'={ s with heap:=h' }/\Q b s') E s:=by
      intro t2 f2 k2;refine Aa0 (wpAny_storeSet_of ho hd ?_ (fits_of_scanBound hb1));have g1:(s.heap.update a (Obj.putSet es1 t2)).get? a=some { o with data:= .set es1 (ep+1) t2 }:=by
        have z:=Af2 (Obj.putSet es1 t2) ho (by rw [putSet_of es1 t2 hd];rfl)
        rwa [putSet_of es1 t2 hd] at z
      have sb1:=Heap.SameBut.update s.heap a (Obj.putSet es1 t2);split
      · have hp:=relayAll_perm t2 es1 (SetTable.grown es1.size);have hfr:=relayAll_fits t2 es1 (SetTable.grown es1.size);have k3:=NJ k2 es1 (SetTable.grown es1.size);generalize relayAll t2 es1 (SetTable.grown es1.size)=Rl at hp hfr k3 ⊢;obtain ⟨es2,t3,gave2⟩:=Rl;dsimp only at hp hfr k3 ⊢;have hs2:es2.size=es1.size:=by rw [<-Ad2,hp.length_eq,Ad2]
        refine Aa0 (gw gave2 _ _ ?_);refine Aa0 (wpAny_storeSet_of g1 rfl ?_ (fits_of_scanBound (by rw [hs2];exact hb1)));refine Aa5 ⟨_,true,rfl,rfl,h _ true (sb1.trans (Heap.SameBut.update _ a _)) ?_⟩;rw [if_neg hn];refine ⟨{ o with data:= .set es2 (ep+1+1) t3 },es2,ep+1+1,t3,?_,hex,rfl,hel1.perm hp,(hp.map kOf).trans pm1,nd1,by rw [hs2];exact hb1,hfr,k3⟩;have z:=Af2 (Obj.putSet es2 t3) g1 (by rw [putSet_of es2 t3 rfl];rfl)
        rwa [putSet_of es2 t3 rfl] at z
      · refine Aa5 ⟨_,true,rfl,rfl,h _ true sb1 ?_⟩;rw [if_neg hn];exact ⟨_,es1,ep+1,t2,g1,hex,rfl,hel1,pm1,nd1,hb1,f2,k2⟩
    split
    · refine Aa0 ?_;rw [hashByValue_scannable 8 (show (Value.int k t).scannable=true from rfl)];refine Aa5 ?_;refine Af1 (tail _ hfits htok) (λ r s' ⟨h',b,e1,e2,q⟩=> ?_) λ _ _ e=>e;subst e1;exact Aa5 q
    · refine Aa0 (Aa5 ?_);simp only [↓reduceIte];refine Af1 (tail _ hfits htok) (λ r s' ⟨h',b,e1,e2,q⟩=> ?_) λ _ _ e=>e;subst e1;exact Aa5 q
def addK (ks:List Int) (k:Int):List Int:=if k∈ks then ks else ks++[k]
def metK (ns:List Int):List Int:=ns.foldl addK []
theorem OB (ks:List Int) (k:Int):(addK ks k).length<=ks.length+1:=by
  unfold addK;split
  · omega
  · simp
theorem JT:∀ (ns ks:List Int),(ns.foldl addK ks).length<=ks.length+ns.length
  | [],ks=>Aa7 _
  | n::ns,ks=>by
    have h1:=JT ns (addK ks n);have h2:=OB ks n;simp only [List.foldl_cons,Ac6];omega
theorem JU:∀ (ns ks:List Int) (k:Int),k∈ns.foldl addK ks↔k∈ks\/k∈ns
  | [],ks,k=>by simp
  | n::ns,ks,k=>by
    rw [List.foldl_cons,JU ns];unfold addK;split
    · rename_i h
      simp only [Ab2];exact ⟨λ z=>z.imp id .inr,λ z=>z.elim .inl λ z=>z.elim (λ e=> .inl (e▸h)) .inr⟩
    · simp only [Ab2,List.mem_append,List.mem_singleton,Ac7,or_false];exact or_assoc
theorem metK_mem (ns:List Int) (k:Int):k∈metK ns↔k∈ns:=by unfold metK;rw [JU];simp
theorem P6 {wr:List Addr} {G:Array GenState->Array GenState->Prop} {P:Nat->Value->Prop} {St:Nat->Shared->Prop} {R:Result->Shared->Prop} (W:WalksS prog w A.in1 I fp wr G n P St) (S:Addr) (hSf:S∉fp)
    (ns:List Int) (hnl:ns.length=n) (hval:∀ i v,P i v->∃ t,v= .int (ns.getD i 0) t) (hb:n+1<scanBound):∀ (k i:Nat) (s:Shared),n - i=k->i<=n->St i s->WSet prog w S (metK (ns.take i)) s.heap->
      (∀ s',Moved (S::wr) G s s'->WSet prog w S (metK ns) s'.heap->R (.ok (.ret .none)) s')->codeAny (model prog w) A (.builtin "set.update.loop" ⟨[.ref S, .ref I],[]⟩) R s:=by
  have hSw:S∉wr:=λ h=>hSf (W.sub _ h);have hsub:∀ b∈wr,b∈S::wr:=λ b hb=>Ac9 _ hb;intro k
  induction k with
  | zero=>
    intro i s hk hi hst hS hR;have hin:i=n:=by omega
    subst hin;refine codeAny_builtin PyProof.Rows.F.entry_set_update_loop ?_;rw [Around.under_plainId PyProof.Rows.F.plain_set_update_loop _];show wpAny _ A.in1 (pyNext (.ref I) >>= _) _ _ s;refine Aa0 (W.done s _ _ hst λ s' hm=> ?_);rw [<-hnl,List.take_length] at hS;exact Aa5 (hR s' (hm.mono hsub) (hS.to λ o e=>hm.heap S o hSw e))
  | succ k ih=>
    intro i s hk hi hst hS hR;have hlt:i<n:=by omega
    refine codeAny_builtin PyProof.Rows.F.entry_set_update_loop ?_;rw [Around.under_plainId PyProof.Rows.F.plain_set_update_loop _];show wpAny _ A.in1 (pyNext (.ref I) >>= _) _ _ s;refine Aa0 (W.item i s _ _ hlt hst λ v s' hP hst' hm=> ?_);obtain ⟨t,rfl⟩:=hval i v hP;show wpAny _ A.in1 (holding [Value.int (ns.getD i 0) t] (setAdd S (.int (ns.getD i 0) t)) >>= _) _ _ s';refine Aa0 (Ad5 ?_);unfold setAdd;refine Ad5 (Aa0 ((intKind prog w).pyHash (k:=ns.getD i 0) (intKind_is _ _ _ _) ?_));have room:(metK (ns.take i)).length+1<scanBound:=by
      have:=JT (ns.take i) [];unfold metK;rw [Af6] at this;simp only [List.length_nil] at this;omega
    refine Ou (s:={ s' with toks:=s'.toks+1 }) (hS.to λ o e=>hm.heap S o hSw e) room λ h' b hsb hS2=> ?_;have e:ns.take (i+1)=ns.take i++[ns.getD i 0]:=by
      rw [List.take_add_one,Aa4 (by omega),Aa2,Aa4 (by omega)];rfl
    have hSi:WSet prog w S (metK (ns.take (i+1))) h':=by
      unfold metK;rw [e,List.foldl_append];exact hS2
    refine Aa5 ⟨plainId_quiet PyProof.Rows.F.plain_set_update_loop _,ih (i+1) _ (by omega) hlt (W.frame _ s' _ _ hst' (Nat.le_succ _) λ b hb o e=> ?_) hSi λ s'' hm'' hS''=> ?_⟩
    · exact (hsb.2 b (λ h:b=S=>hSf (h▸hb))).trans e
    · exact hR s'' (Moved.trans W.gtrans ((hm.mono hsub).then_heap (Nat.le_succ _) λ b o hb e=>(hsb.2 b (λ h:b=S=>hb (h▸Ad1))).trans e) hm'') hS''
theorem OI (a:Value) {Q₁:Value->Shared->Prop} (h:Q₁ (.ref s.heap.objs.size) { s with heap:=s.heap.push { cls:= .type "set",dict:=none,data:= .set #[] 0 (.fresh 0 0 (!w.params.followText "set-order")) } }):
    codeAny (model prog w) A (.call (.builtin "set.__new__") ⟨[.type "set",a],[]⟩) (wants Q₁ E) s:=by
  refine codeAny_of_tree ?_;show wpAny _ A.in1 (checkBuiltinCall "set.__new__" ⟨[.type "set",a],[]⟩ >>= λ _=>again (.builtin "set.__new__" ⟨[.type "set",a],[]⟩)) _ _ s;refine Aa0 (wpAny_of_eq (PySem.F.newCall_set_1 a) (Aa5 ⟨plainId_quiet PySem.F.plain_set_new _,codeAny_builtin PySem.F.entry_set_new ?_⟩));rw [Around.under_plainId PySem.F.plain_set_new _];unfold Builtin.«set.__new__» Builtin.Frozenset.newClass;have hsub:=sub_set_self;obtain ⟨hp,g,d,tk,os⟩:=s;dsimp only
  wp_walk
  refine wpAny_askSetting (Aa5 ?_);dsimp only [newObj];exact Aa0 (wpAny_alloc (Aa5 (Aa5 h)))
theorem set_call {items:Array Value} {ns:List Int} {Q:Value->Shared->Prop} (hh:A.handled=none) (hl:s.heap.IsList l items) (hi:IntsAre items.toList ns) (hb:items.size+1<scanBound)
    (h:∀ (h':Heap) (tk:Nat),WSet prog w s.heap.objs.size (metK ns) h'->(∀ b o,s.heap.get? b=some o->h'.get? b=some o)->Q (.ref s.heap.objs.size) { s with heap:=h',toks:=tk }):
    wpAny (model prog w) A (call (.type "set") [.ref l]) Q E s:=by
  obtain ⟨cH,tlH,mro'⟩:=PySem.F.called_set.mro;have made':=PySem.F.called_set.made;have sub':=PySem.F.called_set.sub;refine wpAny_call (codeAny_of_tree ?_);show wpAny _ _ (callAny (.type "set") _) _ _ _;refine Aa5 ⟨Code.quiet_builtin _ (by decide +kernel),codeAny_builtin PySem.F.entry_type_call ?_⟩;rw [Around.under_plain (weight_type_call_type "set" [.ref l] []) rfl];have n1:=PySem.F.called_set.notType;have n2:=PySem.F.called_set.canCreate;have n3:=PySem.F.typeCall_set_1 (.ref l)
  repeat (any_goals (first | assumption | wp_step))
  generalize hO:({ cls:= .type "set",dict:=none,data:= .set #[] 0 (.fresh 0 0 (!w.params.followText "set-order")) }:Obj)=O;refine codeAny_mono (OI (.ref l) (E:=E) (Q₁:=λ obj s₁=>obj= .ref s.heap.objs.size/\s₁={ s with heap:=s.heap.push O }) ⟨rfl,by rw [hO]⟩) λ r s₁ hr=> ?_;cases r with
  | error e=>exact hr
  | ok fl=>
    cases fl with
    | ret obj=>
      obtain ⟨rfl,rfl⟩:=hr;have hS:(s.heap.push O).get? s.heap.objs.size=some O:=Aa6 _ (by rw [<-hO];rfl);have hT:Shared.TypeIs { s with heap:=s.heap.push O } (.ref s.heap.objs.size) "set":=⟨_,hS,by rw [<-hO]⟩;have i1:=PySem.F.called_set.init.lookup;have i2:=PySem.F.called_set.init.bind (.ref s.heap.objs.size)
      repeat (any_goals (first | assumption | wp_step))
      refine codeAny_mono (codeAny_call_builtin (R:=wants (λ r s₂=>r= .none/\∃ h' tk,s₂={ s with heap:=h',toks:=tk }/\WSet prog w s.heap.objs.size (metK ns) h'/\(∀ b o,s.heap.get? b=some o->h'.get? b=some o)) E) PySem.F.called_set.init.plain PySem.F.entry_set_init (check_set_init_1 hT ?_)) λ r₂ s₂ hr₂=> ?_
      · obtain ⟨ol,hol,hcl,nl,hdl⟩:=hl;obtain ⟨oc,od,oda,osl⟩:=ol;simp only at hcl hdl;subst hcl;subst hdl;have hol':(s.heap.push O).get? l=some { cls:= .type "list",dict:=od,data:= .seq items nl,slots:=osl }:=Aa3 _ hol;have q1:=PySem.F.sub_list_set;have q2:=PySem.F.sub_list_frozenset;have q3:(Value.type "list" == Value.type "dict")=false:=by decide
        have hl1:(s.heap.push O).IsList l items:=⟨_,hol',rfl,nl,rfl⟩;have hS':(s.heap.push O).get? s.heap.objs.size=some { cls:= .type "set",dict:=none,data:= .set #[] 0 (.fresh 0 0 (!w.params.followText "set-order")) }:=by rw [hO];exact hS
        unfold Builtin.«set.__init__» noKeywords Builtin.Frozenset.updateFrom;generalize hPI:pyIter=PI
        wp_walk
        subst hPI;refine wpAny_pyIter_list hl1 ?_;refine Aa0 (wpAny_runValue ?_);have hlS:l<s.heap.objs.size:=Aa8 hol;have neI:l≠(s.heap.push O).objs.size:=by
          rw [Ad7];exact Ab6 (Nat.lt_succ_of_lt hlS)
        have hSf:s.heap.objs.size∉[(s.heap.push O).objs.size,l]:=by
          rw [Ad7];simp only [Ab2,Ac7,or_false,not_or];exact ⟨Ab6 (Nat.lt_succ_self _),Ah0 hlS⟩
        have hnl:ns.length=items.size:=by rw [<-hi.length,Ad2]
        refine P6 ((Walks.list (show A.in1.in1.in1.handled=none by simp [hh]) _ l neI items).toS) s.heap.objs.size hSf ns hnl (λ i v hv=>PyProof.Rows.IntsAre.int_at hi i v (by rw [Af8];exact hv)) hb (items.size - 0) 0 _ (by omega) (Ad3 _)
          ⟨⟨_,Aa6 _ rfl,rfl,rfl⟩,(hl1.push _)⟩ ?_ ?_
        · exact ⟨_, #[],0,_,Aa3 _ hS',⟨rfl,rfl,rfl⟩,rfl,λ e he=>by simp at he, .nil, .nil,by decide,rfl,ND _⟩
        · intro s' hm hS2;obtain ⟨h',g',d',tk',os'⟩:=s';have eg:g'=s.gens:=hm.gens;have ed:d'=s.drawn:=hm.drawn;have eo:os'=s.os:=hm.os;subst eg;subst ed;subst eo;refine Aa5 (Aa5 ⟨rfl,h',tk',rfl,hS2,λ b o e=> ?_⟩);have hb0:=Aa8 e;have hb2:b≠(s.heap.push O).objs.size:=by
            rw [Ad7];exact Ab6 (Nat.lt_succ_of_lt hb0)
          exact hm.heap b o (by simp only [Ab2,Ac7,or_false,not_or];exact ⟨Ab6 hb0,hb2⟩) (Aa3 _ (Aa3 _ e))
      · cases r₂ with
        | error e=>exact hr₂
        | ok fl₂=>
          cases fl₂ with
          | ret r=>
            obtain ⟨rfl,h',tk,rfl,hS',hk'⟩:=hr₂
            repeat (any_goals (first | assumption | wp_step))
            exact h _ _ hS' hk'
          | _=>exact hr₂.elim
    | _=>exact hr.elim
end
theorem JP:Manifest.owners.lookup (String.ofList ['r', 'o', 't', 'a', 'r', 'e', 't', 'i', '_', 't', 'e', 's'].reverse)=some Manifest.sig_set_iterator:=by kernel_rfl
theorem slot_setit_next:Slot "set_iterator" "__next__" "set_iterator.__next__":= .of (owner:="set_iterator") (n:="__next__") (by rw [typeLookup_type,builtinLookup_eq_fast];kernel_rfl) (by decide +kernel) (by decide +kernel) (by decide +kernel) (by first | exact .inl (by decide +kernel) | exact .inr (by decide +kernel)) (by rw [isSubtype_type];kernel_rfl)
theorem BZ:entryFor table "set_iterator.__next__"=some Builtin.«set_iterator.__next__» := entryFor_of_tree (by kernel_rfl)
theorem BX (a:Value):argsOk "set_iterator.__next__" ⟨[a],[]⟩:=by unfold argsOk;rw [signature?_of (id:="set_iterator.__next__") (n:=['_', '_', 't', 'x', 'e', 'n', '_', '_']) (o:=['r', 'o', 't', 'a', 'r', 'e', 't', 'i', '_', 't', 'e', 's']) (by kernel_rfl) JP];kernel_rfl
theorem Ko:entryFor table "set.__iter__"=some Builtin.«frozenset.__iter__» := entryFor_alias (id':="frozenset.__iter__") (by kernel_rfl) rfl (by decide +kernel) (by kernel_rfl)
section
structure RawS (a:Addr) (es:Array (Int × Value)) (ep:Nat) (t:SetTable) (h:Heap):Prop where
  at_:∃ o,h.get? a=some o/\o.ExactSet/\o.data= .set es ep t
  fits:t.fits es.size=true
theorem RawS.to {es:Array (Int × Value)} {t:SetTable} (x:RawS a es ep t h) (k:∀ o,h.get? a=some o->h'.get? a=some o):RawS a es ep t h':=by
  obtain ⟨⟨o,ho,r⟩,f⟩:=x;exact ⟨⟨o,k _ ho,r⟩,f⟩
theorem RawS.type {es:Array (Int × Value)} {t:SetTable} (x:RawS a es ep t s.heap):s.TypeIs (.ref a) "set":=by
  obtain ⟨⟨o,ho,hx,_⟩,_⟩:=x;exact ⟨_,ho,hx.1⟩
theorem RawS.state {es:Array (Int × Value)} {t:SetTable} {Q:(Array (Int × Value) × Nat × SetTable)->Shared->Prop} (x:RawS a es ep t s.heap) (h:Q (es,ep,t) s):wpAny (model prog w) A (setState a) Q E s:=by
  obtain ⟨⟨o,ho,hx,hd⟩,f⟩:=x;exact wpAny_setState_of ho hd f h
def SIt (I:Addr) (first:Value) (i:Nat) (a:Addr) (n ep:Nat) (h:Heap):Prop:=∃ o,h.get? I=some o/\o.cls= .type "set_iterator"/\o.data= .fields #[first, .int i 0, .ref a, .int n 0, .int ep 0]
theorem SIt.to {first:Value} (x:SIt I first i a n ep h) (k:∀ o,h.get? I=some o->h'.get? I=some o):SIt I first i a n ep h':=by
  obtain ⟨o,ho,r⟩:=x;exact ⟨o,k _ ho,r⟩
theorem SIt.type {first:Value} (x:SIt I first i a n ep s.heap):s.TypeIs (.ref I) "set_iterator":=by
  obtain ⟨o,ho,hc,_⟩:=x;exact ⟨_,ho,hc⟩
theorem SIt.upd0 {x y:Value} (hI:SIt I x i a n ep h):SIt I y i a n ep (h.update I (Obj.mapFields (·.setIfInBounds 0 y))):=by
  obtain ⟨o,ho,hc,hd⟩:=hI;exact ⟨_,Af2 _ ho (Obj.isFreed_of_fields (Obj.data_mapFields hd _)),(Obj.cls_mapFields ..).trans hc,by rw [Obj.data_mapFields hd];simp⟩
theorem SIt.upd1 {x:Value} (hI:SIt I x i a n ep h):SIt I x (i+1) a n ep (h.update I (Obj.mapFields (·.setIfInBounds 1 (rawInt ((i:Int)+1))))):=by
  obtain ⟨o,ho,hc,hd⟩:=hI;exact ⟨_,Af2 _ ho (Obj.isFreed_of_fields (Obj.data_mapFields hd _)),(Obj.cls_mapFields ..).trans hc,by rw [Obj.data_mapFields hd];simp [rawInt]⟩
theorem Gc {es:Array (Int × Value)} {t:SetTable} {α:Type} {x y:Sem α} {Q:α->Shared->Prop} (hS:RawS a es ep t s.heap) (hn:es.size=n) (h:wpAny (model prog w) A y Q E s):
    wpAny (model prog w) A (setEntries a >>= λ z=>if ((z.size:Int) != (n:Int))=true then x else y) Q E s:=by
  refine Aa0 ?_;unfold setEntries;refine Aa0 (hS.state (Aa5 ?_));dsimp only;rw [if_neg (by simp [hn])];exact h
theorem NW {slot nx:Nat} {es:Array (Int × Value)} {t:SetTable} {v:Value} {Q:Option Value->Shared->Prop} (hI:SIt I (.int slot 0) i a n ep s.heap) (hS:RawS a es ep t s.heap) (hn:es.size=n)
    (hN:∀ (B:Around) (E':Value->Shared->Prop) (Q':Option (Value × Nat)->Shared->Prop),Q' (some (v,nx)) s->wpAny (model prog w) B (setNext a slot i ep) Q' E' s)
    (hQ:∀ h',SIt I (.int nx 0) (i+1) a n ep h'->Heap.SameBut I s.heap h'->Q (some v) { s with heap:=h' }):wpAny (model prog w) A (pyNext (.ref I)) Q E s:=by
  have hT:=hI.type;obtain ⟨o,ho,hc,hd⟩:=id hI;unfold pyNext;refine Aa0 (Af7 (Ab4 (name:=Str.ofString "__next__") hT slot_setit_next (Ab9 slot_setit_next hT BZ ?_ (BX _))));unfold Builtin.«set_iterator.__next__»;refine Aa0 (Aa5 (Aa0 (wpAny_fieldsOf ho hd ?_)));dsimp only;refine Gc hS hn ?_;simp only [Ac2];refine Aa0 (hN _ _ _ ?_);dsimp only;have I1:SIt I (.int nx 0) i a n ep (s.heap.update I (Obj.mapFields (·.setIfInBounds 0 (rawInt nx)))):=hI.upd0;refine Aa0 (wpAny_setField ho hd (by simp) ?_);obtain ⟨o1,ho1,hc1,hd1⟩:=id I1;refine Aa0 (wpAny_setField ho1 hd1 (by simp) ?_);exact Aa5 ⟨_,rfl,Aa5 (hQ _ I1.upd1 ((Heap.SameBut.update ..).trans (Heap.SameBut.update ..)))⟩
theorem Np {o:Obj} {fs:Array Value} {Q:Option Value->Shared->Prop} {P:PySem.Fin->Shared->Prop} (hh:A.handled=none) (ho:s.heap.get? I=some o) (hd:o.data= .fields fs) (h2:2<fs.size)
    (hQ:∀ h',Heap.ExtBut I s.heap h'->Q none { s with heap:=h' }):
    wpAny (model prog w) A.in1 (setField (.ref I) 2 .none >>= λ _=>newExc (.type "StopIteration") [] >>= λ x=>raiseNew x) P (λ e s'=>wpAny (model prog w) A (isInstance e (.type "StopIteration") >>= λ b=>if b=true then pure none else throw e) Q E s') s:=by
  refine Aa0 (wpAny_setField ho hd h2 ?_);refine Aa0 ?_;simp only [newExc,newTuple];refine Aa0 (Ae3 ?_ (by size_fits));refine Aa0 (m:=firstArgMember _ _) (wpAny_of_eq (a:=Value.none) (by first | rfl | (simp only [firstArgMember];rfl)) ?_);refine Ae3 ?_ (by size_fits);simp only [raiseNew];refine Aa0 (wpAny_handled ?_);rw [show A.in1.handled=none from hh];refine Aa0 (Aa5 (wpAny_throw ?_));refine Aa0 (Ah8 (T:="StopIteration") (b:=true) ⟨_,Aa6 _ rfl,rfl⟩ isSubtype_stop ?_);exact Aa5 (hQ _ (((Heap.SameBut.update ..).extBut.push _).push _))
theorem Pz {slot:Nat} {es:Array (Int × Value)} {t:SetTable} {Q:Option Value->Shared->Prop} (hh:A.handled=none) (hI:SIt I (.int slot 0) i a n ep s.heap) (hS:RawS a es ep t s.heap) (hn:es.size=n)
    (hN:∀ (B:Around) (E':Value->Shared->Prop) (Q':Option (Value × Nat)->Shared->Prop),Q' none s->wpAny (model prog w) B (setNext a slot i ep) Q' E' s)
    (hQ:∀ h',Heap.ExtBut I s.heap h'->Q none { s with heap:=h' }):wpAny (model prog w) A (pyNext (.ref I)) Q E s:=by
  have hT:=hI.type;obtain ⟨o,ho,hc,hd⟩:=id hI;unfold pyNext;refine Aa0 (Af7 (Ab4 (name:=Str.ofString "__next__") hT slot_setit_next (Ab9 slot_setit_next hT BZ ?_ (BX _))));unfold Builtin.«set_iterator.__next__»;refine Aa0 (Aa5 (Aa0 (wpAny_fieldsOf ho hd ?_)));dsimp only;refine Gc hS hn ?_;simp only [Ac2];refine Aa0 (hN _ _ _ ?_);dsimp only;exact Np hh ho hd (by simp) hQ
theorem NL {tp:Addr} {place:Nat} {tk:Tok} {es:Array (Int × Value)} {t:SetTable} {ot:Obj} {its:Array Value} {nn:Nat} {hv:Int} {v:Value} {Q:Option Value->Shared->Prop} (hI:SIt I (.ref tp) i a n ep s.heap) (hS:RawS a es ep t s.heap) (hn:es.size=n)
    (ht:s.heap.get? tp=some ot) (hit:ot.data= .seq its nn) (hi:its[i]?=some (.int place tk)) (hp:es[place]?=some (hv,v))
    (hQ:∀ h',SIt I (.ref tp) (i+1) a n ep h'->Heap.SameBut I s.heap h'->Q (some v) { s with heap:=h' }):wpAny (model prog w) A (pyNext (.ref I)) Q E s:=by
  have hT:=hI.type;obtain ⟨o,ho,hc,hd⟩:=id hI;unfold pyNext;refine Aa0 (Af7 (Ab4 (name:=Str.ofString "__next__") hT slot_setit_next (Ab9 slot_setit_next hT BZ ?_ (BX _))));unfold Builtin.«set_iterator.__next__»;refine Aa0 (Aa5 (Aa0 (wpAny_fieldsOf ho hd ?_)));dsimp only;refine Gc hS hn ?_;simp only [Ac2];refine Aa0 (Ad8 ht hit ?_);dsimp only;rw [hi];dsimp only;refine Aa0 ?_;unfold setNextDrawn;refine Aa0 (hS.state ?_);simp only [bne_self_eq_false,Ag1,if_false,Ac2];rw [hp];dsimp only;refine Aa5 ?_;refine Aa0 (wpAny_setField ho hd (by simp) ?_);exact Aa5 ⟨_,rfl,Aa5 (hQ _ hI.upd1 (Heap.SameBut.update ..))⟩
theorem P5 {tp:Addr} {es:Array (Int × Value)} {t:SetTable} {ot:Obj} {its:Array Value} {nn:Nat} {Q:Option Value->Shared->Prop} (hh:A.handled=none) (hI:SIt I (.ref tp) i a n ep s.heap) (hS:RawS a es ep t s.heap) (hn:es.size=n)
    (ht:s.heap.get? tp=some ot) (hit:ot.data= .seq its nn) (hi:its[i]?=none)
    (hQ:∀ h',Heap.ExtBut I s.heap h'->Q none { s with heap:=h' }):wpAny (model prog w) A (pyNext (.ref I)) Q E s:=by
  have hT:=hI.type;obtain ⟨o,ho,hc,hd⟩:=id hI;unfold pyNext;refine Aa0 (Af7 (Ab4 (name:=Str.ofString "__next__") hT slot_setit_next (Ab9 slot_setit_next hT BZ ?_ (BX _))));unfold Builtin.«set_iterator.__next__»;refine Aa0 (Aa5 (Aa0 (wpAny_fieldsOf ho hd ?_)));dsimp only;refine Gc hS hn ?_;simp only [Ac2];refine Aa0 (Ad8 ht hit ?_);dsimp only;rw [hi];dsimp only;have I1:SIt I (rawInt 0) i a n ep (s.heap.update I (Obj.mapFields (·.setIfInBounds 0 (rawInt 0)))):=hI.upd0;refine Aa0 (wpAny_setField ho hd (by simp) ?_);obtain ⟨o1,ho1,hc1,hd1⟩:=id I1;exact Np (s:={ s with heap:=s.heap.update I (Obj.mapFields (·.setIfInBounds 0 (rawInt 0))) }) hh ho1 hd1 (by simp) λ h' e=>hQ h' λ b ob nb z=>e b ob nb ((Af4 _ _ (Ne.symm nb)).trans z)
end
theorem Et:Slot "set_iterator" "__iter__" "set_iterator.__iter__":= .of (owner:="set_iterator") (n:="__iter__") (by rw [typeLookup_type,builtinLookup_eq_fast];kernel_rfl) (by decide +kernel) (by decide +kernel) (by decide +kernel) (by first | exact .inl (by decide +kernel) | exact .inr (by decide +kernel)) (by rw [isSubtype_type];kernel_rfl)
theorem IX (a:Value):argsOk "set_iterator.__iter__" ⟨[a],[]⟩:=by unfold argsOk;rw [signature?_of (id:="set_iterator.__iter__") (n:=['_', '_', 'r', 'e', 't', 'i', '_', '_']) (o:=['r', 'o', 't', 'a', 'r', 'e', 't', 'i', '_', 't', 'e', 's']) (by kernel_rfl) JP];kernel_rfl
theorem IK:entryFor table "set_iterator.__iter__"=some Builtin.«dict_keyiterator.__iter__» := entryFor_alias (id':="dict_keyiterator.__iter__") (by kernel_rfl) rfl (by decide +kernel) (by kernel_rfl)
theorem Fv {α:Type}:∀ (l:List α) (i:Nat) (h:i<l.length),(l[i]::l.eraseIdx i).Perm l
  | [],i,h=>absurd h (Nat.not_lt_zero _)
  | x::l,0,h=>List.Perm.refl _
  | x::l,i+1,h=>by
    simp only [List.getElem_cons_succ,List.eraseIdx_cons_succ];exact (List.Perm.swap ..).trans (List.Perm.cons _ (Fv l i (by simpa using h)))
theorem MX {α:Type} (next:Nat->Nat):∀ (f k:Nat) (left:List α) (out:Array α),left.length=f->(pickOrder.go next f k left out).toList.Perm (out.toList++left)
  | 0,k,left,out,h=>by
    unfold pickOrder.go;rw [List.length_eq_zero_iff.mp h,List.append_nil]
  | f+1,k,left,out,h=>by
    unfold pickOrder.go;have hl:next k%left.length<left.length:=Nat.mod_lt _ (by omega);rw [Aa4 hl];dsimp only;refine (MX next f _ _ _ (by rw [Ag4,if_pos hl];omega)).trans ?_;rw [Array.toList_push,List.append_assoc];refine List.Perm.append (List.Perm.refl _) ?_;exact (Fv _ _ hl)
theorem N4 {α:Type} (next:Nat->Nat) (xs:Array α):(pickOrder next xs).toList.Perm xs.toList:=by
  have:=MX next xs.size 0 xs.toList #[] (by simp);simpa [pickOrder] using this
section
theorem NN {src:Source} {Q:Nat->Shared->Prop} (hn:n≠0) (h:∀ i d,i<n->Q i { s with drawn:=d }):wpAny (model prog w) A (choose src n) Q E s:=
  λ _ _ _=>⟨hn,h _ _ (Nat.mod_lt _ (Nat.pos_of_ne_zero hn))⟩
theorem M4 {α:Type}:∀ (n:Nat) (xs:List α) (s:Shared) {Q:List α->Shared->Prop},xs.length<=n->(∀ ys d,ys.Perm xs->Q ys { s with drawn:=d })->wpAny (model prog w) A (drawOrder n xs) Q E s
  | 0,xs,s,Q,hl,h=>by
    unfold drawOrder;have:=h [] s.drawn (by rw [List.length_eq_zero_iff.mp (Nat.le_zero.mp hl)]);exact Aa5 this
  | n+1,[],s,Q,hl,h=>by
    unfold drawOrder;have:=h [] s.drawn (List.Perm.refl _);exact Aa5 this
  | n+1,x::xs,s,Q,hl,h=>by
    unfold drawOrder;refine Aa0 (NN (by simp) λ i d hi=> ?_);rw [Aa4 hi];dsimp only;refine Aa0 (M4 n _ _ (by rw [Ag4,if_pos hi];simp only [Ac6] at hl ⊢;omega) λ ys d' p=> ?_);exact Aa5 (h _ d' ((List.Perm.cons _ p).trans (Fv _ _ hi)))
abbrev bt (w:World):Bool:=w.params.followText "set-order"
abbrev drw (es:Array (Int × Value)) (t:SetTable):Bool:= !t.plain&&decide (es.size>1)
def IB (w:World) (a:Addr) (ep:Nat) (es:Array (Int × Value)):Array (Int × Value):=if bt w=true then pickOrder (w.params.setOrder a ep) es else es
theorem JV (a:Addr) (ep:Nat) (es:Array (Int × Value)):(IB w a ep es).toList.Perm es.toList:=by
  unfold IB;split
  · exact N4 ..
  · exact List.Perm.refl _
theorem Gg (a:Addr) (ep:Nat) (es:Array (Int × Value)):(IB w a ep es).size=es.size:=by
  rw [<-Ad2,(JV a ep es).length_eq,Ad2]
theorem M9 {es:Array (Int × Value)} {slot:Nat} {t:SetTable} (hS:RawS a es ep t s.heap) (tk:TOk (!bt w) t) (nd:bt w=true\/drw es t=false) (hc:bt w=true\/SetTable.below t.place slot=i):
    ∃ r:Option (Value × Nat),(∀ (B:Around) (E':Value->Shared->Prop) (Q':Option (Value × Nat)->Shared->Prop),Q' r s->wpAny (model prog w) B (setNext a slot i ep) Q' E' s)/\
      (i<es.size->∃ e nx,(IB w a ep es)[i]?=some e/\r=some (e.2,nx)/\(bt w=true\/SetTable.below t.place nx=i+1))/\(i=es.size->r=none):=by
  cases hb:bt w with
  | true=>
    have ho:IB w a ep es=pickOrder (w.params.setOrder a ep) es:=if_pos hb;refine ⟨((IB w a ep es)[i]?).map λ e=>(e.2,slot),λ B E' Q' h=> ?_,λ hi=> ?_,λ hi=> ?_⟩
    · unfold setNext;refine Aa0 (hS.state ?_);dsimp only;refine Aa0 (Aa0 (wpAny_askSetting (Aa5 ?_)));refine Ah5 (λ _=> ?_) λ z=>absurd hb z;simp only [bne_self_eq_false,Ag1,if_false];refine Aa0 ?_;unfold setWalk;refine Aa0 (hS.state ?_);dsimp only;refine Aa0 (Aa0 (wpAny_askSetting (Aa5 ?_)));refine Ah5 (λ _=> ?_) λ z=>absurd hb z;refine Aa0 (wpAny_askSetting (Aa5 (Aa5 ?_)));rw [ho] at h;exact h
    · have hz:i<(IB w a ep es).size:=by rw [Gg];exact hi
      exact ⟨_,slot,Ab7 hz,by rw [Ab7 hz];rfl, .inl rfl⟩
    · rw [Ag7 (by rw [Gg];omega)];rfl
  | false=>
    have ho:IB w a ep es=es:=if_neg (by rw [hb];decide);have hl:t.led=true:=by rw [tk.led,hb];rfl
    have nd:drw es t=false:=nd.resolve_left (by rw [hb];decide);have hc:SetTable.below t.place slot=i:=hc.resolve_left (by rw [hb];decide);have hps:t.place.size=es.size:=by
      have:=hS.fits;unfold SetTable.fits at this;simp only [Ad9,beq_iff_eq] at this;exact this.1
    refine ⟨(match es[i]?,t.place[i]? with | some (_,x),some j=>some (x,j+1) | _,_=>none),λ B E' Q' h=> ?_,λ hi=> ?_,λ hi=> ?_⟩
    · unfold setNext;refine Aa0 (hS.state ?_);dsimp only;refine Aa0 (Aa0 (wpAny_askSetting (Aa5 ?_)));refine Ah5 (λ z=>absurd (hb.symm.trans z) (by decide)) λ _=> ?_;refine Ah5 (λ z=>absurd (show drw es t=true from z) (by rw [nd];decide)) λ _=> ?_;refine Aa0 ?_;show wpAny _ _ (if (!t.led&& !es.isEmpty)=true then unsupported "set:maker-not-led" else pure ()) _ _ _;rw [hl,if_neg (by simp)];refine Aa5 (Aa5 ?_);rw [hc];exact h
    · have hp:i<t.place.size:=by omega
      rw [ho];refine ⟨es[i],t.place[i]+1,Ab7 hi,?_, .inr ?_⟩
      · rw [Ab7 hi,Ab7 hp]
      · have:=L8 tk.rise hp;simpa [Array.getD,hp] using this
    · rw [Ag7 (by omega)]
theorem LI {x:Value} {Q:Value->Shared->Prop} (hI:SIt I x i a n ep s.heap) (h:Q (.ref I) s):wpAny (model prog w) A (pyIter (.ref I)) Q E s:=by
  refine wpAny_pyIter_slot hI.type Et (Ab9 Et hI.type IK ?_ (IX _));show wpAny _ _ (ret (.ref I)) _ _ s;exact Aa5 ⟨_,rfl,"set_iterator",_,hI.type,slot_setit_next.lookup,h⟩
theorem Sz (hh:A.handled=none) (hne:a≠I) {es:Array (Int × Value)} {t:SetTable} (tk:TOk (!bt w) t) (nd:bt w=true\/drw es t=false):
    Walks prog w A I [I,a] [I] es.size (λ i v=>∃ e,(IB w a ep es)[i]?=some e/\v=e.2) (λ i h=>∃ slot:Nat,SIt I (.int slot 0) i a es.size ep h/\RawS a es ep t h/\(bt w=true\/SetTable.below t.place slot=i)) where
  sub:=λ b hb=>by simp at hb;simp [hb]
  frame:=λ _ _ _ ⟨slot,h1,h2,h3⟩ hk=>⟨slot,h1.to λ o e=>hk I (by simp) o e,h2.to λ o e=>hk a (by simp) o e,h3⟩
  item:=λ i s Q E hi ⟨slot,h1,h2,h3⟩ hQ=>by
    obtain ⟨r,hN,g,_⟩:=M9 (prog:=prog) h2 tk nd h3;obtain ⟨e,nx,he,hr,hc⟩:=g hi;rw [hr] at hN;exact NW h1 h2 rfl hN λ h' hit hs=>hQ _ h' s.toks ⟨e,he,rfl⟩ ⟨nx,hit,h2.to λ o e=>hs.extBut a o hne e,hc⟩ λ b o hb e=>hs.extBut b o (λ h=>hb (by simp [h])) e
  done:=λ s Q E ⟨slot,h1,h2,h3⟩ hQ=>by
    obtain ⟨r,hN,_,g⟩:=M9 (prog:=prog) h2 tk nd h3;rw [g rfl] at hN;exact Pz hh h1 h2 rfl hN λ h' he=>hQ h' s.toks λ b o hb e=>he b o (λ h=>hb (by simp [h])) e
  self:=λ _ _ _ _ ⟨slot,h1,_⟩ hQ=>LI h1 hQ
theorem SD (hh:A.handled=none) {tp:Addr} (hne:a≠I) (htp:tp≠I) {es:Array (Int × Value)} {nn:Nat} {t:SetTable} {ot:Obj} {js:List Nat} (hjl:js.length=es.size) (hjs:∀ j∈js,j<es.size) (hit:ot.data= .seq (js.map λ (j:Nat)=>rawInt j).toArray nn):
    Walks prog w A I [I,a,tp] [I] es.size (λ i v=>∃ e,es[js.getD i 0]?=some e/\v=e.2) (λ i h=>SIt I (.ref tp) i a es.size ep h/\RawS a es ep t h/\h.get? tp=some ot) where
  sub:=λ b hb=>by simp at hb;simp [hb]
  frame:=λ _ _ _ ⟨h1,h2,h3⟩ hk=>⟨h1.to λ o e=>hk I (by simp) o e,h2.to λ o e=>hk a (by simp) o e,hk tp (by simp) _ h3⟩
  item:=λ i s Q E hi ⟨h1,h2,h3⟩ hQ=>by
    have hj:i<js.length:=by omega
    have hg:js.getD i 0=js[i]:=by rw [Aa2,Aa4 hj];rfl
    have hlt:js.getD i 0<es.size:=by rw [hg];exact hjs _ (Ag6 _)
    refine NL (place:=js.getD i 0) (tk:=0) h1 h2 rfl h3 hit (by simp [hj,rawInt]) (Ab7 hlt) λ h' hit' hs=>hQ _ h' s.toks ⟨_,Ab7 hlt,rfl⟩ ⟨hit',h2.to λ o e=>hs.extBut a o hne e,hs.extBut tp _ htp h3⟩ λ b o hb e=>hs.extBut b o (λ h=>hb (by simp [h])) e
  done:=λ s Q E ⟨h1,h2,h3⟩ hQ=>P5 hh h1 h2 rfl h3 hit (by simp [hjl]) λ h' he=>hQ h' s.toks λ b o hb e=>he b o (λ h=>hb (by simp [h])) e
  self:=λ _ _ _ _ ⟨h1,_⟩ hQ=>LI h1 hQ
def Pq (es:Array (Int × Value)) (P:Nat->Value->Prop):Prop:=∀ acc:Array Value,ItemsOf P acc es.size->acc.toList.Perm (es.toList.map (·.2))
theorem V4 (a:Addr) (ep:Nat) (es:Array (Int × Value)):Pq es (λ i v=>∃ e,(IB w a ep es)[i]?=some e/\v=e.2):=by
  intro acc ⟨hz,ha⟩;have e:acc.toList=(IB w a ep es).toList.map (·.2):=by
    apply List.ext_getElem?;intro i;rw [Ac4,Af8,Af8];rcases Ah4 i acc.size with hi | hi
    · obtain ⟨e,he,hv⟩:=ha i acc[i] (Ab7 hi);rw [he,Ab7 hi,hv];rfl
    · rw [Ag7 hi,Ag7 (by rw [Gg];omega)];rfl
  rw [e];exact (JV a ep es).map _
theorem Vm (es:Array (Int × Value)) {js:List Nat} (pj:js.Perm (Aa9 es.size)):Pq es (λ i v=>∃ e,es[js.getD i 0]?=some e/\v=e.2):=by
  intro acc ⟨hz,ha⟩;have hjl:js.length=es.size:=by rw [pj.length_eq,Ad6]
  have e:acc.toList.map some=js.map λ j=>(es[j]?).map (·.2):=by
    apply List.ext_getElem?;intro i;rw [Ac4,Ac4,Af8];rcases Ah4 i acc.size with hi | hi
    · obtain ⟨e,he,hv⟩:=ha i acc[i] (Ab7 hi);have hj:i<js.length:=by omega
      have hg:js.getD i 0=js[i]:=by rw [Aa2,Aa4 hj];rfl
      rw [hg] at he;rw [Ab7 hi,Aa4 hj,hv];simp only [Option.map_some,he]
    · rw [Ag7 hi,List.getElem?_eq_none (by omega)];rfl
  have p2:(acc.toList.map some).Perm ((Aa9 es.size).map λ j=>(es[j]?).map (·.2)):=by
    rw [e];exact pj.map _
  have e3:((Aa9 es.size).map λ j=>(es[j]?).map (·.2))=(es.toList.map (·.2)).map some:=by
    apply List.ext_getElem?;intro i;simp only [Ac4,Af8];rcases Ah4 i es.size with hi | hi
    · rw [List.getElem?_range hi,Ab7 hi];simp [hi]
    · rw [List.getElem?_eq_none (by rw [Ad6];exact hi),Ag7 hi];rfl
  rw [e3] at p2;have:=p2.filterMap id;simpa [List.filterMap_map,Function.comp_def] using this
theorem OS {es:Array (Int × Value)} {t:SetTable} {Q:Value->Shared->Prop} (hh:A.handled=none) (hS:RawS a es ep t s.heap) (tk:TOk (!bt w) t) (hz:es.size<=sizeLine)
    (h:∀ (I:Addr) (h1:Heap) (d1:Drawn) (fp:List Addr) (P:Nat->Value->Prop) (St:Nat->Heap->Prop),s.heap.objs.size<=I->(∀ b o,s.heap.get? b=some o->h1.get? b=some o)->(∀ b∈fp,b=a\/s.heap.objs.size<=b)->Walks prog w A I fp [I] es.size P St->St 0 h1->Pq es P->Q (.ref I) { s with heap:=h1,drawn:=d1 }):
    wpAny (model prog w) A (pyIter (.ref a)) Q E s:=by
  have hT:=hS.type;have ha:a<s.heap.objs.size:=by
    obtain ⟨⟨o,ho,_⟩,_⟩:=hS;exact Aa8 ho
  refine wpAny_pyIter_slot hT PySem.F.slot_set_iter (Ab9 PySem.F.slot_set_iter hT Ko ?_ (PySem.F.args_set_iter_1 _));unfold Builtin.«frozenset.__iter__» Builtin.Frozenset.slot0;refine Aa0 (Aa0 (Aa5 (Aa5 ?_)));unfold Builtin.Frozenset.sizeOf setEntries;refine Aa0 (Aa0 (Aa0 (hS.state (Aa5 (Aa5 ?_)))));dsimp only;refine Aa0 ?_;unfold setDrawn;refine Aa0 (hS.state ?_);dsimp only;refine Aa0 (Aa0 (wpAny_askSetting (Aa5 (Aa5 ?_))));refine Ah5 (λ z=> ?_) λ z=> ?_
  · have z:(!bt w&&drw es t)=true:=z;rw [Ad9] at z;refine Aa0 (M4 _ _ _ (by rw [Ad6];exact Aa7 _) λ js d pj=> ?_);have hjl:js.length=es.size:=by rw [pj.length_eq,Ad6]
    refine Aa0 (wpAny_newTuple ?_ (by show (List.map _ js).length<=_;rw [Aa1,hjl];exact hz));have hS1:RawS a es ep t (s.heap.push (seqObj "tuple" (js.map λ (j:Nat)=>rawInt j).toArray 0)):=hS.to λ o e=>Aa3 _ e;refine Aa0 ?_;unfold setEpoch;refine Aa0 (RawS.state (s:={ s with heap:=s.heap.push (seqObj "tuple" (js.map λ (j:Nat)=>rawInt j).toArray 0),drawn:=d }) hS1 (Aa5 ?_));refine Aa0 (Ae3 (Aa5 ⟨_,rfl,"set_iterator",_,⟨_,Aa6 _ rfl,rfl⟩,slot_setit_next.lookup,?_⟩));have hn1:a≠(s.heap.push (seqObj "tuple" (js.map λ (j:Nat)=>rawInt j).toArray 0)).objs.size:=by rw [Ad7];exact Ab6 (Nat.lt_succ_of_lt ha)
    have hn2:s.heap.objs.size≠(s.heap.push (seqObj "tuple" (js.map λ (j:Nat)=>rawInt j).toArray 0)).objs.size:=by rw [Ad7];exact Ab6 (Nat.lt_succ_self _)
    refine h _ _ d [(s.heap.push (seqObj "tuple" (js.map λ (j:Nat)=>rawInt j).toArray 0)).objs.size,a,s.heap.objs.size] _ _ (by rw [Ad7];exact Nat.le_succ _) (λ b o e=>Aa3 _ (Aa3 _ e)) (λ b hb=> ?_) (SD (ot:=seqObj "tuple" (js.map λ (j:Nat)=>rawInt j).toArray 0) (nn:=0) hh hn1 hn2 hjl (λ j hj=>Ae9.mp (pj.mem_iff.mp hj)) rfl)
      ⟨⟨_,Aa6 _ rfl,rfl,rfl⟩,hS1.to λ o e=>Aa3 _ e,Aa3 _ (Aa6 _ rfl)⟩ (Vm es pj)
    simp only [Ab2,Ac7,or_false] at hb;rcases hb with rfl | rfl | rfl
    · right;rw [Ad7];exact Nat.le_succ _
    · exact .inl rfl
    · exact .inr (Aa7 _)
  · have z:¬ ((!bt w&&drw es t)=true):=z;have nd:bt w=true\/drw es t=false:=by
      cases hb:bt w with
      | true=>exact .inl rfl
      | false=>
        cases hd:drw es t with
        | false=>exact .inr rfl
        | true=>exact absurd (by rw [hb,hd];rfl) z
    refine Aa0 (Aa5 ?_);refine Aa0 ?_;unfold setEpoch;refine Aa0 (hS.state (Aa5 ?_));refine Aa0 (Ae3 (Aa5 ⟨_,rfl,"set_iterator",_,⟨_,Aa6 _ rfl,rfl⟩,slot_setit_next.lookup,?_⟩));refine h _ _ s.drawn [s.heap.objs.size,a] _ _ (Aa7 _) (λ b o e=>Aa3 _ e) (λ b hb=> ?_) (Sz hh (Ab6 ha) tk nd) ⟨0,⟨_,Aa6 _ rfl,rfl,rfl⟩,hS.to λ o e=>Aa3 _ e, .inr (Mz tk.rise)⟩ (V4 a ep es);simp only [Ab2,Ac7,or_false] at hb;rcases hb with rfl | rfl
    · exact .inr (Aa7 _)
    · exact .inl rfl
theorem Pw {Q:Bool->Shared->Prop} (hT:s.TypeIs (.ref a) "set") (h:Q false s):wpAny (model prog w) A (Builtin.List.listLengthHint (.ref a)) Q E s:=by
  unfold Builtin.List.listLengthHint;refine Aa0 (wpAny_specialOf hT PySem.F.slot_set_len.lookup ?_);generalize hid:("set.__len__":String)=id0
  wp_delta
  rw [show splitId id0=some ("set","__len__") from by subst hid;decide +kernel];subst hid;refine Aa0 (Ah8 (T:="set") (b:=true) hT (by rw [isSubtype_type];kernel_rfl) ?_);refine Ah5 (λ hab=>absurd hab (by decide)) (λ _=> ?_);refine Ah5 (λ _=>Aa0 (wpAny_typeOf hT ?_)) (λ hab=>absurd (by decide +kernel) hab);exact Aa5 h
theorem Mt {S:Addr} {es:Array (Int × Value)} {c₀:Nat} {t:SetTable} {res:Value} {R:Result->Shared->Prop} (hh:A.handled=none) (hS:RawS a es ep t s.heap) (tk:TOk (!bt w) t) (hz:es.size<=sizeLine) (hSa:S≠a) (hL:s.heap.get? S=some { cls:= .type "list",data:= .seq #[] c₀ })
    (hR:∀ h' k d acc c',(∀ b o,b≠S->s.heap.get? b=some o->h'.get? b=some o)->h'.get? S=some { cls:= .type "list",dict:=none,data:= .seq acc c',slots:= #[] }->acc.toList.Perm (es.toList.map (·.2))->R (.ok (.ret res)) { s with heap:=h',toks:=k,drawn:=d }):
    wpAny (model prog w) A.in1 (Builtin.List.listExtendWith (.ref S) (.ref a) res)
      (λ fin s'=>match fin with | .done f=>R (.ok f) s' | .again c'=>c'.quiet=true/\codeAny (model prog w) A c' R s') (λ e s'=>R (.error e) s') s:=by
  have hlt:S<s.heap.objs.size:=Aa8 hL;unfold Builtin.List.listExtendWith;refine Aa0 (wpAny_typeOf hS.type ?_);have n1:Builtin.List.listSameRef (.ref S) (.ref a)=false:=by simp [Builtin.List.listSameRef,hSa]
  have n2:(Value.type "set" == Value.type "list")=false:=by decide
  have n3:(Value.type "set" == Value.type "tuple")=false:=by decide
  simp only [n1,n2,n3,Bool.or_false,Ag1,if_false];refine Aa0 (OS (A:=A.in1) hh hS tk hz λ I h1 d1 fp P St hI k1 hfp W st gp=> ?_);have hSf:S∉fp:=λ z=>by
    rcases hfp S z with e | e
    · exact hSa e
    · exact absurd hlt (Nat.not_lt.mpr e)
  have key:∀ (h:Heap) (c₁ q:Nat),St 0 h->(∀ b o,b≠S->s.heap.get? b=some o->h.get? b=some o)->h.get? S=some { cls:= .type "list",data:= .seq #[] c₁ }->
      codeAny (model prog w) A (.builtin "list.extend.loop" ⟨[.ref S, .ref I,res],[]⟩) R { s with heap:=h,toks:=q,drawn:=d1 }:=by
    intro h c₁ q hst hk hS₁;refine codeAny_extend_loopS W.toS hz S hSf res es.size 0 _ #[] c₁ rfl (Ad3 _) hst hS₁ (ItemsOf.nil _) λ s' acc c' hm hS' hacc=> ?_;rw [Moved.eq_with hm];refine hR s'.heap s'.toks d1 acc c' (λ b o hb e=>hm.heap b o (λ hmem=> ?_) (hk b o hb e)) hS' (gp acc hacc);rcases Ab2.mp hmem with e' | hmem
    · exact hb e'
    · have:=Aa8 e;rw [List.mem_singleton.mp hmem] at this;exact absurd this (Nat.not_lt.mpr hI)
  have hS₁:=k1 _ _ hL;refine Aa0 (Ad5 (Pw (s:={ s with heap:=h1,drawn:=d1 }) ((hS.to λ o e=>k1 _ _ e).type (s:={ s with heap:=h1,drawn:=d1 })) ?_));refine Ah5 (λ _=> ?_) (λ _=>Aa5 ⟨plainId_quiet PySem.F.plain_extend_loop _,key _ c₀ _ st (λ b o _ e=>k1 b o e) hS₁⟩);refine Aa0 (wpAny_rule (Aa0 ?_));show wpAny _ _ (updateSeq S (·.push .none) >>= λ _=>updateSeq S (·.pop)) _ _ _;refine Aa0 (wpAny_updateSeq hS₁ rfl ?_);have hS₂:=Af2 (Obj.mapSeq (·.push Value.none)) hS₁ rfl;refine wpAny_updateSeq (hz:=by seq_fits) hS₂ rfl ?_;have hS₃:=Af2 (Obj.mapSeq (·.pop)) hS₂ rfl;refine Aa5 ⟨plainId_quiet PySem.F.plain_extend_loop _,key _ _ _ ?_ (λ b o hb e=> ?_) hS₃⟩
  · refine W.frame 0 _ _ st λ b hb o e=> ?_;have hbS:S≠b:=λ h=>hSf (h▸hb);exact (Af4 _ _ hbS).trans ((Af4 _ _ hbS).trans e)
  · exact (Af4 _ _ (Ne.symm hb)).trans ((Af4 _ _ (Ne.symm hb)).trans (k1 b o e))
theorem set_collect {R:List Value->Shared->Prop} (hh:A.handled=none) (hS:WSet prog w a ks s.heap)
    (h:∀ (h':Heap) (k:Nat) (d:Drawn) (vs:List Value) (ms:List Int),(∀ b o,s.heap.get? b=some o->h'.get? b=some o)->IntsAre vs ms->ms.Perm ks->R vs { s with heap:=h',toks:=k,drawn:=d }):
    wpAny (model prog w) A (collect (.ref a)) R E s:=by
  obtain ⟨o,es,ep,t,ho,hx,hd,hel,pm,nd,hb,hf,tk⟩:=hS;have hr:RawS a es ep t s.heap:=⟨⟨o,ho,hx,hd⟩,hf⟩;have ha:a<s.heap.objs.size:=Aa8 ho;have asInts:∀ vs:List Value,vs.Perm (es.toList.map (·.2))->∃ ms,IntsAre vs ms/\ms.Perm ks:=by
    intro vs pv;refine ⟨vs.map λ v=>kOf (0,v),?_,?_⟩
    · have all:∀ v∈vs,∃ k t,v= .int k t:=λ v hv=>by
        obtain ⟨e,he,rfl⟩:=Ac3.mp (pv.mem_iff.mp hv);obtain ⟨k,t,e1,_⟩:=Lu hel he;exact ⟨k,t,e1⟩
      clear pv
      induction vs with
      | nil=>exact .nil
      | cons v vs ih=>
        obtain ⟨k,t,rfl⟩:=all v (Ad1 ..);exact .cons k t (ih λ x hx=>all x (Ac9 _ hx))
    · refine ((pv.map _).trans ?_).trans pm;rw [Ae1];exact List.Perm.of_eq (List.map_congr_left λ e _=>rfl)
  unfold collect;refine Aa0 (wpAny_runValue (codeAny_builtin entry_proto_collect' ?_));rw [Around.under_plainId PySem.F.plain_proto_collect _];show wpAny _ A.in1 (newList [] >>= λ l=>again (.builtin "list.__iadd__" ⟨[l, .ref a],[]⟩)) _ _ s;refine Aa0 (Ae3 ?_);refine Aa5 ⟨plainId_quiet PySem.F.plain_list_iadd _,codeAny_builtin entry_list_iadd' ?_⟩;rw [Around.under_plainId PySem.F.plain_list_iadd _];have hL:(s.heap.push { cls:= .type "list",data:= .seq ([]:List Value).toArray }).get? s.heap.objs.size=some { cls:= .type "list",data:= .seq #[] }:=Aa6 _ rfl;show wpAny _ A.in1 (Builtin.List.listExtendWith (.ref s.heap.objs.size) (.ref a) (.ref s.heap.objs.size)) _ _ _;have key:=Mt (prog:=prog) (A:=A) (w:=w) (s:={ s with heap:=s.heap.push { cls:= .type "list",data:= .seq ([]:List Value).toArray } }) (res:= .ref s.heap.objs.size)
    (R:=λ (q:Result) (s':Shared)=>∃ (h':Heap) (k:Nat) (d:Drawn) (acc:Array Value) (c':Nat),q= .ok (.ret (.ref s.heap.objs.size))/\s'={ s with heap:=h',toks:=k,drawn:=d }/\
      (∀ b o,s.heap.get? b=some o->h'.get? b=some o)/\h'.get? s.heap.objs.size=some { cls:= .type "list",dict:=none,data:= .seq acc c',slots:= #[] }/\acc.toList.Perm (es.toList.map (·.2)))
    hh (hr.to λ o e=>Aa3 _ e) tk (fits_of_scanBound hb) (Ah0 ha) hL
    (λ h' k d acc c' hk hS' p=>⟨h',k,d,acc,c',rfl,rfl,λ b o e=>hk b o (Ab6 (Aa8 e)) (Aa3 _ e),hS',p⟩)
  refine Af1 key (λ fin s' x=> ?_) λ e s' x=> ?_
  · cases fin with
    | done f=>
      obtain ⟨h',k,d,acc,c',e,rfl,hk,hS',p⟩:=x;cases e;obtain ⟨ms,i1,i2⟩:=asInts _ p;show wpAny _ A (load s.heap.objs.size >>= _) _ _ _;refine Aa0 (wpAny_load hS' ?_);exact Aa5 (h h' k d _ ms hk i1 i2)
    | again c₁=>
      refine ⟨x.1,codeAny_mono x.2 λ q s₂ y=> ?_⟩;obtain ⟨h',k,d,acc,c',rfl,rfl,hk,hS',p⟩:=y;obtain ⟨ms,i1,i2⟩:=asInts _ p;show wpAny _ A (load s.heap.objs.size >>= _) _ _ _;refine Aa0 (wpAny_load hS' ?_);exact Aa5 (h h' k d _ ms hk i1 i2)
  · obtain ⟨_,_,_,_,_,e',_⟩:=x;cases e'
end
end HT
namespace L2
open PySem PySem.Spec PyProof.Rows PySem.W
def Ye (X:Cx) (H:Hp) (p:Addr) (ks:List Int):Prop:=H p=some (.ext (HT.WSet X.prog X.w p ks))
def R5 (X:Cx):List V->Hp->VK->Prop:=λ xs H Q=>∃ (p:Addr) (ns:List Int),xs=[.ref p]/\SqL X.K H p (ns.map V.int)/\ns.length<1000/\∀ l,H l=none->Q (.ref l) (upd H l (.ext (HT.WSet X.prog X.w l (HT.metK ns))))
theorem Ta (hc:X.calm=true):BY X (.type "set") (R5 X):=by
  intro pins s σ H xs us Q I r h;obtain ⟨p,ns,rfl,hq,hl,q⟩:=h;obtain ⟨u,rfl,rx⟩:=FZ r;cases rx;obtain ⟨its,r',pl,hz⟩:=I.list hq;have hlen:its.length=ns.length:=by have:=r'.length;simpa using this.symm
  refine HT.set_call (ns:=ns) (I.ok.hd hc) pl.isList (IR r') (by rw [Ab0];show its.length+1<4096;omega) λ h' tk W k=> ?_;refine ⟨.ref s.heap.objs.size,_,I.laid (t':=tk) k (Aa7 _) ?_,rfl,q _ (I.hok.fresh (Aa7 _))⟩;refine ⟨W,?_,λ h1 h2 w1 k1=>w1.to k1⟩;obtain ⟨o,_,_,_,ho,_⟩:=W;exact ⟨o,ho⟩
def Pc (X:Cx):List V->Hp->VK->Prop:=λ xs H Q=>∃ (p:Addr) (ks:List Int),xs=[.ref p]/\Ye X H p ks/\ks.length<64/\∀ (l:Addr) (ms:List Int),H l=none->ms.Perm ks->ms.Pairwise (· <= ·)->Q (.ref l) (upd H l (.lst (ms.map V.int)))
theorem Inv.drew (I:Inv X pins σ H s) (d:Drawn):Inv X pins σ H { s with drawn:=d }:=
  ⟨I.ok,I.os,I.bare,I.base,I.loc,I.cell,I.free,I.freeC,I.pin,I.hok,I.len⟩
theorem NG (hc:X.calm=true):BY X (.builtin "sorted") (Pc X):=by
  intro pins s σ H xs us Q I r h;obtain ⟨p,ks,rfl,hp,hl,q⟩:=h;obtain ⟨u,rfl,rx⟩:=FZ r;cases rx;obtain ⟨W,_,_⟩:=I.hok _ _ hp;refine Calls.call_function_entry kind_sorted plain_sorted entry_sorted (args_sorted1 _) ?_;show wpAny _ _ (checkCount "sorted" 1 1 1 >>= λ _=>collect (.ref p) >>= λ xs=>newList xs >>= λ l=>holding [l] (call (.builtin "list.sort") [l] []) >>= λ _=>ret l) _ _ _;rw [KM];refine Aa0 (Aa5 ?_);refine Aa0 (HT.set_collect (A:=X.A.in1) (I.ok.hd hc) W λ h1 k d its ns k1 iv pk=> ?_);have I1:=(I.kept (t':=k) k1).drew d;have hlen:its.length=ks.length:=by rw [iv.length,pk.length_eq]
  refine Aa0 (wpAny_newList ?_ ?_)
  · refine Aa0 (Ad5 ?_);have hg:(h1.push { cls:=Value.type "list",data:=Data.seq its.toArray }).get? h1.objs.size=some (seqObj "list" its.toArray 0):=Aa6 _ rfl;refine Ab9 slot_list_sort ⟨_,hg,rfl⟩ entry_list_sort ?_ (args_list_sort _);refine list_sort_tree (vs:=its) (ns:=ns) hg iv (by omega) λ out ns' io pm pw=> ?_;refine ⟨_,rfl,?_⟩;refine Aa5 ⟨_,rfl,?_⟩;obtain ⟨e,he⟩:=sortedHeap_at (out:=out) hg;refine ⟨.ref h1.objs.size,_,I1.laid (t':=k) (o:= .lst (ns'.map V.int)) (λ b ob z=> ?_) (Aa7 _) ?_,rfl,q _ ns' (I1.hok.fresh (Aa7 _)) (pm.trans pk) pw⟩
    · have hb:=Aa8 z;have hsz:b<(h1.push { cls:=Value.type "list",data:=Data.seq its.toArray }).objs.size:=Nat.lt_trans hb (Aa8 hg);show (sortedHeap _ _ _ _).get? b=_;rw [sortedHeap_old (Ab6 hb) hsz];exact Aa3 _ z
    · refine ⟨?_,out.toList,e,F9 io,?_⟩
      · rw [Aa1,pm.length_eq,pk.length_eq];exact Ac5 (Nat.le_of_lt hl) (by decide)
      · show (sortedHeap _ _ _ _).get? _=_;rw [he]
  · exact Ac5 (show its.length<=64 by omega) (by decide)
theorem Rj {K:PySem.W.Frag} {ns:List Int} (hK:X.K=K) (c:SqL K H p (ns.map V.int)) (n:ns.length<1000) (h:∀ l,H l=none->Q (.ref l) (upd H l (.ext (HT.WSet X.prog X.w l (HT.metK ns))))):R5 X [.ref p] H Q:=by
  subst hK;exact ⟨p,ns,rfl,c,n,h⟩
theorem PK (c:H p=some (.ext (HT.WSet X.prog X.w p ks))) (n:ks.length<64) (h:∀ (l:Addr) (ms:List Int),H l=none->ms.Perm ks->ms.Pairwise (· <= ·)->Q (.ref l) (upd H l (.lst (ms.map V.int)))):Pc X [.ref p] H Q:=⟨p,ks,rfl,c,n,h⟩
end L2
namespace L2
open PySem PySem.Spec PyProof.Rows
theorem Hv {to ti:TE} {t:QD} {Q:St->Hp->Prop} (h:to σ H λ o H1=>ti σ H1 λ i H2=>t o i v H2 λ H3=>Q σ H3):U9 to ti t v σ H Q:=h
theorem SA (h:i<n):ixN n ((i:Nat):Int)=some i:=by
  unfold ixN;rw [if_pos (by omega),if_pos (by omega)];simp
end L2
namespace L2
open PySem PySem.Spec PyProof.Rows PySem.W
section
theorem Os {Q:Option Obj->Shared->Prop} {M:Model} (h:Q (s.heap.get? a) s):wpAny M A (loadIfAlive a) Q E s:=λ Γ p hΓ=>by
  unfold loadIfAlive;rw [Sem.wp_loadIfAlive];exact h
def L9 (t:Addr) (b:Bool) (TI:Addr) (v:Value):Obj:={ cls:= .type "zip",data:= .fields #[rawInt t, .bool b, .bool false, .ref TI,v] }
structure ZipAg (t1 t2:Bool) (h:Heap) (z TI i1 i2 l1 l2 t:Addr) (k:Nat):Prop where
  hz:∃ b v,h.get? z=some (L9 t b TI v)
  ht:∃ o,h.get? t=some o
  hTI:IsPair h TI (.ref i1) (.ref i2)
  h1:By t1 h i1 l1 k
  h2:By t2 h i2 l2 k
theorem J9 {TI t:Addr} {b:Bool} {v:Value} {o:Obj} {Q:Bool->Shared->Prop} (hz:s.heap.get? z=some (L9 t b TI v)) (ht:s.heap.get? t=some o)
    (k:∀ h',h'.get? z=some (L9 t true TI v)->Heap.SameBut z s.heap h'->Q false { s with heap:=h' }):wpAny (model prog w) A (Builtin.SmallTypes.ownedTupleIsFree (.ref z)) Q E s:=by
  unfold Builtin.SmallTypes.ownedTupleIsFree;refine Aa0 (Ab8 hz rfl (x:=rawInt t) rfl ?_);show wpAny _ _ (loadIfAlive ((t:Int).toNat) >>= _) _ _ _;refine Aa0 (Os ?_);rw [Ac2,ht];show wpAny _ _ (field (.ref z) 1 >>= _) _ _ _;refine Aa0 (Ab8 hz rfl (x:= .bool b) rfl ?_);cases b with
  | true=>exact Aa5 (k s.heap hz (Heap.SameBut.refl _ _))
  | false=>
    show wpAny _ _ (setField (.ref z) 1 (.bool true) >>= _) _ _ _;exact Aa0 (Ac1 hz (by simp) λ a1 za b1=>Aa5 (k a1 za b1))
theorem Ny {TI TO t:Addr} {k:Nat} {xs ys:Array Value} {x y:Value} {Q:Value->Shared->Prop} (D:ZipApart z TI TO i1 i2 l1 l2) (Z:ZipAg t1 t2 s.heap z TI i1 i2 l1 l2 t k) (n1:t≠i1) (n2:t≠i2) (nz:t≠z)
    (q1:A8 t1 s.heap l1 xs) (q2:A8 t2 s.heap l2 ys) (hx:xs[k]?=some x) (hy:ys[k]?=some y)
    (fin:∀ h',ZipAg t1 t2 h' z TI i1 i2 l1 l2 t (k+1)->IsPair h' s.heap.objs.size x y->(∀ c o,c≠z->c≠i1->c≠i2->s.heap.get? c=some o->h'.get? c=some o)->Q (.ref s.heap.objs.size) { s with heap:=h' }):
    wpAny (model prog w) A (Builtin.«zip.__next__» ⟨[.ref z],[]⟩) (λ fin s'=>∃ v,fin= .done (.ret v)/\Q v s') E s:=by
  obtain ⟨⟨b,v,hz⟩,⟨o,ht⟩,hTI,g1,g2⟩:=Z;show wpAny _ _ (field (.ref z) 2 >>= _) _ _ _;refine Aa0 (Ab8 hz rfl (x:= .bool false) rfl ?_);show wpAny _ _ (field (.ref z) 3 >>= _) _ _ _;refine Aa0 (Ab8 hz rfl (x:= .ref TI) rfl (Aa0 (Ad8 hTI rfl ?_)));show wpAny _ _ (Builtin.SmallTypes.ownedTupleIsFree (.ref z) >>= _) _ _ _;refine Aa0 (J9 hz ht λ a1 za b1=> ?_);dsimp only;rw [if_neg Ab1];simp only [List.forIn_toArray,Ah1,Ai0];refine Aa0 (Aa0 (Aa0 (Ad5 ?_)));show wpAny _ _ (Builtin.SmallTypes.nextOf (.ref i1) >>= _) _ _ _;refine Aa0 (Bv (s:={ s with heap:=a1 }) (An g1 λ o e=>b1.extBut _ o D.i1z e) (AX q1 λ o e=>b1.extBut _ o D.l1z e) hx λ a2 i1a b2=>Aa5 (Aa5 ?_));refine Aa0 (Aa0 (Ad5 ?_));show wpAny _ _ (Builtin.SmallTypes.nextOf (.ref i2) >>= _) _ _ _;have up2:∀ c o,c≠z->c≠i1->s.heap.get? c=some o->a2.get? c=some o:=λ c o n1 n2 e=>b2.extBut _ o n2 (b1.extBut _ o n1 e);refine Aa0 (Bv (s:={ s with heap:=a2 }) (An g2 λ o e=>up2 _ o D.i2z D.i12.symm e) (AX q2 λ o e=>up2 _ o D.l2z D.l2i1 e) hy λ a3 i2a b3=>Aa5 (Aa5 (Aa5 ?_)));dsimp only;refine Aa0 (wpAny_newTuple ?_ (by show 2<=sizeLine;decide));have sz:a3.objs.size=s.heap.objs.size:=by rw [b3.1,b2.1,b1.1]
  have up3:∀ c o,c≠z->c≠i1->c≠i2->s.heap.get? c=some o->a3.get? c=some o:=λ c o n1 n2 n3 e=>b3.extBut _ o n3 (up2 c o n1 n2 e);have gt:IsPair (a3.push { cls:= .type "tuple",data:= .seq #[x,y] }) a3.objs.size x y:=Aa6 _ rfl;rw [sz] at gt;refine Aa5 ⟨_,rfl,?_⟩;show Q (.ref a3.objs.size) _;rw [sz];refine fin _ ⟨⟨true,v,Aa3 _ (b3.extBut _ _ D.i2z.symm (b2.extBut _ _ D.i1z.symm za))⟩,⟨o,Aa3 _ (up3 t o nz n1 n2 ht)⟩,Aa3 _ (up3 TI _ D.TIz D.TIi1 D.TIi2 hTI),An i1a λ o e=>Aa3 _ (b3.extBut _ o D.i12 e),An i2a λ o e=>Aa3 _ e⟩ gt λ c o c1 c2 c3 e=>Aa3 _ (up3 c o c1 c2 c3 e)
theorem Oq {TI TO t:Addr} {k:Nat} {xs:Array Value} {Q:Fin->Shared->Prop} (hh:A.handled=none) (D:ZipApart z TI TO i1 i2 l1 l2) (Z:ZipAg t1 t2 s.heap z TI i1 i2 l1 l2 t k)
    (q1:A8 t1 s.heap l1 xs) (hend:xs[k]?=none)
    (fin:∀ h' e,(∀ c o,c≠z->c≠i1->s.heap.get? c=some o->h'.get? c=some o)->(∃ o,h'.get? e=some o/\o.cls= .type "StopIteration")->E (.ref e) { s with heap:=h' }):
    wpAny (model prog w) A (Builtin.«zip.__next__» ⟨[.ref z],[]⟩) Q E s:=by
  obtain ⟨⟨b,v,hz⟩,⟨o,ht⟩,hTI,g1,g2⟩:=Z;show wpAny _ _ (field (.ref z) 2 >>= _) _ _ _;refine Aa0 (Ab8 hz rfl (x:= .bool false) rfl ?_);show wpAny _ _ (field (.ref z) 3 >>= _) _ _ _;refine Aa0 (Ab8 hz rfl (x:= .ref TI) rfl (Aa0 (Ad8 hTI rfl ?_)));show wpAny _ _ (Builtin.SmallTypes.ownedTupleIsFree (.ref z) >>= _) _ _ _;refine Aa0 (J9 hz ht λ a1 za b1=> ?_);dsimp only;rw [if_neg Ab1];simp only [List.forIn_toArray,Ah1,Ai0];refine Aa0 (Aa0 (Aa0 (Ad5 ?_)));show wpAny _ _ (Builtin.SmallTypes.nextOf (.ref i1) >>= _) _ _ _;exact Aa0 (CG (s:={ s with heap:=a1 }) hh (An g1 λ o e=>b1.extBut _ o D.i1z e) (AX q1 λ o e=>b1.extBut _ o D.l1z e) hend λ a2 e b2 he=>fin a2 e (λ c o n1 n2 q=>b2 _ _ n2 (b1.extBut _ _ n1 q)) he)
end
theorem zk_slot:Slot "zip" "__getattribute__" "zip.__getattribute__":= .of (owner:="zip") (n:="__getattribute__") (by rw [typeLookup_type,builtinLookup_eq_fast];kernel_rfl) (by decide +kernel) (by decide +kernel) (by decide +kernel) (by first | exact .inl (by decide +kernel) | exact .inr (by decide +kernel)) (by rw [isSubtype_type];kernel_rfl)
theorem Pf:entryFor table "zip.__getattribute__"=some Builtin.«object.__getattribute__» := entryFor_alias (id':="object.__getattribute__") (by kernel_rfl) (by decide +kernel) (by decide +kernel) (by kernel_rfl)
theorem Q4:typeLookup (.type "zip") "keys"=pure none:=by rw [typeLookup_type,builtinLookup_eq_fast];kernel_rfl
theorem Y6:typeLookup (.type "zip") "__getattr__"=pure none:=by rw [typeLookup_type,builtinLookup_eq_fast];kernel_rfl
theorem QR (a b:Value):argsOk "zip.__getattribute__" ⟨[a,b],[]⟩:=by
  unfold argsOk;rw [signature?_of (id:="zip.__getattribute__") (n:=['_', '_', 'e', 't', 'u', 'b', 'i', 'r', 't', 't', 'a', 't', 'e', 'g', '_', '_']) (o:=['p', 'i', 'z']) (by kernel_rfl) F.owner_zip];kernel_rfl
theorem Om (a:Addr) (fs:Array Value) (u:Tok):Meets (Builtin.«object.__getattribute__» ⟨[.ref a, .str "keys" u],[]⟩) (λ A R s=>s.heap.get? a=some { cls:= .type "zip",data:= .fields fs }/\raisesAttr (.ref a) "keys" A R s):=
  Meets.of_wp λ prog w A R s hs=>by
    obtain ⟨hp,g,d,tk,os⟩:=s;obtain ⟨hx,hs⟩:=hs;have hT:(⟨hp,g,d,tk,os⟩:Shared).TypeIs (.ref a) "zip":=⟨_,hx,rfl⟩;have f9:=Q4;unfold Builtin.«object.__getattribute__»
    repeat (any_goals (first | assumption | wp_step))
    exact wpAny_raiseAttrError hs.1 hs.2 (attrMsg_fits (by decide +kernel) (by size_fits))
theorem QM {fs:Array Value} {Q:Option Value->Shared->Prop} (hx:s.heap.get? a=some { cls:= .type "zip",data:= .fields fs }) (hA:A.handled=none)
    (h:∀ h' tk e,Heap.NewExcOf s.heap h' e "AttributeError"->Q none { s with heap:=h',toks:=tk }):wpAny (model prog w) A (getAttr? (.ref a) "keys") Q E s:=by
  obtain ⟨hp,g,d,tk,os⟩:=s;have hT:∀ tk',(⟨hp,g,d,tk',os⟩:Shared).TypeIs (.ref a) "zip":=λ _=>⟨_,hx,rfl⟩;have f1:=sub_AttributeError;have f3:=zk_slot.lookup;have f4:=zk_slot.bind (.ref a);have f5:=Y6;unfold getAttr? getAttrBy? getAttrBy
  repeat (any_goals (first | assumption | exact hT _ | ((with_reducible show wpAny _ _ (call (Value.builtin "zip.__getattribute__") _ _) _ _ _);refine call_meets zk_slot (hT _) Pf (QR _ _) (Om a fs _) ⟨hx,hA,λ h' tk' e hx'=> ?_⟩) | wp_step))
  obtain ⟨t',u',he⟩:=hx'.there;show wpAny _ _ (getattributeRaised _ _ _ _ _ _ _) _ _ _;unfold getattributeRaised
  repeat (any_goals (first | assumption | wp_step))
  exact h _ _ _ hx'.of
section
def Zst (t1 t2:Bool) (h:Heap) (z TI TO i1 i2 l1 l2:Addr) (k:Nat):Prop:=ZipSt t1 t2 h z TI TO i1 i2 l1 l2 k\/∃ t,ZipAg t1 t2 h z TI i1 i2 l1 l2 t k/\t≠i1/\t≠i2/\t≠z
theorem Zst.ty {TI TO:Addr} {k:Nat} (Z:Zst t1 t2 s.heap z TI TO i1 i2 l1 l2 k):s.TypeIs (.ref z) "zip":=by
  rcases Z with Z | ⟨t,⟨⟨b,v,hz⟩,_,_,_,_⟩,_⟩
  · exact ⟨_,Z.hz,rfl⟩
  · exact ⟨_,hz,rfl⟩
theorem Zst.at' {TI TO:Addr} {k:Nat} (Z:Zst t1 t2 h z TI TO i1 i2 l1 l2 k) (n:∀ c∈[z,TI,TO,i1,i2],c≠D) (kp:∀ c o,c≠D->h.get? c=some o->h'.get? c=some o) (hD:∃ o,h'.get? D=some o):Zst t1 t2 h' z TI TO i1 i2 l1 l2 k:=by
  have kz:=λ o=>kp z o (n z (by simp));have kTI:=λ o=>kp TI o (n TI (by simp));have kTO:=λ o=>kp TO o (n TO (by simp));have k1:=λ o=>kp i1 o (n i1 (by simp));have k2:=λ o=>kp i2 o (n i2 (by simp));rcases Z with ⟨hz,hTI,⟨c,d,hTO⟩,h1,h2⟩ | ⟨t,⟨⟨b,v,hz⟩,⟨o,ht⟩,hTI,h1,h2⟩,n1⟩
  · exact .inl ⟨kz _ hz,kTI _ hTI,⟨c,d,kTO _ hTO⟩,An h1 λ o e=>k1 o e,An h2 λ o e=>k2 o e⟩
  · refine .inr ⟨t,⟨⟨b,v,kz _ hz⟩,?_,kTI _ hTI,An h1 λ o e=>k1 o e,An h2 λ o e=>k2 o e⟩,n1⟩;by_cases e:t=D
    · rw [e];exact hD
    · exact ⟨o,kp t o e ht⟩
theorem OQ {TI TO:Addr} {k:Nat} {xs ys:Array Value} {x y:Value} {Q:Option Value->Shared->Prop} (D:ZipApart z TI TO i1 i2 l1 l2) (Z:Zst t1 t2 s.heap z TI TO i1 i2 l1 l2 k)
    (q1:A8 t1 s.heap l1 xs) (q2:A8 t2 s.heap l2 ys) (hx:xs[k]?=some x) (hy:ys[k]?=some y)
    (fin:∀ h',Zst t1 t2 h' z TI TO i1 i2 l1 l2 (k+1)->IsPair h' s.heap.objs.size x y->(∀ c o,c∉[z,TI,TO,i1,i2]->s.heap.get? c=some o->h'.get? c=some o)->Q (some (.ref s.heap.objs.size)) { s with heap:=h' }):
    wpAny (model prog w) A (pyNext (.ref z)) Q E s:=by
  have hT0:=Z.ty;unfold pyNext;rcases Z with Z | ⟨t,Z,n1,n2,nz⟩
  · have l1':i1<s.heap.objs.size:=by obtain ⟨_,e,_⟩:=A4 Z.h1;exact Aa8 e
    have l2':i2<s.heap.objs.size:=by obtain ⟨_,e,_⟩:=A4 Z.h2;exact Aa8 e
    have lz:z<s.heap.objs.size:=Aa8 Z.hz;refine Aa0 (Af7 (Ab4 (name:=Str.ofString "__next__") hT0 F.slot_zip_next (Ab9 F.slot_zip_next hT0 F.entry_zip_next
      (Kb D Z q1 q2 hx hy λ h' hz' hTO' h1' h2' hT hk=>Aa5 ?_) (F.args_zip_next_1 _))))
    refine fin h' (.inr ⟨s.heap.objs.size,⟨⟨false, .ref TO,hz'⟩,⟨_,hT⟩,hk TI _ D.TIz D.TITO D.TIi1 D.TIi2 Z.hTI,h1',h2'⟩,Ah0 l1',Ah0 l2',Ah0 lz⟩) hT λ c o n e=> ?_;exact hk c o (λ q=>n (by simp [q])) (λ q=>n (by simp [q])) (λ q=>n (by simp [q])) (λ q=>n (by simp [q])) e
  · refine Aa0 (Af7 (Ab4 (name:=Str.ofString "__next__") hT0 F.slot_zip_next (Ab9 F.slot_zip_next hT0 F.entry_zip_next
      (Ny D Z n1 n2 nz q1 q2 hx hy λ h' Z' hT hk=>Aa5 ?_) (F.args_zip_next_1 _))))
    exact fin h' (.inr ⟨t,Z',n1,n2,nz⟩) hT λ c o n e=>hk c o (λ q=>n (by simp [q])) (λ q=>n (by simp [q])) (λ q=>n (by simp [q])) e
theorem Q9 {TI TO:Addr} {k:Nat} {xs ys:Array Value} {Q:Option Value->Shared->Prop} (hh:A.handled=none) (D:ZipApart z TI TO i1 i2 l1 l2) (Z:Zst t1 t2 s.heap z TI TO i1 i2 l1 l2 k)
    (q1:A8 t1 s.heap l1 xs) (q2:A8 t2 s.heap l2 ys) (hend:xs[k]?=none)
    (fin:∀ h',(∀ c o,c∉[z,TI,TO,i1,i2]->s.heap.get? c=some o->h'.get? c=some o)->Q none { s with heap:=h' }):
    wpAny (model prog w) A (pyNext (.ref z)) Q E s:=by
  have hT0:=Z.ty;unfold pyNext;rcases Z with Z | ⟨t,Z,n1,n2,nz⟩
  · refine Aa0 (Af7 (Ab4 (name:=Str.ofString "__next__") hT0 F.slot_zip_next (Ab9 F.slot_zip_next hT0 F.entry_zip_next
      (Ln hh D Z q1 q2 (.inl hend) λ h' e eb he=> ?_) (F.args_zip_next_1 _))))
    obtain ⟨oe,eo,ce⟩:=he;refine Aa0 (Ah8 (T:="StopIteration") (b:=true) ⟨oe,eo,ce⟩ isSubtype_stop (Aa5 ?_));exact fin h' λ c o n e=>eb c o (λ q=>n (by simp [q])) (λ q=>n (by simp [q])) (λ q=>n (by simp [q])) (λ q=>n (by simp [q])) e
  · refine Aa0 (Af7 (Ab4 (name:=Str.ofString "__next__") hT0 F.slot_zip_next (Ab9 F.slot_zip_next hT0 F.entry_zip_next
      (Oq hh D Z q1 hend λ h' e eb he=> ?_) (F.args_zip_next_1 _))))
    obtain ⟨oe,eo,ce⟩:=he;refine Aa0 (Ah8 (T:="StopIteration") (b:=true) ⟨oe,eo,ce⟩ isSubtype_stop (Aa5 ?_));exact fin h' λ c o n e=>eb c o (λ q=>n (by simp [q])) (λ q=>n (by simp [q])) e
theorem KY:entryFor table "dict.update.loop"=some Builtin.«dict.update.loop» := entryFor_of_tree (by kernel_rfl)
theorem FG:plainId "dict.update.loop"=true:=by decide +kernel
end
section
theorem NO {k:Key} {r:Value} {Q:Unit->Shared->Prop} (I:Inv X pins σ H s) (e:H a=some (.dK kvs)) (l:kvs.length<sizeLine) (ry:RelV (kV k) u) (rv:RelV v r)
    (h:∀ h',Inv X pins σ (upd H a (.dK (IL kvs k v))) { s with heap:=h',toks:=s.toks+1 }->Heap.SameBut a s.heap h'->(∃ q,h'.get? a=some q)->Q () { s with heap:=h',toks:=s.toks+1 }):wpAny (model X.prog X.w) A (dictSet a u r) Q E s:=by
  obtain ⟨z,hd,vs,rel,dd⟩:=MZ I.hok e;have hz:vs.length<=sizeLine:=by rw [<-rel.length];exact z
  have hl:(IL kvs k v).length<=sizeLine:=by have:=G0 kvs k v;omega
  refine wpAny_dictSet_pairs (hsz:=hz) (M0 ry) dd λ h' dd' hs=> ?_;have he:∃ q,h'.get? a=some q:=let ⟨q,_,_,hq,_⟩:=dd';⟨q,hq⟩;exact h h' (Kz I (by rw [e];exact True.intro) hs he (Mw hl hd (rel.put k rv) dd')) hs he
theorem Dw {tp:Bool} {K:PySem.W.Frag} (h:SqS tp K H a xs) (s:Same H H'):SqS tp K H' a xs:=by
  cases tp with
  | false=>exact s.seq (show SqL K H a xs from h)
  | true=>
    rcases (show SqT K H a xs from h) with (h | ⟨o,h⟩) | h
    · exact (show SqT K H' a xs from .inl (.inl (s _ _ h)))
    · exact (show SqT K H' a xs from .inl (.inr ⟨o,s _ _ h⟩))
    · exact (show SqT K H' a xs from .inr h)
theorem LB (l:List (Key × V)) (p:Key × V):AR [] (l++[p])=IL (AR [] l) p.1 p.2:=by
  unfold AR;rw [List.foldl_append];rfl
theorem Pj {TI TO:Addr} {H0:Hp} {ks:List Key} {R:Result->Shared->Prop} (hA:A.in1.handled=none) (DA:ZipApart z TI TO i1 i2 a b) (nD:∀ c∈[z,TI,TO,i1,i2],c≠D) (hl:ks.length=ys.length) (h15:ks.length<=15)
    (hq1:SqS t1 X.K (bar D H0) a (ks.map kV)) (hq2:SqS t2 X.K (bar D H0) b ys):∀ (m i:Nat) (s:Shared) (H:Hp),ks.length - i=m->i<=ks.length->Inv X pins σ H s->(∀ c∈[z,TI,TO,i1,i2],Dk X pins H c)->(∀ c∈[z,TI,TO,i1,i2],c<s.heap.objs.size)->
      Zst t1 t2 s.heap z TI TO i1 i2 a b i->Same (bar D H0) H->H D=some (.dK (AR [] ((ks.zip ys).take i)))->(∀ s' H',Inv X pins σ H' s'->Same (bar D H0) H'->H' D=some (.dK (AR [] (ks.zip ys)))->R (.ok (.ret .none)) s')->
      codeAny (model X.prog X.w) A (.builtin "dict.update.loop" ⟨[.ref D, .ref z,rawInt i, .none],[]⟩) R s:=by
  intro m
  induction m with
  | zero=>
    intro i s H hm hi I f lt Z sm hD hR;have e:i=ks.length:=by omega
    subst e;obtain ⟨its,rv,p1⟩:=A0 I (Dw hq1 sm);obtain ⟨its2,rv2,p2⟩:=A0 I (Dw hq2 sm);have hl1:=rv.length;rw [Aa1] at hl1;refine codeAny_builtin KY ?_;rw [Around.under_plainId FG _];show wpAny _ A.in1 (pyNext (.ref z) >>= _) _ _ s;refine Aa0 (Q9 hA DA Z p1 p2 (by simp;omega) λ h' hk=> ?_);have I1:=Inv.turnedL (t':=s.toks) (h':=h') [z,TI,TO,i1,i2] I f λ c o hc q=>hk c o hc q;rw [Af5 (by rw [List.length_zip];omega)] at hD;exact Aa0 (Aa5 (Aa5 (hR _ H I1 sm hD)))
  | succ m ih=>
    intro i s H hm hi I f lt Z sm hD hR;have hlt:i<ks.length:=by omega
    obtain ⟨its,rv,p1⟩:=A0 I (Dw hq1 sm);obtain ⟨its2,rv2,p2⟩:=A0 I (Dw hq2 sm);obtain ⟨u,hu,ru⟩:=rv.get (show (ks.map kV)[i]?=some (kV ks[i]) by simp [hlt]);obtain ⟨u2,hu2,ru2⟩:=rv2.get (show ys[i]?=some (ys[i]'(by omega)) by simp [show i<ys.length by omega]);refine codeAny_builtin KY ?_;rw [Around.under_plainId FG _];show wpAny _ A.in1 (pyNext (.ref z) >>= _) _ _ s;refine Aa0 (OQ DA Z p1 p2 (x:=u) (y:=u2) (by simpa using hu) (by simpa using hu2) λ h' Z' hT hk=> ?_);have I0:=I.laid (h':=s.heap.push { cls:= .type "tuple",data:= .seq #[u,u2] }) (a:=s.heap.objs.size) (o:= .tup [kV ks[i],ys[i]'(by omega)]) (t':=s.toks) (λ _ _ q=>Aa3 _ q) (Aa7 _)
      ⟨(by show 2<=sizeLine;decide),[u,u2], .cons ru (.cons ru2 .nil),⟨_,Aa6 _ rfl,rfl,_,rfl⟩⟩
    have f0:∀ c∈[z,TI,TO,i1,i2],Dk X pins (upd H s.heap.objs.size (.tup [kV ks[i],ys[i]'(by omega)])) c:=λ c hc=>EE (f c hc) (Ab6 (lt c hc));have I1:=Inv.turnedL (t':=s.toks) (h':=h') [z,TI,TO,i1,i2] I0 f0 (λ c o hc q=>by
      rcases Ah2 (show (s.heap.push { cls:= .type "tuple",data:= .seq #[u,u2] }).get? c=some o from q) with ⟨q1,q2⟩ | q
      · rw [q1,q2];exact hT
      · exact hk c o hc q)
    have fr:H s.heap.objs.size=none:=I.fresh;have nsD:D≠s.heap.objs.size:=λ z=>by rw [z,fr] at hD;cases hD
    have hD1:upd H s.heap.objs.size (.tup [kV ks[i],ys[i]'(by omega)]) D=some (.dK (AR [] ((ks.zip ys).take i))):=by rw [Ai nsD];exact hD
    have lk:(AR [] ((ks.zip ys).take i)).length<sizeLine:=by
      have h1:=BL ((ks.zip ys).take i) [];rw [List.length_nil,Af6] at h1;rw [sizeLine_eq];omega
    show wpAny _ _ (holding [Value.ref s.heap.objs.size] _ >>= _) _ _ _;refine Aa0 (Ad5 (Aa0 (wpAny_tryCatch ?_)));unfold Builtin.Dict.pairItems;refine Aa0 (wpAny_typeOf (T:="tuple") ⟨_,hT,rfl⟩ ?_);rw [if_pos (by decide)];refine Aa0 (Ad8 hT rfl (Aa5 ?_));show wpAny _ _ (holding [u,u2] (dictSet D u u2)) _ _ _;refine Ad5 (NO I1 hD1 lk ru ru2 λ h2 I2 sb he=> ?_);refine Aa5 ⟨plainId_quiet FG _,?_⟩;show codeAny _ A (.builtin "dict.update.loop" ⟨[.ref D, .ref z,rawInt ((i:Int)+1), .none],[]⟩) R _;rw [show ((i:Int)+1)=((i+1:Nat):Int) by omega];have gr:s.heap.objs.size<h'.objs.size:=Aa8 hT;refine ih (i+1) _ _ (by omega) hlt I2 (λ c hc=>EE (f0 c hc) (nD c hc)) (λ c hc=> ?_) (Z'.at' nD (λ c o n e=>(sb.2 c n).trans e) he) (λ c o e=> ?_) ?_ hR
    · show c<h2.objs.size;rw [show h2.objs.size=h'.objs.size from sb.1];exact Nat.lt_trans (lt c hc) gr
    · have nc:c≠D:=λ y=>by rw [y,show bar D H0 D=none from if_pos rfl] at e;cases e
      have e1:=sm c o e;have nc2:c≠s.heap.objs.size:=λ y=>by rw [y,fr] at e1;cases e1
      rw [Ai nc,Ai nc2];exact e1
    · have e9:(ks.zip ys).take (i+1)=(ks.zip ys).take i++[(ks[i],ys[i]'(by omega))]:=by
        rw [List.take_add_one,Aa4 (by rw [List.length_zip];omega),List.getElem_zip];rfl
      rw [Af,e9,LB]
theorem Pr {TI TO:Addr} {ks:List Key} {Q:Value->Shared->Prop} (hA:A.handled=none) (DA:ZipApart z TI TO i1 i2 a b) (I:Inv X pins σ H s) (f:∀ c∈[z,TI,TO,i1,i2],Dk X pins H c) (lt:∀ c∈[z,TI,TO,i1,i2],c<s.heap.objs.size)
    (Z:ZipSt t1 t2 s.heap z TI TO i1 i2 a b 0) (hq1:SqS t1 X.K H a (ks.map kV)) (hq2:SqS t2 X.K H b ys) (hl:ks.length=ys.length) (h15:ks.length<=15)
    (k:∀ s' H' p,Inv X pins σ H' s'->Same H H'->H p=none->H' p=some (.dK (AR [] (ks.zip ys)))->Q (.ref p) s'):wpAny (model X.prog X.w) A (call (.type "dict") [.ref z]) Q E s:=by
  refine callType_codes (Q₁:=λ v s2=>v= .ref s.heap.objs.size/\s2={ s with heap:=s.heap.push { cls:= .type "dict",data:= .dict #[] } }) F.kt_called_dict (F.kt_typeCall_dict_1 _) F.entry_dict_init (kt_code_dict_new _ ⟨rfl,rfl⟩) ?_;rintro _ _ ⟨rfl,rfl⟩;have fr:H s.heap.objs.size=none:=I.fresh;have I1:=I.laid (a:=s.heap.objs.size) (o:= .dK []) (h':=s.heap.push { cls:= .type "dict",data:= .dict #[] }) (t':=s.toks) (λ _ _ q=>Aa3 _ q) (Aa7 _) (HV s.heap I.big);have gd:(s.heap.push { cls:= .type "dict",data:= .dict #[] }).get? s.heap.objs.size=some { cls:= .type "dict",data:= .dict #[] }:=Aa6 _ rfl;have sz:(s.heap.push { cls:= .type "dict",data:= .dict #[] }).objs.size=s.heap.objs.size+1:=Ad7 ..;have nD:∀ c∈[z,TI,TO,i1,i2],c≠s.heap.objs.size:=λ c hc=>Ab6 (lt c hc);have kp1:∀ c o,s.heap.get? c=some o->(s.heap.push { cls:= .type "dict",data:= .dict #[] }).get? c=some o:=λ c o e=>Aa3 _ e;generalize s.heap.push { cls:= .type "dict",data:= .dict #[] }=h1 at I1 gd sz kp1 ⊢;have zg:h1.get? z=some _:=kp1 z _ Z.hz;have tD:({ s with heap:=h1 }:Shared).TypeIs (.ref s.heap.objs.size) "dict":=⟨_,gd,rfl⟩;refine ⟨tD,F.args_dict_init_2 _ _,?_⟩;unfold Builtin.«dict.__init__»;refine Aa0 ?_;unfold Builtin.Dict.selfAndRest;refine Aa0 (wpAny_notOrdered_dict tD ?_);show wpAny _ _ (pure (s.heap.objs.size,[Value.ref z])) _ _ _;refine Aa5 ?_;show wpAny _ _ (Builtin.Dict.updateFrom "dict.__init__" s.heap.objs.size (.ref z) [] .none) _ _ _;unfold Builtin.Dict.updateFrom;refine Aa0 (wpAny_typeOf (T:="zip") ⟨_,zg,rfl⟩ ?_);rw [if_pos (by decide)];refine Aa0 (QM zg (show A.in1.in1.handled=none from hA) λ h2 tk e hx=> ?_);have kp2:∀ c o,h1.get? c=some o->h2.get? c=some o:=hx.keeps;have I2:=I1.kept (t':=tk) kp2;have sH:Same H (bar s.heap.objs.size (upd H s.heap.objs.size (.dK []))):=λ c o q=>by
    have nc:c≠s.heap.objs.size:=λ y=>by rw [y,fr] at q;cases q
    exact (if_neg nc).trans ((Ai nc).trans q)
  have kp:∀ c o,s.heap.get? c=some o->h2.get? c=some o:=λ c o q=>kp2 c o (kp1 c o q);show wpAny _ _ (rule _ >>= _) _ _ _;refine Aa0 (wpAny_rule (Aa0 (wpAny_pyIter_zip (kp z _ Z.hz) (Aa5 ⟨plainId_quiet FG _,?_⟩))));obtain ⟨c0,d0,hTO⟩:=Z.hTO;refine Pj (A:=A.in1) (H0:=upd H s.heap.objs.size (.dK [])) (show A.in1.in1.handled=none from hA) DA nD hl h15 (Dw hq1 sH) (Dw hq2 sH) ks.length 0 _ _ rfl (Ad3 _) I2 (λ c hc=>EE (f c hc) (nD c hc)) (λ c hc=> ?_) (.inl ⟨kp z _ Z.hz,kp TI _ Z.hTI,⟨c0,d0,kp TO _ hTO⟩,An Z.h1 λ o q=>kp i1 o q,An Z.h2 λ o q=>kp i2 o q⟩) IQ Af λ s' H' I' sm hD=>⟨rfl,k s' H' _ I' (sH.trans sm) fr hD⟩;exact Nat.lt_trans (lt c hc) (Aa8 (kp2 _ _ gd))
def K8 (K:PySem.W.Frag) (ta:TA):TE:=λ σ H Q=>ta σ H λ vs H1=>∃ (t1 t2:Bool) (a b:Addr) (ks:List Key) (ys:List V),vs=[.ref a, .ref b]/\SqS t1 K H1 a (ks.map kV)/\SqS t2 K H1 b ys/\ks.length=ys.length/\ks.length<=15/\
  ∀ H' p,Same H1 H'->H1 p=none->H' p=some (.dK (AR [] (ks.zip ys)))->Q (.ref p) H'
end
section
variable {K:PySem.W.Frag}
theorem LZ {l m:Expr} {p p2 pos2:Pos} (hg:Gl X "zip") (hm:X.mg "zip"=none) (hg2:Gl X "dict") (hm2:X.mg "dict"=none) (ha:PA X [l,m] ta) (hc:X.calm=true:=by rfl) (hK:X.K=K:=by rfl) (hs:starEach [l,m] X.env=[(false,eval l X.env),(false,eval m X.env)]:=by rfl) (hs2:starEach [m] X.env=[(false,eval m X.env)]:=by rfl)
    (h3:starEach [Expr.Call (.Name "zip" p) [l,m] [] pos] X.env=(false,eval (.Call (.Name "zip" p) [l,m] [] pos) X.env)::starEach [] X.env:=by rfl):
    PE X (.Call (.Name "dict" p2) [.Call (.Name "zip" p) [l,m] [] pos] [] pos2) (K8 K ta):=by
  subst hK;intro pins s σ H Q I h;refine Call_ (Cd I hg2 hm2 PyProof.Rows.boot_dict (PyProof.Rows.callWith_type1 ?_ h3 rfl));rw [h3];show wpAny _ _ (spliced ((false,eval (.Call (.Name "zip" p) [l,m] [] pos) X.env)::backTo pos2 (starEach [] X.env))) _ _ s;refine Calls.spliced_cons ?_;refine Call_ (Cd I hg hm IG (PyProof.Rows.callWith_type1 (thn (ha pos pins s σ H _ I h) λ us s1 ⟨vs,H1,I1,r1,q1⟩=> ?_) (by rw [hs,hs2]) (by rw [hs2];rfl)));obtain ⟨t1,t2,a,b,ks,ys,e,hq,hq2,hl,h15,q⟩:=q1;subst e;cases r1 with
  | cons r rr=>
    cases rr with
    | cons r' rr=>
    cases rr;cases r;cases r';obtain ⟨its,rv,pl⟩:=A0 I1 hq;obtain ⟨its2,rv2,pl2⟩:=A0 I1 hq2;obtain ⟨oa,_,ea,_⟩:=BQ pl;obtain ⟨ob,_,eb,_⟩:=BQ pl2;refine GJ pl pl2 λ h' st hk=> ?_;have I2:=I1.kept (t':=s1.toks) hk;have fp:∀ c∈[s1.heap.objs.size+4,s1.heap.objs.size+2,s1.heap.objs.size+3,s1.heap.objs.size,s1.heap.objs.size+1],s1.heap.objs.size<=c/\c<=s1.heap.objs.size+4:=λ c hc=>by
      simp only [Ab2,Ac7,or_false] at hc;rcases hc with q | q | q | q | q <;> subst q <;> exact ⟨by omega,by omega⟩
    refine Calls.spliced_nil ?_;refine Pr (I.ok.hd hc) (PySem.W.ktu_apart s1.heap.objs.size a b (Aa8 ea) (Aa8 eb)) I2 (λ c hc=>I1.fpOk (fp c hc).1 (I1.hok.fresh (fp c hc).1)) (λ c hc=>Nat.lt_of_le_of_lt (fp c hc).2 (Aa8 st.hz)) st hq hq2 hl h15 λ s' H' pp I' sm fr hD=> ?_;exact ⟨.ref pp,H',I',rfl,q H' pp sm fr hD⟩
end
def rUpd:V->List V->Hp->VK->Prop:=λ x xs H Q=>∃ (a b:Addr) (kvs more:List (Key × V)),x= .ref a/\xs=[.ref b]/\a≠b/\H a=some (.dK kvs)/\H b=some (.dK more)/\kvs.length+more.length<=1000/\Q .non (upd H a (.dK (AR kvs more)))
theorem Of:MtR X "dict.update" rUpd:=by
  intro pins s σ H x vs v us Q I rx rv h;obtain ⟨a,b,kvs,more,rfl,rfl,hne,ha,hb,hz,q⟩:=h;cases rx;obtain ⟨u,rfl,ru⟩:=rv.one;cases ru;obtain ⟨z1,d1,vs1,r1,dd1⟩:=MZ I.hok ha;obtain ⟨z2,d2,vs2,r2,dd2⟩:=MZ I.hok hb;have hl:(AR kvs more).length<=sizeLine:=by
    have:=BL more kvs;rw [sizeLine_eq];omega
  refine call_meetsIn PySem.F.slot_dict_update dd1.typeIs PySem.F.entry_dict_update (PySem.F.args_dict_update_2 _ _) (meets_dict_update (Bj X.prog X.w) a b hne d2) ⟨vs1,vs2,dd1,dd2,by rw [<-r1.length, <-r2.length,sizeLine_eq];omega,λ h' dd' _ hs=> ?_⟩;have he:∃ q,h'.get? a=some q:=let ⟨q,_,_,hq,_⟩:=dd';⟨q,hq⟩;exact ⟨.non,_,Kz I (by rw [ha];exact True.intro) hs he (Mw hl d1 (r2.merge r1) dd'),rfl,q⟩
theorem Sk {more:List (Key × V)} (hne:a≠b) (ha:H a=some (.dK kvs)) (hb:H b=some (.dK more)) (hz:kvs.length+more.length<=1000) (q:Q .non (upd H a (.dK (AR kvs more)))):rUpd (.ref a) [.ref b] H Q:=⟨a,b,kvs,more,rfl,rfl,hne,ha,hb,hz,q⟩
theorem Mj {K:PySem.W.Frag} (h:ta σ H λ vs H1=>∃ (t1 t2:Bool) (a b:Addr) (ks:List Key) (ys:List V),vs=[.ref a, .ref b]/\SqS t1 K H1 a (ks.map kV)/\SqS t2 K H1 b ys/\ks.length=ys.length/\ks.length<=15/\
  ∀ H' p,Same H1 H'->H1 p=none->H' p=some (.dK (AR [] (ks.zip ys)))->Q (.ref p) H'):K8 K ta σ H Q:=h
end L2
namespace L2
open PySem PySem.Spec PyProof.Rows
def Se (P:Program) (w:World) (K:PySem.W.Frag) (mg:Str->Option Value) (base:Heap) (k:Nat) (f:Addr) (sp:Sp):Prop:=
  ∃ fd ps,PySem.W.keepIn K (.ref f)=true/\FnOk P w K mg base (CXE P w) k f fd ps sp/\Binds K fd ps []
theorem CallE.val {K:PySem.W.Frag} {x:Str} {k:Nat} (h:CallE P w K mg base x k ps sp):∃ f,mg x=some (.ref f)/\Se P w K mg base k f sp:=
  let ⟨f,fd,hm,hk,F,hb⟩:=h;⟨f,hm,fd,ps,hk,F,hb⟩
structure FnA (K:PySem.W.Frag) (m q:Str) (st:Stmt) (ps:List Str) (f:Addr) (fd:FuncData):Prop where
  fn:Fun K m q st f fd
  bi:Binds K fd ps []
section
variable {K:PySem.W.Frag} {m q x:Str} {st:Stmt}
theorem def_mk (a:mg x=some (.ref f)) (F:Fun K x x st f fd) (b:∀ us:List Value,us.length=ps.length->bindArgs fd ⟨us,[]⟩=pure (ps.zip us)):DefAt K mg x st ps f fd:=⟨F,a, .all b⟩
theorem fnA_mk (F:Fun K m q st f fd) (b:∀ us:List Value,us.length=ps.length->bindArgs fd ⟨us,[]⟩=pure (ps.zip us)):FnA K m q st ps f fd:=⟨F, .all b⟩
theorem exc_mk (a:PySem.W.isClsIn K C=true) (b:PySem.W.findIn K (.ref C) "__getattribute__"=some (some (.builtin "BaseException.__getattribute__"))) (c:PySem.W.findIn K (.ref C) "__getattr__"=some none) (d:PySem.W.mroIn K C (.type "BaseException")=some true) (e:PySem.W.findIn K (.ref C) "__class__"=some (some (.builtin "object.__class__")))
    (f:PySem.W.specialIn K (.builtin "object.__class__") "__get__"=some (some (.builtin "getset_descriptor.__get__"))) (g:PySem.W.takesIn K (.builtin "object.__class__")=some true) (h:PySem.W.mroIn K C (.type "object")=some true):HT.ExcKind K C:=⟨a,b,c,d,e,f,g,h⟩
theorem ci_mk {n:Int} {t:Tok} (h:mg x=some (.int n t)):∃ t,mg x=some (.int n t):=⟨t,h⟩
theorem cs_mk {z:Str} {t:Tok} (h:mg x=some (.str z t)):∃ t,mg x=some (.str z t):=⟨t,h⟩
theorem own_nil:Own mg []:=λ _ h=>by cases h
theorem own_cons {xs:List Str} (a:mg x=none) (h:Own mg xs):Own mg (x::xs):=λ y hy=>by
  rcases Ab2.mp hy with rfl | hy
  · exact a
  · exact h y hy
end
section
variable {κ:Type} [DecidableEq κ] (kd:KeyKind prog w κ)
inductive Rows2 (h:Heap):List (List κ)->List Value->Prop
  | nil:Rows2 h [] []
  | cons {k:List κ} {b:Addr} {r:List (List κ)} {us:List Value} (e:IsTupleKey kd h k b) (m:Rows2 h r us):Rows2 h (k::r) (.ref b::us)
variable {kd}
theorem Rows2.len {r:List (List κ)} {us:List Value} (p:Rows2 kd h r us):r.length=us.length:=by
  induction p with
  | nil=>rfl
  | cons _ _ ih=>rw [Ac6,Ac6,ih]
end
abbrev En2:=List (List Key) × Addr × Addr
def en2 (x:En2):List (List Key) × Addr × Value:=(x.1,x.2.1, .ref x.2.2)
end L2
namespace HT
open PySem PySem.Spec PyProof.Rows PySem.W
def rawIt (it d:Addr) (i n ep:Nat) (p q x y:Value) (h:Heap):Prop:=
  h.get? it=some ⟨.type "dict_itemiterator",none, .fields #[p,q, .ref d, .int i 0, .int n 0, .int ep 0,x,y], #[]⟩
theorem rawIt.type {d:Addr} {p q x y:Value} (z:rawIt it d i n ep p q x y s.heap):s.TypeIs (.ref it) "dict_itemiterator":=⟨_,z,rfl⟩
def Zx (k v:Value):Obj:=⟨.type "tuple",none, .seq #[k,v], #[]⟩
def rawOwn (it S:Addr) (p q:Value) (h:Heap):Prop:=(p= .none/\q= .bool false)\/∃ a f oa,p=rawInt ((a:Nat):Int)/\q= .bool f/\h.get? a=some oa/\a≠it/\a≠S
theorem rawOwn.to {S:Addr} {p q:Value} (z:rawOwn it S p q h) (k:∀ b o,b≠it->b≠S->h.get? b=some o->h'.get? b=some o):rawOwn it S p q h':=
  z.imp id λ ⟨a,f,oa,h1,h2,h3,h4,h5⟩=>⟨a,f,oa,h1,h2,k a oa h4 h5 h3,h4,h5⟩
def RSt (it d S:Addr) (i n ep:Nat) (h:Heap):Prop:=∃ p q x y,rawIt it d i n ep p q x y h/\rawOwn it S p q h
theorem RSt.to {d S:Addr} (z:RSt it d S i n ep h) (ne:it≠S) (k:∀ b o,b≠S->h.get? b=some o->h'.get? b=some o):RSt it d S i n ep h':=
  let ⟨p,q,x,y,h1,h2⟩:=z;⟨p,q,x,y,k _ _ ne h1,h2.to λ b o _ hs=>k b o hs⟩
structure PairsAt (es:Array DictEntry) (lo:Addr) (h:Heap) (as:List Addr):Prop where
  up:as.Pairwise (· < ·)
  lo:∀ a∈as,lo<a
  at':∀ (j:Nat) (a:Addr),as[j]?=some a->∃ e,es[j]?=some e/\h.get? a=some (Zx e.key e.val)
theorem PairsAt.to {es:Array DictEntry} {lo:Addr} {h h':Heap} {as:List Addr} (g:PairsAt es lo h as) (k:∀ b o,lo<b->h.get? b=some o->h'.get? b=some o):PairsAt es lo h' as:=
  ⟨g.up,g.lo,λ j a hj=>let ⟨e,h1,h2⟩:=g.at' j a hj;⟨e,h1,k a _ (g.lo a (List.mem_of_getElem? hj)) h2⟩⟩
end HT
namespace L2
open PySem PySem.Spec PyProof.Rows
variable {o:Expr} {to:TE} {name:Str} {cpos:Pos} {id:String}
end L2
namespace L2
open PySem PySem.Spec PyProof.Rows
inductive Ov (H:Hp):V->Prop
  | d {v:V} {d:Dt} (r:Rp H FT 1 v d):Ov H v
  | dic {a:Addr} (h:H a=some (.dK [])):Ov H (.ref a)
def Yd (K:PySem.W.Frag) (n:Nat) (t:TGs):TG:=λ v σ H Q=>∃ a xs,v= .ref a/\(SqL K H a xs\/SqT K H a xs)/\xs.length=n/\t xs σ H Q
theorem Sv {K:PySem.W.Frag} {k:Nat} {t:TGs} (hc:X.calm=true) (h:PGs X es t) (hK:X.K=K:=by rfl)
    (hn:(assignEach es X.env).length=n:=by rfl) (hst:(assignEach es X.env).findIdx? (·.1)=none:=by rfl):PG X (.Tuple es k pos) (Yd K n t):=by
  subst hK;intro pins s σ H v u Q I r hw;obtain ⟨a,xs,e1,hq,hl,hw⟩:=hw;subst e1;cases r;rcases hq with hq | hq
  · obtain ⟨its,rv,pl,hz⟩:=I.list hq;rw [assign_Tuple];refine Aa0 (wpAny_standAt ?_);unfold unpack;rw [hst,show (assignEach es X.env).length=its.toArray.size by simp [hn, <-hl,rv.length]];refine Aa0 (Ad5 (PySem.W.kun_itemsOf (I.ok.hd hc) pl.isList λ h' hx=> ?_));have I1:Inv X pins σ H { s with heap:=h' }:=I.kept (t':=s.toks) λ b o e=>hx b o (Ab6 (Aa8 e)) e;exact h pins _ σ H xs _ Q I1 (by simpa using rv) hw
  · obtain ⟨its,rv,ht,hz⟩:=I.tuple hq;refine assign_Tuple_tuple (I.ok.hd hc) ht (by simp [hn, <-hl,rv.length]) hst λ h' hx=> ?_;have I1:Inv X pins σ H { s with heap:=h' }:=I.kept (t':=s.toks) λ b o e=>hx b o (Ab6 (Aa8 e)) e;exact h pins _ σ H xs _ Q I1 (by simpa using rv) hw
theorem Ow {K:PySem.W.Frag} {t:TGs} (h:SqL K H a xs) (l:xs.length=n) (k:t xs σ H QS):Yd K n t (.ref a) σ H QS:=⟨a,xs,rfl, .inl h,l,k⟩
def Yh (K:PySem.W.Frag):V->Option Int->Option Int->Hp->VK->Prop:=λ x lo hi H Q=>∃ tp a xs,x= .ref a/\SqS tp K H a xs/\∀ H' p,Same H H'->SqS tp K H' p (Em xs lo hi)->Q (.ref p) H'
theorem Kg {K:PySem.W.Frag} (hK:X.K=K:=by rfl):SlR X (Yh K):=by
  subst hK;intro pins s σ H x v vl vu lo hi sl Q I rx hs pl pu h;obtain ⟨tp,a,xs,rfl,hx,q⟩:=h;cases tp with
  | true=>exact ZZ rfl pins s σ H _ v vl vu lo hi sl Q I rx hs pl pu ⟨a,xs,rfl,hx,λ H' p s' h'=>q H' p s' h'⟩
  | false=>exact Nj pins s σ H _ v vl vu lo hi sl Q I rx hs pl pu ⟨a,xs,rfl,hx,λ p hp=>q _ p (Aj hp) (SqL.of Af)⟩
theorem Gh {K:PySem.W.Frag} {tp:Bool} (c:SqS tp K H a xs) (h:∀ H' p,Same H H'->SqS tp K H' p (Em xs lo hi)->Q (.ref p) H'):Yh K (.ref a) lo hi H Q:=⟨tp,a,xs,rfl,c,h⟩
theorem DG {K:PySem.W.Frag} {tp:Bool} (c:SqS tp K H a xs) (h:∀ q,H q=none->Q (.ref q) (upd H q (.lst xs))):FK K [.ref a] H Q:=by
  cases tp with
  | true=>exact Bi c h
  | false=>exact Fa c h
section
theorem K0 {M:Model} {Q:Option Obj->Shared->Prop} (h:Q (s.heap.get? a) s):wpAny M A (loadIfAlive a) Q E s:=λ Γ p hΓ=>by
  unfold loadIfAlive;rw [Sem.wp_loadIfAlive];simpa using h
abbrev IsZ (h:Heap) (z TI TO:Addr) (f0 f1:Value):Prop:=h.get? z=some { cls:= .type "zip",dict:=none,data:= .fields #[f0,f1, .bool false, .ref TI, .ref TO],slots:= #[] }
structure ZSt (t1 t2:Bool) (h:Heap) (z TI TO i1 i2 l1 l2:Addr) (k:Nat):Prop where
  hz:∃ f0 b,IsZ h z TI TO f0 (.bool b)/\(f0= .none\/∃ a:Nat,f0=rawInt a)
  hTI:IsPair h TI (.ref i1) (.ref i2)
  hTO:∃ c d,IsPair h TO c d
  h1:By t1 h i1 l1 k
  h2:By t2 h i2 l2 k
theorem RB {TI TO:Addr} {f0:Value} {b:Bool} {Q:Bool->Shared->Prop} (hz:IsZ s.heap z TI TO f0 (.bool b)) (hf:f0= .none\/∃ a:Nat,f0=rawInt a) (hT:Q true s)
    (hF:∀ h',IsZ h' z TI TO f0 (.bool true)->Heap.SameBut z s.heap h'->Q false { s with heap:=h' }):wpAny (model prog w) A (Builtin.SmallTypes.ownedTupleIsFree (.ref z)) Q E s:=by
  unfold Builtin.SmallTypes.ownedTupleIsFree;refine Aa0 (Ab8 hz rfl (x:=f0) rfl ?_);rcases hf with rfl | ⟨a,rfl⟩
  · exact Aa5 hT
  · show wpAny _ _ (loadIfAlive _ >>= _) _ _ _;refine Aa0 (K0 ?_);cases hg:s.heap.get? (Int.toNat (a:Int)) with
    | none=>exact Aa5 hT
    | some o=>
      show wpAny _ _ (field (.ref z) 1 >>= _) _ _ _;refine Aa0 (Ab8 hz rfl (x:= .bool b) rfl ?_);cases b with
      | true=>exact Aa5 (hF s.heap hz ⟨rfl,λ _ _=>rfl⟩)
      | false=>
        show wpAny _ _ (setField (.ref z) 1 (.bool true) >>= _) _ _ _;exact Aa0 (Ac1 hz (by simp) λ h' hz' sb=>Aa5 (hF h' hz' sb))
theorem Ra {TI TO:Addr} {k:Nat} {xs ys:Array Value} {x y:Value} {Q:Value->Shared->Prop} (D:ZipApart z TI TO i1 i2 l1 l2) (Z:ZSt t1 t2 s.heap z TI TO i1 i2 l1 l2 k)
    (q1:A8 t1 s.heap l1 xs) (q2:A8 t2 s.heap l2 ys) (hx:xs[k]?=some x) (hy:ys[k]?=some y)
    (fin:∀ h',ZSt t1 t2 h' z TI TO i1 i2 l1 l2 (k+1)->IsPair h' s.heap.objs.size x y->h'.objs.size=s.heap.objs.size+1->
      (∀ c o,c≠z->c≠TO->c≠i1->c≠i2->s.heap.get? c=some o->h'.get? c=some o)->Q (.ref s.heap.objs.size) { s with heap:=h' }):
    wpAny (model prog w) A (Builtin.«zip.__next__» ⟨[.ref z],[]⟩) (λ fin s'=>∃ v,fin= .done (.ret v)/\Q v s') E s:=by
  obtain ⟨⟨f0,b,hz,hf⟩,hTI,⟨c0,d0,hTO⟩,g1,g2⟩:=Z;show wpAny _ _ (field (.ref z) 2 >>= _) _ _ _;refine Aa0 (Ab8 hz rfl (x:= .bool false) rfl ?_);show wpAny _ _ (field (.ref z) 3 >>= _) _ _ _;refine Aa0 (Ab8 hz rfl (x:= .ref TI) rfl (Aa0 (Ad8 hTI rfl ?_)));show wpAny _ _ (Builtin.SmallTypes.ownedTupleIsFree (.ref z) >>= _) _ _ _;refine Aa0 (RB hz hf ?_ λ a1 za b1=> ?_)
  · simp only [if_true];refine Aa0 (wpAny_rule (Aa0 (Ab8 hz rfl (x:= .ref TO) rfl (Aa0 (Ac1 hz (by simp) λ a1 za b1=> ?_)))));replace za:IsZ a1 z TI TO .ellipsis (.bool b):=za;refine Aa0 ?_;simp only [List.zipIdx_cons,List.zipIdx_nil,Ah1,Ai0];refine Aa0 (Aa0 (wpAny_onRaise ?_));show wpAny _ _ (Builtin.SmallTypes.nextOf (.ref i1) >>= _) _ _ _;refine Aa0 (Bv (s:={ s with heap:=a1 }) (An g1 λ o e=>b1.extBut _ o D.i1z e) (AX q1 λ o e=>b1.extBut _ o D.l1z e) hx λ a2 i1a b2=>Aa5 ?_);have to2:IsPair a2 TO c0 d0:=b2.extBut _ _ D.TOi1 (b1.extBut _ _ D.TOz hTO);refine Aa0 (Ad8 to2 rfl (Aa0 (Ah3 to2 λ a3 to3 b3=> ?_)));replace to3:IsPair a3 TO x d0:=to3;refine Aa0 (wpAny_letGo (Aa5 (Aa0 (Aa0 (wpAny_onRaise ?_)))));show wpAny _ _ (Builtin.SmallTypes.nextOf (.ref i2) >>= _) _ _ _;have up3:∀ c o,c≠z->c≠i1->c≠TO->s.heap.get? c=some o->a3.get? c=some o:=λ c o n1 n2 n3 e=>b3.extBut _ o n3 (b2.extBut _ o n2 (b1.extBut _ o n1 e));refine Aa0 (Bv (s:={ s with heap:=a3 }) (An g2 λ o e=>up3 _ o D.i2z D.i12.symm D.TOi2.symm e) (AX q2 λ o e=>up3 _ o D.l2z D.l2i1 D.l2TO e) hy λ a4 i2a b4=>Aa5 ?_);have to4:IsPair a4 TO x d0:=b4.extBut _ _ D.TOi2 to3;refine Aa0 (Ad8 to4 rfl (Aa0 (Ah3 to4 λ a5 to5 b5=> ?_)));replace to5:IsPair a5 TO x y:=to5;refine Aa0 (wpAny_letGo (Aa5 (Aa5 (Aa0 (Ad8 to5 rfl (Aa0 (wpAny_newTuple ?_)))))));have sz:a5.objs.size=s.heap.objs.size:=by rw [b5.1,b4.1,b3.1,b2.1,b1.1]
    have z5:IsZ a5 z TI TO .ellipsis (.bool b):=b5.extBut _ _ D.TOz.symm (b4.extBut _ _ D.i2z.symm (b3.extBut _ _ D.TOz.symm (b2.extBut _ _ D.i1z.symm za)));have k5:∀ c o,c≠z->c≠TO->c≠i1->c≠i2->s.heap.get? c=some o->a5.get? c=some o:=λ c o n1 n2 n3 n4 e=>b5.extBut _ _ n2 (b4.extBut _ _ n4 (up3 c o n1 n3 n2 e));have f1:By t1 a5 i1 l1 (k+1):=An i1a λ o e=>b5.extBut _ o D.TOi1.symm (b4.extBut _ o D.i12 (b3.extBut _ o D.TOi1.symm e));have f2:By t2 a5 i2 l2 (k+1):=An i2a λ o e=>b5.extBut _ o D.TOi2.symm e;have zlt:z<a5.objs.size:=Aa8 z5;show wpAny _ _ (Builtin.SmallTypes.ownedTupleHandOut (.ref z) (.ref a5.objs.size) >>= _) _ _ _;refine Aa0 ?_;unfold Builtin.SmallTypes.ownedTupleHandOut;have z6:IsZ (a5.push { cls:= .type "tuple",data:= .seq #[x,y] }) z TI TO .ellipsis (.bool b):=Aa3 _ z5;refine Aa0 (Ac1 z6 (by simp) λ a7 z7 b7=> ?_);replace z7:IsZ a7 z TI TO (rawInt a5.objs.size) (.bool b):=z7;refine Ac1 z7 (by simp) λ a8 z8 b8=> ?_;replace z8:IsZ a8 z TI TO (rawInt a5.objs.size) (.bool false):=z8;have up:∀ c o,c≠z->a5.get? c=some o->a8.get? c=some o:=λ c o n e=>b8.extBut _ _ n (b7.extBut _ _ n (Aa3 _ e));have t8:IsPair a8 a5.objs.size x y:=b8.extBut _ _ (Ah0 zlt) (b7.extBut _ _ (Ah0 zlt) (Aa6 _ rfl));have s8:a8.objs.size=s.heap.objs.size+1:=by rw [b8.1,b7.1,Ad7,sz]
    rw [sz] at t8;refine Aa5 ⟨_,rfl,?_⟩;show Q (.ref a5.objs.size) _;rw [sz];exact fin a8 ⟨⟨_,_,z8, .inr ⟨_,rfl⟩⟩,up _ _ D.TIz (k5 TI _ D.TIz D.TITO D.TIi1 D.TIi2 hTI),⟨_,_,up _ _ D.TOz to5⟩,An f1 λ o e=>up _ o D.i1z e,An f2 λ o e=>up _ o D.i2z e⟩ t8 s8 λ c o n1 n2 n3 n4 e=>up c o n1 (k5 c o n1 n2 n3 n4 e)
  · simp only [Ag1,if_false];refine Aa0 ?_;simp only [<-Array.forIn_toList,Ah1,Ai0];refine Aa0 (Aa0 (Ad5 ?_));show wpAny _ _ (Builtin.SmallTypes.nextOf (.ref i1) >>= _) _ _ _;refine Aa0 (Bv (s:={ s with heap:=a1 }) (An g1 λ o e=>b1.extBut _ o D.i1z e) (AX q1 λ o e=>b1.extBut _ o D.l1z e) hx λ a2 i1a b2=>Aa5 (Aa5 ?_));refine Aa0 (Aa0 (Ad5 ?_));show wpAny _ _ (Builtin.SmallTypes.nextOf (.ref i2) >>= _) _ _ _;have up2:∀ c o,c≠z->c≠i1->s.heap.get? c=some o->a2.get? c=some o:=λ c o n1 n2 e=>b2.extBut _ o n2 (b1.extBut _ o n1 e);refine Aa0 (Bv (s:={ s with heap:=a2 }) (An g2 λ o e=>up2 _ o D.i2z D.i12.symm e) (AX q2 λ o e=>up2 _ o D.l2z D.l2i1 e) hy λ a4 i2a b4=>Aa5 (Aa5 (Aa5 ?_)));refine Aa0 (wpAny_newTuple ?_ (by show 2<=sizeLine;decide));have sz:a4.objs.size=s.heap.objs.size:=by rw [b4.1,b2.1,b1.1]
    refine Aa5 ⟨_,rfl,?_⟩;show Q (.ref a4.objs.size) _;have k4:∀ c o,c≠z->c≠i1->c≠i2->s.heap.get? c=some o->a4.get? c=some o:=λ c o n1 n2 n3 e=>b4.extBut _ _ n3 (up2 c o n1 n2 e);have pu:∀ c o,a4.get? c=some o->(a4.push { cls:= .type "tuple",data:= .seq #[x,y] }).get? c=some o:=λ c o e=>Aa3 _ e;have t8:IsPair (a4.push { cls:= .type "tuple",data:= .seq #[x,y] }) a4.objs.size x y:=Aa6 _ rfl;have s8:(a4.push { cls:= .type "tuple",data:= .seq #[x,y] }).objs.size=s.heap.objs.size+1:=by rw [Ad7,sz]
    rw [sz] at t8 ⊢;exact fin _ ⟨⟨_,_,pu _ _ (b4.extBut _ _ D.i2z.symm (b2.extBut _ _ D.i1z.symm za)),hf⟩,pu _ _ (k4 _ _ D.TIz D.TIi1 D.TIi2 hTI),⟨_,_,pu _ _ (k4 _ _ D.TOz D.TOi1 D.TOi2 hTO)⟩,An (An i1a λ o e=>b4.extBut _ o D.i12 e) λ o e=>pu _ o e,An i2a λ o e=>pu _ o e⟩ t8 s8 λ c o n1 n2 n3 n4 e=>pu c o (k4 c o n1 n3 n4 e)
theorem TF {TI TO:Addr} {k:Nat} {xs ys:Array Value} {Q:Fin->Shared->Prop} (hh:A.handled=none) (D:ZipApart z TI TO i1 i2 l1 l2) (Z:ZSt t1 t2 s.heap z TI TO i1 i2 l1 l2 k)
    (q1:A8 t1 s.heap l1 xs) (q2:A8 t2 s.heap l2 ys) (hend:xs[k]?=none\/ys[k]?=none)
    (fin:∀ h' e,(∀ c o,c≠z->c≠TO->c≠i1->c≠i2->s.heap.get? c=some o->h'.get? c=some o)->(∃ o,h'.get? e=some o/\o.cls= .type "StopIteration")->E (.ref e) { s with heap:=h' }):
    wpAny (model prog w) A (Builtin.«zip.__next__» ⟨[.ref z],[]⟩) Q E s:=by
  obtain ⟨⟨f0,b,hz,hf⟩,hTI,⟨c0,d0,hTO⟩,g1,g2⟩:=Z;show wpAny _ _ (field (.ref z) 2 >>= _) _ _ _;refine Aa0 (Ab8 hz rfl (x:= .bool false) rfl ?_);show wpAny _ _ (field (.ref z) 3 >>= _) _ _ _;refine Aa0 (Ab8 hz rfl (x:= .ref TI) rfl (Aa0 (Ad8 hTI rfl ?_)));show wpAny _ _ (Builtin.SmallTypes.ownedTupleIsFree (.ref z) >>= _) _ _ _;refine Aa0 (RB hz hf ?_ λ a1 za b1=> ?_)
  · simp only [if_true];refine Aa0 (wpAny_rule (Aa0 (Ab8 hz rfl (x:= .ref TO) rfl (Aa0 (Ac1 hz (by simp) λ a1 za b1=> ?_)))));replace za:IsZ a1 z TI TO .ellipsis (.bool b):=za;refine Aa0 ?_;simp only [List.zipIdx_cons,List.zipIdx_nil,Ah1,Ai0];refine Aa0 (Aa0 (wpAny_onRaise ?_));show wpAny _ _ (Builtin.SmallTypes.nextOf (.ref i1) >>= _) _ _ _;have g1':=An g1 λ o e=>b1.extBut _ o D.i1z e;have q1':=AX q1 λ o e=>b1.extBut _ o D.l1z e;cases hx:xs[k]? with
    | none=>
      refine Aa0 (CG (s:={ s with heap:=a1 }) hh g1' q1' hx λ a2 e b2 he=> ?_);obtain ⟨oe,eo,ce⟩:=he;have z2:IsZ a2 z TI TO .ellipsis (.bool b):=b2 _ _ D.i1z.symm za;have nz:e≠z:=λ q=>by subst q;rw [z2] at eo;cases eo;simp at ce
      exact Ac1 z2 (by simp) λ a3 _ b3=>fin a3 e (λ c o n1 _ n3 _ q=>b3.extBut _ _ n1 (b2 _ _ n3 (b1.extBut _ _ n1 q))) ⟨oe,b3.extBut _ _ nz eo,ce⟩
    | some x=>
      have hy:ys[k]?=none:=by
        rcases hend with q | q
        · rw [hx] at q;cases q
        · exact q
      refine Aa0 (Bv (s:={ s with heap:=a1 }) g1' q1' hx λ a2 i1a b2=>Aa5 ?_);have to2:IsPair a2 TO c0 d0:=b2.extBut _ _ D.TOi1 (b1.extBut _ _ D.TOz hTO);refine Aa0 (Ad8 to2 rfl (Aa0 (Ah3 to2 λ a3 to3 b3=> ?_)));refine Aa0 (wpAny_letGo (Aa5 (Aa0 (Aa0 (wpAny_onRaise ?_)))));show wpAny _ _ (Builtin.SmallTypes.nextOf (.ref i2) >>= _) _ _ _;have up3:∀ c o,c≠z->c≠i1->c≠TO->s.heap.get? c=some o->a3.get? c=some o:=λ c o n1 n2 n3 e=>b3.extBut _ o n3 (b2.extBut _ o n2 (b1.extBut _ o n1 e));refine Aa0 (CG (s:={ s with heap:=a3 }) hh (An g2 λ o e=>up3 _ o D.i2z D.i12.symm D.TOi2.symm e) (AX q2 λ o e=>up3 _ o D.l2z D.l2i1 D.l2TO e) hy λ a4 e b4 he=> ?_);obtain ⟨oe,eo,ce⟩:=he;have z4:IsZ a4 z TI TO .ellipsis (.bool b):=b4 _ _ D.i2z.symm (b3.extBut _ _ D.TOz.symm (b2.extBut _ _ D.i1z.symm za));have nz:e≠z:=λ q=>by subst q;rw [z4] at eo;cases eo;simp at ce
      exact Ac1 z4 (by simp) λ a5 _ b5=>fin a5 e (λ c o n1 n2 n3 n4 q=>b5.extBut _ _ n1 (b4 _ _ n4 (up3 c o n1 n3 n2 q))) ⟨oe,b5.extBut _ _ nz eo,ce⟩
  · simp only [Ag1,if_false];refine Aa0 ?_;simp only [<-Array.forIn_toList,Ah1,Ai0];refine Aa0 (Aa0 (Ad5 ?_));show wpAny _ _ (Builtin.SmallTypes.nextOf (.ref i1) >>= _) _ _ _;have g1':=An g1 λ o e=>b1.extBut _ o D.i1z e;have q1':=AX q1 λ o e=>b1.extBut _ o D.l1z e;cases hx:xs[k]? with
    | none=>exact Aa0 (CG (s:={ s with heap:=a1 }) hh g1' q1' hx λ a2 e b2 he=>fin a2 e (λ c o n1 _ n3 _ q=>b2 _ _ n3 (b1.extBut _ _ n1 q)) he)
    | some x=>
      have hy:ys[k]?=none:=by
        rcases hend with q | q
        · rw [hx] at q;cases q
        · exact q
      refine Aa0 (Bv (s:={ s with heap:=a1 }) g1' q1' hx λ a2 i1a b2=>Aa5 (Aa5 ?_));refine Aa0 (Aa0 (Ad5 ?_));show wpAny _ _ (Builtin.SmallTypes.nextOf (.ref i2) >>= _) _ _ _;have up2:∀ c o,c≠z->c≠i1->s.heap.get? c=some o->a2.get? c=some o:=λ c o n1 n2 e=>b2.extBut _ o n2 (b1.extBut _ o n1 e);exact Aa0 (CG (s:={ s with heap:=a2 }) hh (An g2 λ o e=>up2 _ o D.i2z D.i12.symm e) (AX q2 λ o e=>up2 _ o D.l2z D.l2i1 e) hy λ a4 e b4 he=>fin a4 e (λ c o n1 _ n3 n4 q=>b4 _ _ n4 (up2 c o n1 n3 q)) he)
theorem Q2 {TI TO:Addr} {k:Nat} {xs ys:Array Value} {x y:Value} {Q:Value->Shared->Prop} (D:ZipApart z TI TO i1 i2 l1 l2) (Z:ZSt t1 t2 s.heap z TI TO i1 i2 l1 l2 k)
    (q1:A8 t1 s.heap l1 xs) (q2:A8 t2 s.heap l2 ys) (hx:xs[k]?=some x) (hy:ys[k]?=some y)
    (fin:∀ h',ZSt t1 t2 h' z TI TO i1 i2 l1 l2 (k+1)->IsPair h' s.heap.objs.size x y->h'.objs.size=s.heap.objs.size+1->
      (∀ c o,c≠z->c≠TO->c≠i1->c≠i2->s.heap.get? c=some o->h'.get? c=some o)->Q (.ref s.heap.objs.size) { s with heap:=h' }):
    wpAny (model prog w) A (Builtin.SmallTypes.nextOf (.ref z)) Q E s:=by
  obtain ⟨f0,b,hz,hf⟩:=Z.hz;have hT:s.TypeIs (.ref z) "zip":=⟨_,hz,rfl⟩;unfold Builtin.SmallTypes.nextOf;exact Aa0 (Ab4 (name:=Str.ofString "__next__") hT F.slot_zip_next (Ab9 F.slot_zip_next hT F.entry_zip_next (Ra D Z q1 q2 hx hy λ h' Z' t' s' k'=>Aa5 (fin h' Z' t' s' k')) (F.args_zip_next_1 _)))
theorem ZSt.at {TI TO:Addr} {k:Nat} (Z:ZSt t1 t2 h z TI TO i1 i2 l1 l2 k) (kp:∀ b∈[z,TI,TO,i1,i2],∀ o,h.get? b=some o->h'.get? b=some o):ZSt t1 t2 h' z TI TO i1 i2 l1 l2 k:=by
  obtain ⟨⟨f0,b,hz,hf⟩,hTI,⟨c0,d0,hTO⟩,g1,g2⟩:=Z;exact ⟨⟨f0,b,kp z (by simp) _ hz,hf⟩,kp TI (by simp) _ hTI,⟨c0,d0,kp TO (by simp) _ hTO⟩,An g1 λ o q=>kp i1 (by simp) o q,An g2 λ o q=>kp i2 (by simp) o q⟩
theorem ZSt.lt {TI TO:Addr} {k:Nat} (Z:ZSt t1 t2 h z TI TO i1 i2 l1 l2 k):∀ q∈[z,TI,TO,i1,i2],q<h.objs.size:=λ q hq=>by
  obtain ⟨⟨f0,b,hz,hf⟩,hTI,⟨c0,d0,hTO⟩,g1,g2⟩:=Z;obtain ⟨_,e1,_⟩:=A4 g1;obtain ⟨_,e2,_⟩:=A4 g2;simp only [Ab2,Ac7,or_false] at hq;rcases hq with q' | q' | q' | q' | q'
  · subst q';exact Aa8 hz
  · subst q';exact Aa8 hTI
  · subst q';exact Aa8 hTO
  · subst q';exact Aa8 e1
  · subst q';exact Aa8 e2
theorem L5 {e TI TO:Addr} {k:Nat} {xs ys:Array Value} {x y old:Value} {Q:Value->Shared->Prop} (D:ZipApart z TI TO i1 i2 l1 l2) (he:IsEnum s.heap e z ((k+1:Nat):Int) old) (Z:ZSt t1 t2 s.heap z TI TO i1 i2 l1 l2 k) (hne:e∉[z,TI,TO,i1,i2])
    (q1:A8 t1 s.heap l1 xs) (q2:A8 t2 s.heap l2 ys) (hx:xs[k]?=some x) (hy:ys[k]?=some y)
    (hQ:∀ h' tk,IsEnumOut h' e z (((k+1:Nat):Int)+1) (.ref s.heap.objs.size) (s.heap.objs.size+1)->ZSt t1 t2 h' z TI TO i1 i2 l1 l2 (k+1)->IsPair h' s.heap.objs.size x y->
      h'.get? (s.heap.objs.size+1)=some { cls:= .type "tuple",data:= .seq #[.int ((k+1:Nat):Int) tk, .ref s.heap.objs.size] }->
      (∀ c o,c∉[e,z,TI,TO,i1,i2]->s.heap.get? c=some o->h'.get? c=some o)->Q (.ref (s.heap.objs.size+1)) { s with heap:=h',toks:=tk+1 }):
    wpAny (model prog w) A (Builtin.«enumerate.__next__» ⟨[.ref e],[]⟩) (λ fin s'=>∃ v,fin= .done (.ret v)/\Q v s') E s:=by
  obtain ⟨hp,g,d,tk,os⟩:=s;show wpAny _ _ (field (.ref e) 2 >>= _) _ _ _;refine Aa0 (Ab8 he rfl (x:= .ref z) rfl ?_);refine Aa0 (Q2 D Z q1 q2 hx hy λ h₁ Z₁ p₁ z₁ k₁=> ?_);have n1:e≠z:=λ q=>hne (by simp [q]);have n2:e≠TI:=λ q=>hne (by simp [q]);have n3:e≠TO:=λ q=>hne (by simp [q]);have n4:e≠i1:=λ q=>hne (by simp [q]);have n5:e≠i2:=λ q=>hne (by simp [q]);have nin:∀ b∈[z,TI,TO,i1,i2],b≠e:=λ b hb q=>hne (q▸hb);have hel:e<hp.objs.size:=Aa8 he;have he₁:IsEnum h₁ e z ((k+1:Nat):Int) old:=k₁ _ _ n1 n3 n4 n5 he;show wpAny _ _ (field (.ref e) 3 >>= _) _ _ ⟨h₁,g,d,tk,os⟩;refine Aa0 (Ab8 he₁ rfl (x:=rawInt ((k+1:Nat):Int)) rfl ?_);show wpAny _ _ (field (.ref e) 4 >>= _) _ _ ⟨h₁,g,d,tk,os⟩;refine Aa0 (Ab8 he₁ rfl (x:= .none) rfl ?_);show wpAny _ _ (mkInt ((k+1:Nat):Int) >>= _) _ _ ⟨h₁,g,d,tk,os⟩;refine Aa0 (wpAny_mkInt ?_);show wpAny _ _ (setField (.ref e) 3 (rawInt (((k+1:Nat):Int)+1)) >>= _) _ _ ⟨h₁,g,d,tk+1,os⟩;refine Aa0 (Ac1 he₁ (by simp) λ h₂ he₂ hs₂=> ?_);replace hs₂:Heap.SameBut e h₁ h₂:=hs₂;replace he₂:IsEnum h₂ e z (((k+1:Nat):Int)+1) old:=he₂;show wpAny _ _ (setField (.ref e) 4 .none >>= _) _ _ ⟨h₂,g,d,tk+1,os⟩;refine Aa0 (Ac1 he₂ (by simp) λ h₃ he₃ hs₃=> ?_);replace hs₃:Heap.SameBut e h₂ h₃:=hs₃;replace he₃:IsEnum h₃ e z (((k+1:Nat):Int)+1) old:=he₃;show wpAny _ _ (newTuple [.int ((k+1:Nat):Int) tk, .ref hp.objs.size] >>= _) _ _ ⟨h₃,g,d,tk+1,os⟩;refine Aa0 (wpAny_newTuple ?_);have he₄:IsEnum (h₃.push { cls:= .type "tuple",data:= .seq #[.int ((k+1:Nat):Int) tk, .ref hp.objs.size] }) e z (((k+1:Nat):Int)+1) old:=Aa3 _ he₃;generalize hh₄:h₃.push { cls:= .type "tuple",data:= .seq #[.int ((k+1:Nat):Int) tk, .ref hp.objs.size] }=h₄ at he₄;have hsz:h₃.objs.size=hp.objs.size+1:=by rw [hs₃.1,hs₂.1];exact z₁
  have ht₄:h₄.get? (hp.objs.size+1)=some { cls:= .type "tuple",data:= .seq #[.int ((k+1:Nat):Int) tk, .ref hp.objs.size] }:=by rw [<-hh₄, <-hsz];exact Aa6 _ rfl
  have up:∀ b o,b≠e->h₁.get? b=some o->h₄.get? b=some o:=λ b o hbe y=>by
    rw [<-hh₄];exact Aa3 _ (hs₃.extBut b o hbe (hs₂.extBut b o hbe y))
  have npe:hp.objs.size≠e:=Ah0 hel;have np1:hp.objs.size+1≠e:=Ah0 (Nat.lt_succ_of_lt hel);show wpAny _ _ (Builtin.SmallTypes.ownedTupleIsFree (.ref e) >>= _) _ _ ⟨h₄,g,d,tk+1,os⟩;rw [hsz];refine Aa0 ?_;unfold Builtin.SmallTypes.ownedTupleIsFree;refine Aa0 (Ab8 he₄ rfl (x:= .none) rfl (Aa5 ?_));simp only [if_true];refine Aa0 (wpAny_rule ?_);refine Aa0 (Ab8 he₄ rfl (x:=old) rfl ?_);refine Aa0 (Ac1 he₄ (by simp) λ h₅ he₅ hs₅=> ?_);replace hs₅:Heap.SameBut e h₄ h₅:=hs₅;replace he₅:IsEnum h₅ e z (((k+1:Nat):Int)+1) (.ref hp.objs.size):=he₅;show wpAny _ _ (Builtin.SmallTypes.ownedTupleHandOut (.ref e) (.ref (hp.objs.size+1)) >>= _) _ _ ⟨h₅,g,d,tk+1,os⟩;refine Aa0 ?_;unfold Builtin.SmallTypes.ownedTupleHandOut;refine Aa0 (Ac1 he₅ (by simp) λ h₆ he₆ hs₆=> ?_);replace hs₆:Heap.SameBut e h₅ h₆:=hs₆;replace he₆:IsEnumOut h₆ e z (((k+1:Nat):Int)+1) (.ref hp.objs.size) (hp.objs.size+1):=he₆;refine Ac1 he₆ (by simp) λ h₇ he₇ hs₇=> ?_;replace hs₇:Heap.SameBut e h₆ h₇:=hs₇;replace he₇:IsEnumOut h₇ e z (((k+1:Nat):Int)+1) (.ref hp.objs.size) (hp.objs.size+1):=he₇;have up7:∀ b o,b≠e->h₄.get? b=some o->h₇.get? b=some o:=λ b o hbe y=>hs₇.extBut b o hbe (hs₆.extBut b o hbe (hs₅.extBut b o hbe y));exact Aa0 (wpAny_letGo (Aa5 ⟨_,rfl,hQ h₇ tk he₇ (Z₁.at λ b hb o y=>up7 b o (nin b hb) (up b o (nin b hb) y)) (up7 _ _ npe (up _ _ npe p₁)) (up7 _ _ np1 ht₄) λ c o hc y=>by
    simp only [Ab2,Ac7,or_false,not_or] at hc;exact up7 _ _ hc.1 (up _ _ hc.1 (k₁ c o hc.2.1 hc.2.2.2.1 hc.2.2.2.2.1 hc.2.2.2.2.2 y))⟩))
end
def Q5 (t1 t2:Bool) (K:PySem.W.Frag) (a b:Addr):It:=
  ⟨λ i H=>∃ xs ys x y,SqS t1 K H a xs/\SqS t2 K H b ys/\xs[i]?=some x/\ys[i]?=some y,
   λ i H v H'=>∃ p q x y,H p=none/\H q=none/\p≠q/\v= .ref q/\H'=upd (upd H p (.tup [x,y])) q (.tup [.int ((i+1:Nat):Int), .ref p])/\(∀ xs,SqS t1 K H a xs->xs[i]?=some x)/\∀ ys,SqS t2 K H b ys->ys[i]?=some y,
   λ i H=>∃ xs ys,SqS t1 K H a xs/\SqS t2 K H b ys/\(xs.length<=i\/ys.length<=i)⟩
theorem Mu {K:PySem.W.Frag} {k:Nat} (t1 t2:Bool) (a b e z TI TO i1 i2:Addr) (D:ZipApart z TI TO i1 i2 a b) (hne:e∉[z,TI,TO,i1,i2]):
    Turn P w K (.Tuple elts k pos) (Q5 t1 t2 K a b) [e,z,TI,TO,i1,i2] e (λ i h=>(∃ old,IsEnum h e z ((i+1:Nat):Int) old)/\ZSt t1 t2 h z TI TO i1 i2 a b i) where
  mem:=by simp
  obj:=λ i h st c hc=>by
    obtain ⟨⟨old,he⟩,⟨f0,b,hz,hf⟩,hTI,⟨x,y,hTO⟩,h1,h2⟩:=st;obtain ⟨o1,e1,d1⟩:=A4 h1;obtain ⟨o2,e2,d2⟩:=A4 h2;simp only [Ab2,Ac7,or_false] at hc;rcases hc with q | q | q | q | q | q
    · subst q;exact ⟨_,he,λ v z=>by cases (show Data.fields _=Data.cell v from z)⟩
    · subst q;exact ⟨_,hz,λ v z=>by cases (show Data.fields _=Data.cell v from z)⟩
    · subst q;exact ⟨_,hTI,λ v z=>by cases (show Data.seq _ _=Data.cell v from z)⟩
    · subst q;exact ⟨_,hTO,λ v z=>by cases (show Data.seq _ _=Data.cell v from z)⟩
    · subst q;exact ⟨o1,e1,λ v z=>by rw [d1] at z;cases z⟩
    · subst q;exact ⟨o2,e2,λ v z=>by rw [d2] at z;cases z⟩
  keep:=λ i h h' st kp=>⟨let ⟨old,he⟩:=st.1;⟨old,kp e (by simp) _ he⟩,st.2.at λ b hb=>kp b (Ac9 _ hb)⟩
  item:=by
    intro X hP hw hK hc i pins s σ H E I hf st hg;subst hP hw hK;obtain ⟨xs,ys,x,y,hq1,hq2,hx,hy⟩:=hg;obtain ⟨its,rv,p1⟩:=A0 I hq1;obtain ⟨its2,rv2,p2⟩:=A0 I hq2;obtain ⟨u,hu,ru⟩:=rv.get hx;obtain ⟨u2,hu2,ru2⟩:=rv2.get hy;obtain ⟨⟨old,he⟩,Z⟩:=st;have lt:∀ q∈[e,z,TI,TO,i1,i2],q<s.heap.objs.size:=λ q hq=>by
      rcases Ab2.mp hq with q' | q'
      · rw [q'];exact Aa8 he
      · exact Z.lt q q'
    have hT:s.TypeIs (.ref e) "enumerate":=⟨_,he,rfl⟩;unfold pyNext;refine Aa0 (Af7 (Ab4 (name:=Str.ofString "__next__") hT F.slot_enumerate_next (Ab9 F.slot_enumerate_next hT F.entry_enumerate_next
      (L5 D he Z hne p1 p2 (x:=u) (y:=u2) (by simpa using hu) (by simpa using hu2) λ h' tk ho Z' hp1 hp2 hk=>Aa5 ?_) (F.args_enumerate_next_1 _))))
    have I0:=I.laid (h':=s.heap.push { cls:= .type "tuple",data:= .seq #[u,u2] }) (a:=s.heap.objs.size) (o:= .tup [x,y]) (t':=s.toks) (λ _ _ q=>Aa3 _ q) (Aa7 _)
      ⟨(by show 2<=sizeLine;decide),[u,u2], .cons ru (.cons ru2 .nil),⟨_,Aa6 _ rfl,rfl,_,rfl⟩⟩
    have sz:(s.heap.push { cls:= .type "tuple",data:= .seq #[u,u2] }).objs.size=s.heap.objs.size+1:=Ad7 ..;have g1:((s.heap.push { cls:= .type "tuple",data:= .seq #[u,u2] }).push { cls:= .type "tuple",data:= .seq #[.int ((i+1:Nat):Int) tk, .ref s.heap.objs.size] }).get? (s.heap.objs.size+1)=some { cls:= .type "tuple",data:= .seq #[.int ((i+1:Nat):Int) tk, .ref s.heap.objs.size] }:=by rw [<-sz];exact Aa6 _ rfl
    have I1:=I0.laid (h':=(s.heap.push { cls:= .type "tuple",data:= .seq #[u,u2] }).push { cls:= .type "tuple",data:= .seq #[.int ((i+1:Nat):Int) tk, .ref s.heap.objs.size] }) (a:=s.heap.objs.size+1) (o:= .tup [.int ((i+1:Nat):Int), .ref s.heap.objs.size]) (t':=tk+1) (λ _ _ q=>Aa3 _ q) (Nat.le_of_eq sz)
      ⟨(by show 2<=sizeLine;decide),[.int ((i+1:Nat):Int) tk, .ref s.heap.objs.size], .cons ⟨_,rfl⟩ (.cons rfl .nil),⟨_,g1,rfl,_,rfl⟩⟩
    have f0:∀ b∈[e,z,TI,TO,i1,i2],Dk X pins (upd (upd H s.heap.objs.size (.tup [x,y])) (s.heap.objs.size+1) (.tup [.int ((i+1:Nat):Int), .ref s.heap.objs.size])) b:=λ b hb=>EE (EE (hf b hb) (Ab6 (lt b hb))) (Ab6 (Nat.lt_succ_of_lt (lt b hb)));have I2:=Inv.turnedL (t':=tk+1) (h':=h') [e,z,TI,TO,i1,i2] I1 f0 (λ b o hb q=>by
      rcases Ah2 (show ((s.heap.push { cls:= .type "tuple",data:= .seq #[u,u2] }).push { cls:= .type "tuple",data:= .seq #[.int ((i+1:Nat):Int) tk, .ref s.heap.objs.size] }).get? b=some o from q) with ⟨q1,q2⟩ | q
      · rw [q1,q2,sz];exact hp2
      · rcases Ah2 q with ⟨q1,q2⟩ | q
        · rw [q1,q2];exact hp1
        · exact hk b o hb q)
    refine ⟨.ref (s.heap.objs.size+1),rfl,wpAny_letOwnedTupleGo_enum (s:={ s with heap:=h',toks:=tk+1 }) ho λ h3 he3 sb=> ?_⟩;refine ⟨.ref (s.heap.objs.size+1),_,Inv.turnedL (t':=tk+1) (h':=h3) [e,z,TI,TO,i1,i2] I2 f0 (λ b o hb q=>(sb.2 b λ e=>hb (by simp [e])).trans q),rfl,
      ⟨_,_,x,y,I.fresh,I.hok.fresh (Nat.le_succ _),Ab6 (Nat.lt_succ_self _),rfl,rfl,λ l hl=>by rw [FO I hl hq1];exact hx,λ l hl=>by rw [FO I hl hq2];exact hy⟩,
      ⟨⟨_,by simpa using he3⟩,Z'.at λ b hb o q=>(sb.2 b λ z=>hne (z▸hb)).trans q⟩,λ b hb=>(f0 b hb).1⟩
  done:=by
    intro X hP hw hK hc i pins s σ H E I hf st hg;subst hP hw hK;obtain ⟨xs,ys,hq1,hq2,hx⟩:=hg;obtain ⟨its,rv,p1⟩:=A0 I hq1;obtain ⟨its2,rv2,p2⟩:=A0 I hq2;have hl:=rv.length;have hl2:=rv2.length;obtain ⟨⟨old,he⟩,Z⟩:=st;have hT:s.TypeIs (.ref e) "enumerate":=⟨_,he,rfl⟩;obtain ⟨f0,b0,hz,_⟩:=Z.hz;have hTz:s.TypeIs (.ref z) "zip":=⟨_,hz,rfl⟩;unfold pyNext;refine Aa0 (Af7 (Ab4 (name:=Str.ofString "__next__") hT F.slot_enumerate_next (Ab9 F.slot_enumerate_next hT F.entry_enumerate_next ?_ (F.args_enumerate_next_1 _))));show wpAny _ _ (field (.ref e) 2 >>= _) _ _ _;refine Aa0 (Ab8 he rfl (x:= .ref z) rfl (Aa0 ?_));unfold Builtin.SmallTypes.nextOf;refine Aa0 (Ab4 (name:=Str.ofString "__next__") hTz F.slot_zip_next (Ab9 F.slot_zip_next hTz F.entry_zip_next
      (TF (I.ok.hd hc) D Z p1 p2 (hx.elim (λ q=> .inl (by simp;omega)) λ q=> .inr (by simp;omega)) λ h' x eb hx'=> ?_) (F.args_zip_next_1 _)))
    obtain ⟨o,ho,hc2⟩:=hx';exact Aa0 (Ah8 (T:="StopIteration") (b:=true) ⟨o,ho,hc2⟩ isSubtype_stop (Aa5 ⟨rfl,I.turnedL (t':=s.toks) [e,z,TI,TO,i1,i2] hf λ b o hb q=>eb b o (λ e=>hb (by simp [e])) (λ e=>hb (by simp [e])) (λ e=>hb (by simp [e])) (λ e=>hb (by simp [e])) q⟩))
  self:=λ _ _ _ _ _ st h=>by
    obtain ⟨⟨old,he⟩,_⟩:=st;exact wpAny_pyIter_enum he h
section
variable {k:Nat} {tpos:Pos} {K:PySem.W.Frag}
def OL (K:PySem.W.Frag) (ta:TA):TI:=λ σ H R=>ta σ H λ vs H1=>∃ t1 t2 a b,vs=[.ref a, .ref b]/\(∃ xs,SqS t1 K H1 a xs)/\(∃ ys,SqS t2 K H1 b ys)/\R (Q5 t1 t2 K a b) H1
theorem Sq {R:It->Hp->Prop} (h:ta σ H λ vs H1=>∃ t1 t2 a b,vs=[.ref a, .ref b]/\(∃ xs,SqS t1 K H1 a xs)/\(∃ ys,SqS t2 K H1 b ys)/\R (Q5 t1 t2 K a b) H1):OL K ta σ H R:=h
theorem Pa {l m:Expr} {p pz posz kp cp:Pos} {cj:Nat} (hg:Gl X "enumerate") (hm:X.mg "enumerate"=none) (hg2:Gl X "zip") (hm2:X.mg "zip"=none) (ha:PA X [l,m] ta) (hK:X.K=K:=by rfl)
    (hs:starEach [l,m] X.env=[(false,eval l X.env),(false,eval m X.env)]:=by rfl) (hs2:starEach [m] X.env=[(false,eval m X.env)]:=by rfl):
    PI X (.Tuple elts k tpos) (.Call (.Name "enumerate" p) [.Call (.Name "zip" pz) [l,m] [] posz] [⟨some "start", .Constant (.int 1) cj cp,kp⟩] pos) (OL K ta):=by
  subst hK;intro pins s σ H R I h;refine Ah9 (Cd I hg hm Gy (GT rfl rfl (PyProof.Rows.evalArgs_kw2 rfl ?_ rfl)));show wpAny _ _ (spliced ((false,eval (.Call (.Name "zip" pz) [l,m] [] posz) X.env)::backTo pos [])) _ _ s;refine Calls.spliced_cons (Call_ (Cd I hg2 hm2 IG (PyProof.Rows.callWith_type1 (thn (ha posz pins s σ H _ I h) λ us s1 ⟨vs,H1,I1,r1,q1⟩=> ?_) (by rw [hs,hs2]) (by rw [hs2];rfl))));obtain ⟨t1,t2,a,b,e,⟨xs,hq⟩,⟨ys,hq2⟩,q⟩:=q1;subst e;cases r1 with
  | cons r rr=>
    cases rr with
    | cons r' rr=>
    cases rr;cases r;cases r';obtain ⟨its,rv,pl⟩:=A0 I1 hq;obtain ⟨its2,rv2,pl2⟩:=A0 I1 hq2;obtain ⟨oa,_,ea,_⟩:=BQ pl;obtain ⟨ob,_,eb,_⟩:=BQ pl2;refine GJ pl pl2 λ h' st hk=>Calls.spliced_nil ?_;have I2:=I1.kept (t':=s1.toks) hk;have D:=PySem.W.ktu_apart s1.heap.objs.size a b (Aa8 ea) (Aa8 eb);refine PyProof.Rows.kwAll_cons (wpAny_Constant_int (PyProof.Rows.kwAll_nil ?_));have Z:ZSt t1 t2 h' _ _ _ _ _ a b 0:=⟨⟨_,_,st.hz, .inl rfl⟩,st.hTI,st.hTO,st.h1,st.h2⟩;refine II (wpAny_pyIter_zip st.hz ⟨_,rfl,λ h2 he hk2 hsz=> ?_⟩);refine wpAny_pyIter_enum he ?_;have I3:=(I2.tok (s1.toks+1)).kept (t':=s1.toks+1) hk2;have ne:h'.objs.size∉[s1.heap.objs.size+4,s1.heap.objs.size+2,s1.heap.objs.size+3,s1.heap.objs.size,s1.heap.objs.size+1]:=λ z=>Nat.lt_irrefl _ (Z.lt _ z);refine ⟨_,[_,_,_,_,_,_],_,_,H1,rfl,I3,Mu t1 t2 a b _ _ _ _ _ _ D ne,⟨⟨_,he⟩,Z.at λ b _ o y=>hk2 b o y⟩,λ c hc=> ?_,q⟩;have hb':s1.heap.objs.size<=c:=by
      simp only [Ab2,Ac7,or_false] at hc;have:=Z.lt s1.heap.objs.size (by simp);rcases hc with q | q | q | q | q | q <;> rw [q] <;> first | exact Aa7 _ | exact Nat.le_add_right _ _ | exact Nat.le_of_lt this
    exact I1.fpOk hb' (I1.hok.fresh hb')
theorem Rm {te:TE} {zs:List V} (hlen:xs.length=zs.length) (Pv:Nat->List V->Hp->Prop) (h0:Pv 0 [] (upd H D (.lst [])))
    (hl:∀ i ys H,i<=xs.length->Pv i ys H->SqS t1 K H a xs/\SqS t2 K H b zs)
    (hs:∀ i x z ys H p q,xs[i]?=some x->zs[i]?=some z->Pv i ys H->H p=none->H q=none->p≠q->Kp σ0 ((σ0.set 0 (some (.int ((i+1:Nat):Int)))).set 1 (some (.ref p)))/\tc ((σ0.set 0 (some (.int ((i+1:Nat):Int)))).set 1 (some (.ref p))) (upd (upd H p (.tup [x,z])) q (.tup [.int ((i+1:Nat):Int), .ref p])) λ b H3=>
      if b=true then te ((σ0.set 0 (some (.int ((i+1:Nat):Int)))).set 1 (some (.ref p))) H3 λ y H4=>H4 D=some (.lst ys)/\ys.length<sizeLine/\Pv (i+1) (ys++[y]) (upd H4 D (.lst (ys++[y]))) else Pv (i+1) ys H3)
    (hd:∀ ys H,Pv xs.length ys H->Q (.ref D) H):
    EV (Q5 t1 t2 K a b) σ0 (JD K 2 (CB (A5 0) (CB (A5 1) KO))) tc te Q H D:=by
  refine ⟨λ i m ys H=>m=xs.length - i/\i<=xs.length/\Pv i ys H,⟨_,rfl,Ad3 _,h0⟩,?_⟩;rintro i m ys H ⟨rfl,hi,p⟩;obtain ⟨q1,q2⟩:=hl i ys H hi p;by_cases hlt:i<xs.length
  · refine .inr ⟨⟨xs,zs,xs[i],zs[i]'(by omega),q1,q2,by simp [hlt],by simp⟩,Pv (i+1),λ ys' H' p'=>⟨xs.length - (i+1),by omega,rfl,hlt,p'⟩,λ x H' y=> ?_⟩;obtain ⟨pp,qq,v,z,hp,hq,ne,rfl,rfl,hv,hz⟩:=y;exact ⟨qq,_,rfl,SqT.of Af,rfl,_,_,rfl,_,_,rfl,rfl,hs i v z ys H pp qq (hv xs q1) (hz zs q2) p hp hq ne⟩
  · have e:i=xs.length:=by omega
    subst e;exact .inl ⟨⟨xs,zs,q1,q2, .inl (Aa7 _)⟩,hd ys H p⟩
end
def rInsert:V->List V->Hp->VK->Prop:=λ x vs H Q=>∃ l xs,∃ i:Int,∃ y,x= .ref l/\vs=[.int i,y]/\H l=some (.lst xs)/\0<=i/\i<=xs.length/\xs.length<100000/\Q .non (upd H l (.lst (xs.take i.toNat++y::xs.drop i.toNat)))
theorem J4:MtM X "list.insert" rInsert:=by
  intro pins s σ H x vs v us Q I rx rv h;obtain ⟨l,xs,i,y,rfl,rfl,hH,h1,h2,hz,q⟩:=h;cases rx;cases rv with
  | cons ri rr=>
    cases rr with
    | cons ry rr=>
    cases rr;obtain ⟨t,rfl⟩:=ri
    rename_i u
    obtain ⟨z,its,n,r,hl,e⟩:=I.lstM hH;have sz:sizeLine=16777216:=by decide
    refine call_meets F.slot_list_insert ⟨_,e,rfl⟩ F.entry_list_insert (F.args_list_insert_3 _ _ _)
      (AutoSeq1.list_insert_list_int_val_1 l its.toArray n i t u (by rw [fitsIndex_both (by omega) (by omega)];simp) (by rw [Ab0];omega)) ⟨e,?_⟩
    refine ⟨.non,_,I.lset (its':=its.take i.toNat++u::its.drop i.toNat) hH e ?_ ((r.take _).append (.cons ry (r.drop _))) ?_,rfl,q⟩
    · have n0:¬ i<0:=by omega
      have m0:min i.toNat its.length=i.toNat:=by omega
      simp [n0,m0];exact Af5 (by simp)
    · rw [Ac0,Ac6,Af6,List.length_drop];omega
end L2
open L2
local macro_rules | `(tactic| walk_at "t") => `(tactic| first | (with_reducible first | refine Sl ?_ | refine O1 ?_ | refine E6 ?_ | refine aN ?_ | refine Z5 ?_ | refine Si ?_ | refine SZ ?_ | refine Tw ?_ | refine SU ?_ | refine Tr ?_ | refine SE ?_ | refine TK ?_ | refine Re ?_ | refine WS ?_ | refine Vx ?_ | refine UW ?_ | refine Tv ?_ | refine QQ ?_ | refine Qk ?_ | refine UI ?_ | refine Su ?_ | refine Rr ?_ | refine Tc ?_ | refine QH ?_ | refine S2 ?_ | refine Ti ?_ | refine Z3 ?_ | refine Ql ?_ | refine Ub ?_ | refine QG ?_ | refine Nz ?_ | refine Tn ?_ | refine DI ?_ | refine B2 ?_ | refine BM ?_ | refine Qd ?_ | refine QF ?_ | refine O4 ?_ | refine Ri ?_ | refine Tu ?_ | refine Zr ?_ | refine RK ?_ | refine Rh ?_ | refine Sb ?_ | refine WY ?_ | refine VS ?_ | refine Uk ?_ | refine VM ?_ | refine XQ ?_ | refine T9 ?_ | refine Vv ?_ | refine Uv ?_ | refine Zh ?_ | refine Io ?_ | refine M3 ?_ | refine Ts ?_ | refine SR ?_ | refine On ?_ | refine Sm ?_ | refine SI ?_ | refine Q0 ?_ | refine Qx ?_) | ((with_reducible apply OF); exact rfl) | (with_reducible refine So (by simp only [List.length_cons, List.length_nil]; decide) ?_))
local macro_rules | `(tactic| walk_at "s") => `(tactic| first | walk_at "t" | (with_reducible refine Sj ?_))
local macro_rules | `(tactic| walk_at "v") => `(tactic| repeat walk_at "t")
local macro_rules | `(tactic| walk_at "w") => `(tactic| repeat walk_at "s")
local macro_rules | `(tactic| wrow_has $H $n) => do let t := ((n.getId.toString.drop 1).toString); let i := λ (a : String) => Lean.mkIdent (Lean.Name.mkSimple (a ++ t)); `(tactic| (generalize e : upd $H $(i "p") _ = $(i "H"); have $(i "s"):ident : Same $H $(i "H") := (by rw [<-e]; exact Aj $(i "n")); have $(i "g"):ident := (congrFun e $(i "p")).symm.trans Af; clear e))
local macro_rules | `(tactic| row_lines $H $n) => do let t := ((n.getId.toString.drop 1).toString); let i := λ (a : String) => Lean.mkIdent (Lean.Name.mkSimple (a ++ t)); `(tactic| (intro $(i "p"):ident $(i "n"):ident; wrow_has $H $n))
local macro_rules | `(tactic| walk_at "x") => `(tactic| repeat first | walk_at "s" | (with_reducible refine AK (by decide) ?_))
namespace K32
open PySem L2 PySem.Spec PyProof.Rows
seal L2.PE L2.PT L2.PW L2.PA L2.PS L2.PSs L2.PI L2.PG L2.PTs L2.PGs
section
variable {K:PySem.W.Frag}
structure Cs where
  Draft:Addr
  Cloth:Addr
  Hand:Addr
  PARTS:Addr
structure Txt (K:PySem.W.Frag) (mg:Str->Option Value) (c:Cs):Prop where
  own:Own mg ["isinstance","int","bool","str","list","tuple","dict","set","len","all","range","sum","zip","enumerate","sorted"]
  g_Draft:mg "Draft"=some (.ref c.Draft)
  kd_Draft:Kind K c.Draft
  is_Draft:PySem.W.kitOne K (.ref c.Draft) (.ref c.Draft)=some true
  na_Draft_shafts:NoAttr K c.Draft "shafts"
  na_Draft_treadles:NoAttr K c.Draft "treadles"
  na_Draft_threading:NoAttr K c.Draft "threading"
  na_Draft_ties:NoAttr K c.Draft "ties"
  na_Draft_treading:NoAttr K c.Draft "treading"
  na_Draft_warp:NoAttr K c.Draft "warp"
  na_Draft_weft:NoAttr K c.Draft "weft"
  g_Cloth:mg "Cloth"=some (.ref c.Cloth)
  kd_Cloth:Kind K c.Cloth
  is_Cloth:PySem.W.kitOne K (.ref c.Cloth) (.ref c.Cloth)=some true
  na_Cloth_width:NoAttr K c.Cloth "width"
  na_Cloth_rows:NoAttr K c.Cloth "rows"
  g_Hand:mg "Hand"=some (.ref c.Hand)
  kd_Hand:Kind K c.Hand
  is_Hand:PySem.W.kitOne K (.ref c.Hand) (.ref c.Hand)=some true
  na_Hand_held:NoAttr K c.Hand "held"
  na_Hand_past:NoAttr K c.Hand "past"
  g_PARTS:mg "PARTS"=some (.ref c.PARTS)
  t_PARTS:∀ H:Hp,SqT K H c.PARTS [.str "shafts", .str "treadles", .str "threading", .str "ties", .str "treading", .str "warp", .str "weft"]
  k_MOST_SHAFTS:∃ t,mg "MOST_SHAFTS"=some (.int 16 t)
  k_MOST_TREADLES:∃ t,mg "MOST_TREADLES"=some (.int 16 t)
  k_MOST_ENDS:∃ t,mg "MOST_ENDS"=some (.int 60 t)
  k_MOST_PICKS:∃ t,mg "MOST_PICKS"=some (.int 60 t)
  k_COLOURS:∃ t,mg "COLOURS"=some (.str "abcdefghijklmnopqrstuvwxyz" t)
  k_WARP:∃ t,mg "WARP"=some (.str "warp" t)
  k_WEFT:∃ t,mg "WEFT"=some (.str "weft" t)
def M6 (K:PySem.W.Frag):Sp:=λ vs H Q _=>∃ (a:Addr) (ns:List Int),vs=[.ref a]/\SqL K H a (ns.map V.int)/\ns.length<=63/\∀ H',Q (.bl true) H'
end
section
variable {K:PySem.W.Frag} {c:Cs}
def BW:Nat->Sp
  | 0=>λ _ _ _ _=>False
  | n+1=>λ vs H Q _=>∃ v u d,vs=[v,u]/\Rp H FT n v d/\Rp H FT n u d/\∀ H',Same H H'->Q (.bl true) H'
abbrev C8:Stmt:=top 54
theorem KN:FnScope ["_law_found","_law_due"] ["_law_found","_law_due"] (Ah C8):=⟨rfl,rfl,rfl,by decide +kernel,rfl,by decide +kernel,by decide +kernel⟩
theorem JA (F:Fun K "_law_same" "_law_same" C8 f fd) (T:Txt K mg c) (c__law_same:CallF P w K mg base "_law_same" (n+1) ["_law_found","_law_due"] (BW n)):FnOk P w K mg base CX0 (n+2) f fd ["_law_found","_law_due"] (BW (n+1)):=by
  refine F.ok KN (λ vs H Q E h=> ?_) (λ cdv A outer s H vs Q E hr h=> ?_)
  · obtain ⟨v,u,d,rfl,_⟩:=h;rfl
  · obtain ⟨v,u,d,rfl,rv,ru,k⟩:=h;refine ⟨_,(Ac (AM (Bp (Am (Qy (K:=K)) rfl (T.own _ (by decide)) boot_isinstance (Aa (pv 1) (Aa (AE (Aa (BR rfl (T.own _ (by decide)) AA) (Aa (BR rfl (T.own _ (by decide)) AJ) Ab))) Ab)))) (Ac (AM (PW.pt (Kd (Au Lg (Am (Bx (K:=K)) rfl (T.own _ (by decide)) boot_isinstance (Aa (pv 0) (Aa (BR rfl (T.own _ (by decide)) AA) Ab))) (Am (Bx (K:=K)) rfl (T.own _ (by decide)) boot_isinstance (Aa (pv 1) (Aa (BR rfl (T.own _ (by decide)) AA) Ab))) (AC _)) (GK (Au Lg (Am (Bx (K:=K)) rfl (T.own _ (by decide)) boot_isinstance (Aa (pv 0) (Aa (BR rfl (T.own _ (by decide)) AJ) Ab))) (Am (Bx (K:=K)) rfl (T.own _ (by decide)) boot_isinstance (Aa (pv 1) (Aa (BR rfl (T.own _ (by decide)) AJ) Ab))) (AC _))))) (Ag (Ak Fo)) Ay)
      (Ag (Ak (Ec (CI Bg (Am (BA (K:=K)) rfl (T.own _ (by decide)) boot_len (Aa (pv 0) Ab)) (Am (BA (K:=K)) rfl (T.own _ (by decide)) boot_len (Aa (pv 1) Ab)) (AC _)) (E2 (Am (K7 (K:=K)) rfl (T.own _ (by decide)) DF (Aa (EI (K:=K) (Yx (K:=K) rfl (T.own _ (by decide)) (Aa (pv 0) (Aa (pv 1) Ab))) (λ _ _ _ _=>AL) (λ _ _ _ _=>(Ae c__law_same hr (Aa (pv 0) (Aa (pv 1) Ab))))) Ab))))))) Ay)
      (Ag (Ak (Ec (CI Bg (Am (Bx (K:=K)) rfl (T.own _ (by decide)) boot_isinstance (Aa (pv 0) (Aa (BR rfl (T.own _ (by decide)) boot_bool) Ab))) (Am (Bx (K:=K)) rfl (T.own _ (by decide)) boot_isinstance (Aa (pv 1) (Aa (BR rfl (T.own _ (by decide)) boot_bool) Ab))) (AC _)) (E2 (CI Bg (pv 0) (pv 1) (AC _))))))),?_⟩
    walk_at "w";intro p hp;walk_at "w";have sp:=Aj (o:=HO.tup [V.ty "list",V.ty "tuple"]) hp;refine OD (ns:=["list","tuple"]) Af (ru.same sp).ty (VP d) ?_;have rv:=rv.same sp;have ru:=ru.same sp;generalize upd H p (HO.tup [V.ty "list",V.ty "tuple"])=H1 at rv ru sp ⊢;walk_at "w";refine Sx (λ hc=> ?_) (λ hc=> ?_)
    · walk_at "w";refine A1 rv.ty (Hu d) ?_;walk_at "w";refine A1 ru.ty (Hu d) ?_;walk_at "w";refine V9 (λ q=>absurd rfl q) (λ _=> ?_);walk_at "w";refine A1 rv.ty (FR d) ?_;walk_at "w";refine A1 ru.ty (FR d) ?_;walk_at "w";refine V9 (λ q=>absurd rfl q) (λ _=> ?_);walk_at "w";obtain ⟨m,a,xs,hm,rfl,sa,la,ba,ea⟩:=rv.seq (K:=K) hc;obtain ⟨m',b,zs,hm',rfl,sb,lb,bb,eb⟩:=ru.seq (K:=K) hc;subst hm;cases hm';refine Nd sa ?_;walk_at "w";refine Nd sb ?_;walk_at "w";refine ED (λ _=> ?_) (λ q=>absurd (by rw [la,lb]) q);walk_at "w";refine ⟨CD d,CD d,a,b,rfl,⟨_,sa⟩,⟨_,sb⟩,λ D hD=> ?_⟩;refine QU (xs:=xs) (zs:=zs) (by omega) (λ i ys H'=>ys=(Ab5 i true).map V.bl/\Same H1 H'/\H' D=some (.lst ys)) ⟨rfl,Ci (Same.refl _) hD,Af⟩ (λ i ys H' _ ⟨_,s,_⟩=>⟨sa.same s,sb.same s⟩) ?_ ?_
      · rintro i x z ys H' q hx hz ⟨rfl,s1,hl⟩ hq;refine ⟨((Kp.refl _).set rfl).set rfl,S3 ?_⟩;walk_at "w";have hi:i<(Br d).length:=by
          have:=(Ad4.mp hx).1;omega
        have hd:(Br d)[i]?=some (Br d)[i]:=Aa4 hi;have s2:Same H1 (upd H' q (HO.tup [x,z])):=s1.trans (Aj hq);refine ⟨x,z,(Br d)[i],rfl,(ea i x _ hx hd).same s2,(eb i z _ hz hd).same s2,λ H'' s3=> ?_⟩;have hl':H'' D=some (.lst ((Ab5 i true).map V.bl)):=s3 _ _ (Aj hq _ _ hl);refine ⟨hl',?_,?_,?_,Af⟩
        · rw [Aa1,List.length_replicate];exact Ab3 hi (Ac5 (by omega) (show 100000<=sizeLine by decide))
        · rw [List.replicate_succ',Ae0];rfl
        · exact Ci (s2.trans s3) hD
      · rintro ys H' ⟨rfl,s1,hl⟩;walk_at "w";refine IT (SqL.of hl) ?_;have e:(Ab5 xs.length true).all id=true:=by simp
        rw [e];exact k H' (sp.trans s1)
    · walk_at "w";refine A1 rv.ty (Nh d) ?_;walk_at "w";refine A1 ru.ty (Nh d) ?_;walk_at "w";refine ED (λ _=> ?_) (λ q=>absurd rfl q);walk_at "w";have e:=Qn rv ru hc;subst e;refine ⟨Oe rv hc,?_⟩;rw [decide_eq_true rfl];exact k H1 sp
theorem DR {f:Addr} {fd:FuncData} (D:DefAt K mg "_law_same" C8 ["_law_found","_law_due"] f fd) (T:Txt K mg c):∀ n,FnOk P w K mg base CX0 (n+1) f fd ["_law_found","_law_due"] (BW n)
  | 0=>⟨λ _ _ _ _ h=>h.elim,λ _ _ _ _ _ _ _ _ _ _ _ _ _ h=>h.elim⟩
  | n+1=>JA D.fn T (D.call (DR D T n))
def Gu:Sp:=λ vs H Q _=>∃ n:Nat,vs=[.int n]/\1<=n/\n<=1000/\Q (.int ((2 ^ (n - 1):Nat):Int)) H
abbrev HS:Stmt:=top 26
theorem N9:FnScope ["number"] ["number"] (Ah HS):=⟨rfl,rfl,rfl,by decide +kernel,rfl,by decide +kernel,by decide +kernel⟩
theorem NV (F:Fun K "bit_of" "bit_of" HS f fd) (T:Txt K mg c):FnOk P w K mg base CX0 1 f fd ["number"] Gu:=by
  refine F.ok N9 (λ vs H Q E h=> ?_) (λ cdv A outer s H vs Q E hr h=> ?_)
  · obtain ⟨n,rfl,_⟩:=h;rfl
  · obtain ⟨n,rfl,h1,h2,q⟩:=h;refine ⟨_,(Ag (Ak (Al FF Ad (Al BH (pv 0) Ad)))),?_⟩;walk_at "w";refine AK ⟨by omega,by omega,by decide⟩ ?_;rw [show ((n:Int) - 1).toNat=n - 1 by omega,ES];exact q
def FB (K:PySem.W.Frag):Sp:=λ vs H Q _=>∃ tp a,∃ ns:List Nat,vs=[.ref a]/\SqS tp K H a (ns.map nV)/\(∀ n∈ns,1<=n/\n<=1000)/\∀ H',Same H H'->Q (.int ((MM.mOf ns:Nat):Int)) H'
abbrev Gi:Stmt:=top 27
theorem sc_mask_of:FnScope ["numbers","mask","number"] ["numbers"] (Ah Gi):=⟨rfl,rfl,rfl,by decide +kernel,rfl,by decide +kernel,by decide +kernel⟩
theorem LW (F:Fun K "mask_of" "mask_of" Gi f fd) (T:Txt K mg c) (c_bit_of:CallF P w K mg base "bit_of" 1 ["number"] Gu):FnOk P w K mg base CX0 2 f fd ["numbers"] (FB K):=by
  refine F.ok sc_mask_of (λ vs H Q E h=> ?_) (λ cdv A outer s H vs Q E hr h=> ?_)
  · obtain ⟨tp,a,ns,rfl,_⟩:=h;rfl
  · obtain ⟨tp,a,ns,rfl,sa,hn,q⟩:=h;refine ⟨_,(Ac (Av (i:=1) sc_mask_of.nd rfl (Or.inl rfl) Ad)
      (Ac (EL PassesOwn.never rfl (OV (K:=K) (pv 0)) (AV (i:=2) sc_mask_of.nd rfl (Or.inl rfl)) (Ag (Pb (i:=1) sc_mask_of.nd rfl (Or.inl rfl) (Ae c_bit_of hr (Aa (pv 2) Ab)) O0)))
      (Ag (Ak (pv 1))))),?_⟩
    walk_at "w";refine ⟨tp,a,rfl,⟨_,sa⟩,Hx (MN sa) (λ i σ H3=>∃ x,σ=[some (.ref a),some (.int ((MM.mOf (ns.take i):Nat):Int)),x]/\Same H H3) ⟨_,rfl,Same.refl _⟩ (λ i σ H3 ⟨_,_,s⟩=>s) ?_ ?_⟩
    · rintro i σ H' H3 hi ⟨x,rfl,s'⟩ s3;have hi':i<ns.length:=by simpa using hi
      have hm:ns.getD i 0∈ns:=by rw [Aa2,Aa4 hi'];exact Ag6 hi'
      rw [BC hi];walk_at "w";refine OO rfl ?_;walk_at "w";refine ⟨_,rfl,(hn _ hm).1,(hn _ hm).2,?_⟩;walk_at "w";rw [bO, <-MM.mOf_snoc, <-Kc hi'];exact ⟨_,rfl,s'.trans s3⟩
    · rintro σ H3 ⟨x,rfl,s3⟩;walk_at "w";rw [Aa1,List.take_length];exact q H3 s3
def HP:Sp:=λ vs H Q _=>∃ n:Nat,vs=[.int n]/\n<=1000/\Q (.int ((2 ^ n - 1:Nat):Int)) H
abbrev Gs:Stmt:=top 28
theorem MC:FnScope ["most"] ["most"] (Ah Gs):=⟨rfl,rfl,rfl,by decide +kernel,rfl,by decide +kernel,by decide +kernel⟩
theorem Ml (F:Fun K "mask_to" "mask_to" Gs f fd) (T:Txt K mg c):FnOk P w K mg base CX0 1 f fd ["most"] HP:=by
  refine F.ok MC (λ vs H Q E h=> ?_) (λ cdv A outer s H vs Q E hr h=> ?_)
  · obtain ⟨n,rfl,_⟩:=h;rfl
  · obtain ⟨n,rfl,h1,q⟩:=h;refine ⟨_,(Ag (Ak (Al BH (Al FF Ad (pv 0)) Ad))),?_⟩;walk_at "w";refine AK ⟨by omega,by omega,by decide⟩ ?_;walk_at "w";have hp:0<2 ^ n:=Nat.two_pow_pos n;rw [show ((n:Int)).toNat=n by omega,ES,show ((2 ^ n:Nat):Int) - 1=((2 ^ n - 1:Nat):Int) by omega];exact q
def Fl:Sp:=λ vs H Q _=>∃ m n:Nat,vs=[.int m, .int n]/\1<=n/\n<=1000/\Q (.bl (m.testBit (n - 1))) H
theorem Q1 (m i:Nat):(!decide (((m &&& 2 ^ i:Nat):Int)=0))=m.testBit i:=by
  have e:(m &&& 2 ^ i)=(m.testBit i).toNat*2 ^ i:=by
    refine Nat.eq_of_testBit_eq λ j=> ?_;rw [Nat.testBit_and,Nat.testBit_two_pow];by_cases h:i=j
    · subst h;cases hb:m.testBit i <;> simp
    · cases hb:m.testBit i <;> simp [h,Nat.testBit_two_pow]
  rw [e];have hp:0<2 ^ i:=Nat.two_pow_pos i;cases m.testBit i with
  | false=>simp
  | true=>
    rw [decide_eq_false (by rw [Bool.toNat_true];omega)];rfl
abbrev En:Stmt:=top 29
theorem Jg:FnScope ["mask","number"] ["mask","number"] (Ah En):=⟨rfl,rfl,rfl,by decide +kernel,rfl,by decide +kernel,by decide +kernel⟩
theorem Ja (F:Fun K "has_number" "has_number" En f fd) (T:Txt K mg c) (c_bit_of:CallF P w K mg base "bit_of" 1 ["number"] Gu):FnOk P w K mg base CX0 2 f fd ["mask","number"] Fl:=by
  refine F.ok Jg (λ vs H Q E h=> ?_) (λ cdv A outer s H vs Q E hr h=> ?_)
  · obtain ⟨m,n,rfl,_⟩:=h;rfl
  · obtain ⟨m,n,rfl,h1,h2,q⟩:=h;refine ⟨_,(Ag (Ak (CI Lg (Al O7 (pv 0) (Ae c_bit_of hr (Aa (pv 1) Ab))) Ad (AC _)))),?_⟩;walk_at "w";refine ⟨n,rfl,h1,h2,?_⟩;walk_at "w";rw [bA,Q1];exact q
def Fi:Sp:=λ vs H Q _=>∃ m:Nat,vs=[.int m]/\m<2 ^ 900/\∀ H' p,Same H H'->H p=none->H' p=some (.lst ((MM.nOf m).map nV))->Q (.ref p) H'
abbrev DT:Stmt:=top 30
theorem JG:FnScope ["mask"] ["mask"] (Ah DT):=⟨rfl,rfl,rfl,by decide +kernel,rfl,by decide +kernel,by decide +kernel⟩
theorem Je (F:Fun K "numbers_of" "numbers_of" DT f fd) (T:Txt K mg c) (c_has_number:CallF P w K mg base "has_number" 2 ["mask","number"] Fl):FnOk P w K mg base CX0 3 f fd ["mask"] Fi:=by
  refine F.ok JG (λ vs H Q E h=> ?_) (λ cdv A outer s H vs Q E hr h=> ?_)
  · obtain ⟨m,rfl,_⟩:=h;rfl
  · obtain ⟨m,rfl,h1,q⟩:=h;have hb:=MM.bits_le h1;refine ⟨_,(Ag (Ak (AO (Ki rfl (T.own _ (by decide)) (Aa Ad (Aa (Al AW (MG (K:=K) PySem.F.plainAttrs_int PySem.F.slot_int_bit_length PySem.F.type_int_bit_length JI (pv 0)) Ad) Ab))) (λ _ _ _ _=>(E3 (Bp (Ae c_has_number hr (Aa (pv 1) (Aa (pv 0) Ab)))))) (λ _ _ _ _=>(pv 0))))),?_⟩;walk_at "w";refine tyI ?_;refine Ru ?_;walk_at "w";refine ⟨_,_,rfl,⟨by decide,by decide,by omega,by omega⟩,λ D hD=> ?_⟩;rw [show ((MM.bits m:Nat)+1 - 1:Int).toNat=MM.bits m by omega];refine Cc (p:=m.testBit) (G:=λ i=>1+(i:Int)) (Gq rfl) hD (by omega) ?_ ?_ ?_
    · intro i H' R hi s k;walk_at "w";refine ⟨m,i+1,by rw [show (1:Int)+(i:Nat)=((i+1:Nat):Int) by omega],by omega,by omega,?_⟩;rw [show i+1 - 1=i by omega];exact ⟨_,rfl,k H' (Same.refl _)⟩
    · intro i H' R hi hp s k;walk_at "w";exact k H' (Same.refl _)
    · intro H' s hl;refine q H' D s hD ?_;rw [hl];unfold MM.nOf;rw [Ae1,Ae1];congr 2;refine List.map_congr_left λ i _=> ?_;show V.int (1+(i:Int))=V.int ((i+1:Nat):Int);congr 1;omega
def EF (K:PySem.W.Frag):Sp:=λ vs H Q _=>∃ tp a,∃ ns:List Nat,vs=[.ref a]/\SqS tp K H a (ns.map nV)/\∀ H',Same H H'->Q (.int ((MM.uOf ns:Nat):Int)) H'
abbrev Fy:Stmt:=top 31
theorem sc_union_of:FnScope ["masks","union","mask"] ["masks"] (Ah Fy):=⟨rfl,rfl,rfl,by decide +kernel,rfl,by decide +kernel,by decide +kernel⟩
theorem LM (F:Fun K "union_of" "union_of" Fy f fd) (T:Txt K mg c):FnOk P w K mg base CX0 1 f fd ["masks"] (EF K):=by
  refine F.ok sc_union_of (λ vs H Q E h=> ?_) (λ cdv A outer s H vs Q E hr h=> ?_)
  · obtain ⟨tp,a,ns,rfl,_⟩:=h;rfl
  · obtain ⟨tp,a,ns,rfl,sa,q⟩:=h;refine ⟨_,(Ac (Av (i:=1) sc_union_of.nd rfl (Or.inl rfl) Ad)
      (Ac (EL PassesOwn.never rfl (OV (K:=K) (pv 0)) (AV (i:=2) sc_union_of.nd rfl (Or.inl rfl)) (Ag (Pb (i:=1) sc_union_of.nd rfl (Or.inl rfl) (pv 2) O0)))
      (Ag (Ak (pv 1))))),?_⟩
    walk_at "w";refine ⟨tp,a,rfl,⟨_,sa⟩,Hx (MN sa) (λ i σ H3=>∃ x,σ=[some (.ref a),some (.int ((MM.uOf (ns.take i):Nat):Int)),x]/\Same H H3) ⟨_,rfl,Same.refl _⟩ (λ i σ H3 ⟨_,_,s⟩=>s) ?_ ?_⟩
    · rintro i σ H' H3 hi ⟨x,rfl,s'⟩ s3;have hi':i<ns.length:=by simpa using hi
      rw [BC hi];walk_at "w";refine OO rfl ?_;walk_at "w";rw [bO, <-MM.uOf_snoc, <-Kc hi'];exact ⟨_,rfl,s'.trans s3⟩
    · rintro σ H3 ⟨x,rfl,s3⟩;walk_at "w";rw [Aa1,List.take_length];exact q H3 s3
def GZ (K:PySem.W.Frag):Sp:=λ vs H Q _=>∃ x,vs=[x]/\Ty K H x/\Q (.bl (PQ x)) H
abbrev Fu:Stmt:=top 12
theorem Li:FnScope ["thing"] ["thing"] (Ah Fu):=⟨rfl,rfl,rfl,by decide +kernel,rfl,by decide +kernel,by decide +kernel⟩
theorem Lf (F:Fun K "is_whole" "is_whole" Fu f fd) (T:Txt K mg c):FnOk P w K mg base CX0 1 f fd ["thing"] (GZ K):=by
  refine F.ok Li (λ vs H Q E h=> ?_) (λ cdv A outer s H vs Q E hr h=> ?_)
  · obtain ⟨x,rfl,_⟩:=h;rfl
  · obtain ⟨x,rfl,⟨n,ty⟩,k⟩:=h;refine ⟨_,(Ag (Ak (Ec (Am (Bx (K:=K)) rfl (T.own _ (by decide)) boot_isinstance (Aa (pv 0) (Aa (BR rfl (T.own _ (by decide)) boot_int) Ab))) (E2 (Ss (Am (Bx (K:=K)) rfl (T.own _ (by decide)) boot_isinstance (Aa (pv 0) (Aa (BR rfl (T.own _ (by decide)) boot_bool) Ab)))))))),?_⟩;walk_at "w";refine A1 ty (QW ty) ?_;walk_at "w";refine SB (λ hc=> ?_) (λ hc=> ?_)
    · walk_at "w";refine A1 ty (P0 ty) ?_;walk_at "w";exact GS (by cases x <;> first | rfl | exact absurd hc Ab1) k
    · exact GS (by cases x <;> first | rfl | exact absurd hc.symm Ab1) k
def BS (K:PySem.W.Frag):Sp:=λ vs H Q _=>∃ x a b,vs=[x, .int a, .int b]/\Ty K H x/\Q (.bl (Gv x a b)) H
abbrev Fp:Stmt:=top 13
theorem K9:FnScope ["thing","least","most"] ["thing","least","most"] (Ah Fp):=⟨rfl,rfl,rfl,by decide +kernel,rfl,by decide +kernel,by decide +kernel⟩
theorem LC (F:Fun K "is_among" "is_among" Fp f fd) (T:Txt K mg c) (c_is_whole:CallF P w K mg base "is_whole" 1 ["thing"] (GZ K)):FnOk P w K mg base CX0 2 f fd ["thing","least","most"] (BS K):=by
  refine F.ok K9 (λ vs H Q E h=> ?_) (λ cdv A outer s H vs Q E hr h=> ?_)
  · obtain ⟨x,a,b,rfl,_⟩:=h;rfl
  · obtain ⟨x,a,b,rfl,ty,k⟩:=h;refine ⟨_,(Ag (Ak (Ec (Ae c_is_whole hr (Aa (pv 0) Ab)) (E2 (Pt RH RH (pv 1) (pv 0) (pv 2)))))),?_⟩;walk_at "w";refine ⟨x,rfl,ty,?_⟩;walk_at "w";refine SB (λ hc=> ?_) (λ hc=> ?_)
    · cases x with
      | int i=>
        walk_at "w";refine SB (λ h1=> ?_) (λ h1=> ?_)
        · walk_at "w";exact GS (by show _=(decide (a<=i)&&decide (i<=b));rw [h1,Bool.true_and]) k
        · walk_at "w";exact GS (by show _=(decide (a<=i)&&decide (i<=b));rw [h1,Bool.false_and]) k
      | _=>exact absurd hc Ab1
    · exact GS (by cases x <;> first | rfl | exact absurd hc.symm Ab1) k
def NT (C:Addr) (H:Hp) (x:Addr) (n:Nat) (rs:List Nat):Prop:=∃ dx t,H x=some (.ins C dx [("width",nV n),("rows", .ref t)])/\H t=some (.tup (rs.map nV))
structure ClOk (n:Nat) (rs:List Nat):Prop where
  n1:1<=n
  n2:n<=60
  p1:1<=rs.length
  p2:rs.length<=60
  lt:∀ r∈rs,r<2 ^ n
def Fj:Sp:=λ vs H Q _=>∃ (n:Nat) (a:Addr) (rs:List Nat),vs=[.int n, .ref a]/\H a=some (.lst (rs.map nV))/\ClOk n rs/\∀ H',Same H H'->Q .non H'
abbrev DN:Stmt:=top 33
theorem Jb:FnScope ["ends","rows"] ["ends","rows"] (Ah DN):=⟨rfl,rfl,rfl,by decide +kernel,rfl,by decide +kernel,by decide +kernel⟩
theorem Jj (F:Fun K "need_cloth" "need_cloth" DN f fd) (T:Txt K mg c) (c_is_among:CallF P w K mg base "is_among" 2 ["thing","least","most"] (BS K)) (c_mask_to:CallF P w K mg base "mask_to" 1 ["most"] HP):FnOk P w K mg base CX0 3 f fd ["ends","rows"] Fj:=by
  refine F.ok Jb (λ vs H Q E h=> ?_) (λ cdv A outer s H vs Q E hr h=> ?_)
  · obtain ⟨n,a,rs,rfl,_⟩:=h;rfl
  · obtain ⟨n,a,rs,rfl,ha,ok,k⟩:=h;refine ⟨_,(Ac (AM (Ce (Bp (Ae c_is_among hr (Aa (pv 0) (Aa Ad (Aa (JQ T.k_MOST_ENDS) Ab)))))) (Ag CU) Ay)
      (Ac (AM (PW.pt (Kd (Ce (Bp (Am (Bx (K:=K)) rfl (T.own _ (by decide)) boot_isinstance (Aa (pv 1) (Aa (BR rfl (T.own _ (by decide)) AA) Ab))))) (GK (Ce (Bp (Ae c_is_among hr (Aa (Am (BA (K:=K)) rfl (T.own _ (by decide)) boot_len (Aa (pv 1) Ab)) (Aa Ad (Aa (JQ T.k_MOST_PICKS) Ab))))))))) (Ag CU) Ay)
      (Ag (AM (Ce (Bp (Am (K7 (K:=K)) rfl (T.own _ (by decide)) DF (Aa (AO (BJ (K:=K) (pv 1)) (λ _ _ _ _=>AL) (λ _ _ _ _=>(Ae c_is_among hr (Aa (pv 0) (Aa Ad (Aa (Ae c_mask_to (hr.mono (by decide)) (Aa (pv 1) Ab)) Ab)))))) Ab)))) (Ag CU) Ay)))),?_⟩
    walk_at "w";refine ⟨_,_,_,rfl,⟨_, .int _⟩,?_⟩;walk_at "w";have e1:Gv (.int n) 1 60=true:=by
      have:=ok.n1;have:=ok.n2;show (decide ((1:Int)<=n)&&decide ((n:Int)<=60))=true;simp;omega
    rw [e1];refine B2 ?_;walk_at "w";refine A1 (.lst ha) (kb (b:=true) (by decide +kernel)) ?_;walk_at "w";refine A9 (SqL.of ha) ?_;walk_at "w";refine ⟨_,_,_,rfl,⟨_, .int _⟩,?_⟩;walk_at "w";have e2:Gv (.int ((rs.map nV).length:Nat)) 1 60=true:=by
      have:=ok.p1;have:=ok.p2;rw [Aa1];show (decide ((1:Int)<=(rs.length:Nat))&&decide (((rs.length:Nat):Int)<=60))=true;simp;omega
    rw [e2];refine B2 ?_;walk_at "w";refine ⟨a,rfl,⟨_,SqL.of ha⟩,λ D hD=> ?_⟩;refine F2 (G:=λ _=>true) (Bf (SqL.of ha) rfl) hD (by have:=ok.p2;rw [Aa1];omega) ?_ ?_
    · intro i H' R hi s kk;have hi':i<rs.length:=by simpa using hi
      rw [BC hi];walk_at "w";refine ⟨n,rfl,by have:=ok.n2;omega,?_⟩;walk_at "w";refine ⟨_,_,_,rfl,⟨_, .int _⟩,?_⟩;have e3:Gv (.int (rs.getD i 0:Nat)) 0 ((2 ^ n - 1:Nat):Int)=true:=by
        have hm:rs.getD i 0∈rs:=by rw [Aa2,Aa4 hi'];exact Ag6 hi'
        have:=ok.lt _ hm;have hp:0<2 ^ n:=Nat.two_pow_pos n;show (decide ((0:Int)<=(rs.getD i 0:Nat))&&decide (((rs.getD i 0:Nat):Int)<=((2 ^ n - 1:Nat):Int)))=true;simp only [Ad9,decide_eq_true_eq];omega
      rw [e3];exact kk H' (Same.refl _)
    · intro H' s hl;walk_at "w";refine IT (SqL.of hl) ?_;walk_at "w";have e4:((Aa9 (rs.map nV).length).map λ _=>true).all id=true:=by simp
      rw [e4];refine B2 ?_;walk_at "w";exact k H' s
def BU (c:Cs):Sp:=λ vs H Q _=>∃ (x dx:Addr) (n:Nat) (a:Addr) (rs:List Nat),vs=[.ref x, .int n, .ref a]/\H x=some (.ins c.Cloth dx [])/\H a=some (.lst (rs.map nV))/\ClOk n rs/\
  ∀ H',(∀ b o,H b=some o->b≠x->H' b=some o)->NT c.Cloth H' x n rs->Q .non H'
abbrev Ca:Stmt:=Aw (top 34) 0
theorem FJ:FnScope ["self","ends","rows"] ["self","ends","rows"] (Ah Ca):=⟨rfl,rfl,rfl,by decide +kernel,rfl,by decide +kernel,by decide +kernel⟩
theorem FV (F:Fun K "__init__" "Cloth.__init__" Ca f fd) (T:Txt K mg c) (c_need_cloth:CallF P w K mg base "need_cloth" 3 ["ends","rows"] Fj):FnOk P w K mg base CX0 4 f fd ["self","ends","rows"] (BU c):=by
  refine F.ok FJ (λ vs H Q E h=> ?_) (λ cdv A outer s H vs Q E hr h=> ?_)
  · obtain ⟨x,dx,n,a,rs,rfl,_⟩:=h;rfl
  · obtain ⟨x,dx,n,a,rs,rfl,hx,ha,ok,k⟩:=h;refine ⟨_,(Ac (AD (Ae c_need_cloth hr (Aa (pv 1) (Aa (pv 2) Ab))))
      (Ac (Cu (pv 0) (pv 1) rfl)
      (Ag (Cu (pv 0) (As (BN (K:=K)) rfl (T.own _ (by decide)) AJ (Aa (pv 2) Ab)) rfl)))),?_⟩
    walk_at "w";refine ⟨n,a,rs,rfl,ha,ok,λ H1 s1=> ?_⟩;walk_at "w";refine Cy (s1 _ _ hx) T.kd_Cloth.cl T.na_Cloth_width (by decide) ?_;walk_at "w";have nax:a≠x:=A3 ha hx (by intro z;cases z);refine Bt (SqL.of (by rw [Ai nax];exact s1 _ _ ha)) λ t ht=> ?_;walk_at "w";have nxt:x≠t:=Ax Af ht;refine Cy (by rw [Ai nxt];exact Af) T.kd_Cloth.cl T.na_Cloth_rows (by show 1<1000;decide) ?_;walk_at "w";refine k _ (λ b o e hb=> ?_) ⟨dx,t,Af,by rw [Ai (Ne.symm nxt),Af]⟩;have hbt:b≠t:=λ z=>by
      subst z;rw [Ai hb,s1 _ _ e] at ht;cases ht
    rw [Ai hb,Ai hbt,Ai hb];exact s1 _ _ e
theorem Qh {c:Cs} {rs:List Nat} (ha:H a=some (.lst (rs.map nV))) (ok:ClOk n rs) (h:∀ H' x,Same H H'->H x=none->NT c.Cloth H' x n rs->Q (.ref x) H'):
    ∀ x dx,H x=none->H dx=none->dx≠x->BU c [.ref x, .int n, .ref a] (upd (upd H dx (.own x)) x (.ins c.Cloth dx [])) (λ v H2=>v= .non/\Q (.ref x) H2) E0:=by
  intro x dx hx hdx ne;have s0:=Ip (o:=HO.ins c.Cloth dx []) (u:= .own x) hx hdx;exact ⟨x,dx,n,a,rs,rfl,Af,s0 _ _ ha,ok,λ H' kp at'=>⟨rfl,h H' x (λ b o e=>kp b o (s0 b o e) (Ax e hx)) hx at'⟩⟩
def Dq (c:Cs):Sp:=λ vs H Q _=>∃ x n rs,vs=[.ref x]/\NT c.Cloth H x n rs/\∀ H' p l,Same H H'->H p=none->H l=none->H' p=some (.tup [nV n, .ref l])->H' l=some (.lst (rs.map nV))->Q (.ref p) H'
abbrev Ej:Stmt:=Aw (top 34) 1
theorem JL:FnScope ["self"] ["self"] (Ah Ej):=⟨rfl,rfl,rfl,by decide +kernel,rfl,by decide +kernel,by decide +kernel⟩
theorem JF (F:Fun K "told" "Cloth.told" Ej f fd) (T:Txt K mg c):FnOk P w K mg base CX0 1 f fd ["self"] (Dq c):=by
  refine F.ok JL (λ vs H Q E h=> ?_) (λ cdv A outer s H vs Q E hr h=> ?_)
  · obtain ⟨x,n,rs,rfl,_⟩:=h;rfl
  · obtain ⟨x,n,rs,rfl,⟨dx,t,h1,h2⟩,k⟩:=h;refine ⟨_,(Ag (Ak (AE (Aa (Az (K:=K) (pv 0) rfl) (Aa (As (BD (K:=K)) rfl (T.own _ (by decide)) AA (Aa (Az (K:=K) (pv 0) rfl) Ab)) Ab))))),?_⟩;walk_at "w";refine ⟨_,_,_,_,_,rfl,h1,T.kd_Cloth.cl,T.na_Cloth_width,rfl,?_⟩;walk_at "w";refine ⟨_,_,_,_,_,rfl,h1,T.kd_Cloth.cl,T.na_Cloth_rows,rfl,?_⟩;walk_at "w";refine Bi (SqT.of h2) λ l hl=> ?_;walk_at "w";intro p hp;refine k _ p l ((Aj hl).trans (Aj hp)) ((Aj hl).free hp) hl Af ?_;rw [Ai (Ax Af hp),Af]
abbrev colS:Str:="abcdefghijklmnopqrstuvwxyz"
def GU (z:Str):Prop:=z.length=1/\(!(Builtin.Str.occurrences colS z 0 colS.length 1).isEmpty)=true
def F0:Sp:=λ vs H Q _=>∃ z,vs=[.str z]/\GU z/\Q (.bl true) H
abbrev EW:Stmt:=top 14
theorem KC:FnScope ["thing"] ["thing"] (Ah EW):=⟨rfl,rfl,rfl,by decide +kernel,rfl,by decide +kernel,by decide +kernel⟩
theorem Kw (F:Fun K "is_colour" "is_colour" EW f fd) (T:Txt K mg c):FnOk P w K mg base CX0 1 f fd ["thing"] F0:=by
  refine F.ok KC (λ vs H Q E h=> ?_) (λ cdv A outer s H vs Q E hr h=> ?_)
  · obtain ⟨z,rfl,_⟩:=h;rfl
  · obtain ⟨z,rfl,hz,k⟩:=h;refine ⟨_,(Ag (Ak (Ec (Am (Bx (K:=K)) rfl (T.own _ (by decide)) boot_isinstance (Aa (pv 0) (Aa (BR rfl (T.own _ (by decide)) boot_str) Ab))) (Ec (CI Bg (Am (BA (K:=K)) rfl (T.own _ (by decide)) boot_len (Aa (pv 0) Ab)) Ad (AC _)) (E2 (CI NZ (pv 0) (MS T.k_COLOURS) (by with_unfolding_all rfl))))))),?_⟩;walk_at "w";refine A1 (.str z) (kb (b:=true) (by decide +kernel)) ?_;walk_at "w";refine Qg (by rw [hz.1];decide) ?_;walk_at "w";refine ED (λ _=> ?_) (λ q=>absurd (by rw [hz.1];rfl) q);walk_at "w";refine ⟨_,_,rfl,rfl,?_⟩;rw [hz.2];exact k
def Nn:Sp:=λ vs H Q _=>∃ z,vs=[.bl true, .str z]/\Q .non H
abbrev Mc:Stmt:=top 17
theorem Q7:FnScope ["holds","words"] ["holds","words"] (Ah Mc):=⟨rfl,rfl,rfl,by decide +kernel,rfl,by decide +kernel,by decide +kernel⟩
theorem Rt (F:Fun K "need" "need" Mc f fd) (T:Txt K mg c):FnOk P w K mg base CX0 1 f fd ["holds","words"] Nn:=by
  refine F.ok Q7 (λ vs H Q E h=> ?_) (λ cdv A outer s H vs Q E hr h=> ?_)
  · obtain ⟨z,rfl,_⟩:=h;rfl
  · obtain ⟨z,rfl,k⟩:=h;refine ⟨_,(Ag (AM (Ce (Bp (pv 0))) (Ag CU) Ay)),?_⟩;walk_at "w";exact k
def FD:Sp:=λ vs H Q _=>∃ a xs,∃ lo hi:Int,vs=[.ref a, .int lo, .int hi]/\H a=some (.lst xs)/\lo<=xs.length/\xs.length<=hi/\Q (.bl true) H
abbrev GH:Stmt:=top 18
theorem Mq:FnScope ["thing","least","most"] ["thing","least","most"] (Ah GH):=⟨rfl,rfl,rfl,by decide +kernel,rfl,by decide +kernel,by decide +kernel⟩
theorem Mx (F:Fun K "is_list" "is_list" GH f fd) (T:Txt K mg c) (c_is_among:CallF P w K mg base "is_among" 2 ["thing","least","most"] (BS K)):FnOk P w K mg base CX0 3 f fd ["thing","least","most"] FD:=by
  refine F.ok Mq (λ vs H Q E h=> ?_) (λ cdv A outer s H vs Q E hr h=> ?_)
  · obtain ⟨a,xs,lo,hi,rfl,_⟩:=h;rfl
  · obtain ⟨a,xs,lo,hi,rfl,ha,h1,h2,k⟩:=h;refine ⟨_,(Ag (Ak (Ec (Am (Bx (K:=K)) rfl (T.own _ (by decide)) boot_isinstance (Aa (pv 0) (Aa (BR rfl (T.own _ (by decide)) AA) Ab))) (E2 (Ae c_is_among hr (Aa (Am (BA (K:=K)) rfl (T.own _ (by decide)) boot_len (Aa (pv 0) Ab)) (Aa (pv 1) (Aa (pv 2) Ab)))))))),?_⟩;walk_at "w";refine A1 (.lst ha) (kb (b:=true) (by decide +kernel)) ?_;walk_at "w";refine A9 (SqL.of ha) ?_;walk_at "w";refine ⟨_,_,_,rfl,⟨_, .int _⟩,?_⟩;refine GS ?_ k;show (decide (lo<=(xs.length:Nat))&&decide (((xs.length:Nat):Int)<=hi))=true;simp [h1,h2]
def Rise (m:Nat) (ns:List Nat):Prop:=∀ i,i<ns.length->(0::ns).getD i 0+1<=ns.getD i 0/\ns.getD i 0<=m
def F7:Sp:=λ vs H Q _=>∃ a ns m,vs=[.ref a,nV m]/\H a=some (.lst (ns.map nV))/\Rise m ns/\∀ H',Same H H'->Q (.bl true) H'
abbrev EH:Stmt:=top 19
theorem sc_is_rising:FnScope ["thing","most","last","number"] ["thing","most"] (Ah EH):=⟨rfl,rfl,rfl,by decide +kernel,rfl,by decide +kernel,by decide +kernel⟩
theorem KU (F:Fun K "is_rising" "is_rising" EH f fd) (T:Txt K mg c) (c_is_among:CallF P w K mg base "is_among" 2 ["thing","least","most"] (BS K)):FnOk P w K mg base CX0 3 f fd ["thing","most"] F7:=by
  refine F.ok sc_is_rising (λ vs H Q E h=> ?_) (λ cdv A outer s H vs Q E hr h=> ?_)
  · obtain ⟨a,ns,m,rfl,_⟩:=h;rfl
  · obtain ⟨a,ns,m,rfl,ha,hr',k⟩:=h;refine ⟨_,(Ac (AM (Ce (Bp (Am (Bx (K:=K)) rfl (T.own _ (by decide)) boot_isinstance (Aa (pv 0) (Aa (BR rfl (T.own _ (by decide)) AA) Ab))))) (Ag (Ak Fo)) Ay)
      (Ac (Av (i:=2) sc_is_rising.nd rfl (Or.inl rfl) Ad)
      (Ac (EL PassesOwn.never rfl (BJ (K:=K) (pv 0)) (AV (i:=3) sc_is_rising.nd rfl (Or.inl rfl)) (Ac (AM (Ce (Bp (Ae c_is_among hr (Aa (pv 3) (Aa (Al AW (pv 2) Ad) (Aa (pv 1) Ab)))))) (Ag (Ak Fo)) Ay)
      (Ag (Av (i:=2) sc_is_rising.nd rfl (Or.inl rfl) (pv 3)))))
      (Ag (Ak Fo))))),?_⟩
    walk_at "w";refine A1 (.lst ha) (kb (b:=true) (by decide +kernel)) ?_;walk_at "w";refine ⟨a,rfl,⟨_,SqL.of ha⟩,Hx (E8 (SqL.of ha)) (λ i σ H3=>∃ x,σ=[some (.ref a),some (nV m),some (nV ((0::ns).getD i 0)),x]/\Same H H3) ⟨_,rfl,Same.refl _⟩ (λ i σ H3 ⟨_,_,s⟩=>s) ?_ ?_⟩
    · rintro i σ H' H3 hi ⟨x,rfl,s'⟩ s3;have hi':i<ns.length:=by simpa using hi
      have hq:=hr' i hi';rw [BC hi];walk_at "w";refine ⟨_,_,_,rfl,⟨_, .int _⟩,?_⟩;walk_at "w";have e:Gv (.int (ns.getD i 0:Nat)) (((0::ns).getD i 0:Nat)+1) (m:Nat)=true:=by
        show (decide ((((0::ns).getD i 0:Nat):Int)+1<=(ns.getD i 0:Nat))&&decide (((ns.getD i 0:Nat):Int)<=(m:Nat)))=true;simp only [Ad9,decide_eq_true_eq];omega
      rw [e];refine B2 ?_;walk_at "w";exact ⟨_,rfl,s'.trans s3⟩
    · rintro σ H3 ⟨x,rfl,s3⟩;walk_at "w";exact k H3 s3
def Fe:Sp:=λ vs H Q _=>∃ v ls m,vs=[v,nV m]/\Rp H FT 2 v (dLL ls)/\(∀ l∈ls,Rise m l)/\∀ H',Same H H'->Q (.bl true) H'
abbrev Ek:Stmt:=top 20
theorem JB:FnScope ["thing","most"] ["thing","most"] (Ah Ek):=⟨rfl,rfl,rfl,by decide +kernel,rfl,by decide +kernel,by decide +kernel⟩
theorem Jy (F:Fun K "are_rising" "are_rising" Ek f fd) (T:Txt K mg c) (c_is_rising:CallF P w K mg base "is_rising" 3 ["thing","most"] F7):FnOk P w K mg base CX0 4 f fd ["thing","most"] Fe:=by
  refine F.ok JB (λ vs H Q E h=> ?_) (λ cdv A outer s H vs Q E hr h=> ?_)
  · obtain ⟨v,ls,m,rfl,_⟩:=h;rfl
  · obtain ⟨v,ls,m,rfl,rv,hr',k⟩:=h;obtain ⟨m',a,vs,em,rfl,ha,_,hl,hb,el⟩:=Dn rv;cases em;rw [Aa1] at hl;refine ⟨_,(Ag (Ak (Am (K7 (K:=K)) rfl (T.own _ (by decide)) DF (Aa (AO (BJ (K:=K) (pv 0)) (λ _ _ _ _=>AL) (λ _ _ _ _=>(Ae c_is_rising hr (Aa (pv 0) (Aa (pv 1) Ab))))) Ab)))),?_⟩;walk_at "w";refine ⟨a,rfl,⟨_,SqL.of ha⟩,λ D hD=> ?_⟩;refine F2 (G:=λ _=>true) (Bf (SqL.of ha) rfl) hD hb ?_ ?_
    · intro i H' R hi s kk;have hi':i<ls.length:=by omega
      have r:=el i (by simpa using hi');rw [AU dL ls i .non [] hi'] at r;obtain ⟨b,eb,hb2,_,_⟩:=B9 r;rw [eb];walk_at "w";exact ⟨b,_,m,rfl,s _ _ hb2,hr' _ (getD_mem hi'),kk⟩
    · intro H' s hl2;walk_at "w";refine IT (SqL.of hl2) ?_;refine GS ?_ (k H' s);simp
def ET:Sp:=λ vs H Q _=>∃ (a:Addr) (zs:List Str),vs=[.ref a,nV zs.length]/\H a=some (.lst (zs.map V.str))/\zs.length<=1000/\(∀ z∈zs,GU z)/\∀ H',Same H H'->Q (.bl true) H'
abbrev Dm:Stmt:=top 21
theorem IM:FnScope ["thing","many"] ["thing","many"] (Ah Dm):=⟨rfl,rfl,rfl,by decide +kernel,rfl,by decide +kernel,by decide +kernel⟩
theorem HU (F:Fun K "are_colours" "are_colours" Dm f fd) (T:Txt K mg c) (c_is_list:CallF P w K mg base "is_list" 3 ["thing","least","most"] FD) (c_is_colour:CallF P w K mg base "is_colour" 1 ["thing"] F0):FnOk P w K mg base CX0 4 f fd ["thing","many"] ET:=by
  refine F.ok IM (λ vs H Q E h=> ?_) (λ cdv A outer s H vs Q E hr h=> ?_)
  · obtain ⟨a,zs,rfl,_⟩:=h;rfl
  · obtain ⟨a,zs,rfl,ha,hz,hc,k⟩:=h;refine ⟨_,(Ag (Ak (Ec (Ae c_is_list hr (Aa (pv 0) (Aa (pv 1) (Aa (pv 1) Ab)))) (E2 (Am (K7 (K:=K)) rfl (T.own _ (by decide)) DF (Aa (AO (BJ (K:=K) (pv 0)) (λ _ _ _ _=>AL) (λ _ _ _ _=>(Ae c_is_colour (hr.mono (by decide)) (Aa (pv 0) Ab)))) Ab)))))),?_⟩;walk_at "w";refine ⟨a,_,_,_,rfl,ha,by simp,by simp,?_⟩;walk_at "w";refine ⟨a,rfl,⟨_,SqL.of ha⟩,λ D hD=> ?_⟩;refine F2 (G:=λ _=>true) (Bf (SqL.of ha) rfl) hD (by rw [Aa1];omega) ?_ ?_
    · intro i H' R hi s kk;have hi':i<zs.length:=by simpa using hi
      rw [Oj hi];walk_at "w";exact ⟨_,rfl,hc _ (getD_mem hi'),kk H' (Same.refl _)⟩
    · intro H' s hl2;walk_at "w";refine IT (SqL.of hl2) ?_;refine GS ?_ (k H' s);simp
structure Dr where
  sh:Nat
  tr:Nat
  th:List Nat
  ti:List (List Nat)
  td:List (List Nat)
  wa:List Str
  we:List Str
structure DrOk (d:Dr):Prop where
  s1:1<=d.sh
  s2:d.sh<=16
  t1:1<=d.tr
  t2:d.tr<=16
  h1:1<=d.th.length
  h2:d.th.length<=60
  hs:∀ n∈d.th,n<=d.sh
  il:d.ti.length=d.tr
  ir:∀ l∈d.ti,Rise d.sh l
  p1:1<=d.td.length
  p2:d.td.length<=60
  pr:∀ l∈d.td,Rise d.tr l
  wl:d.wa.length=d.th.length
  wc:∀ z∈d.wa,GU z
  fl:d.we.length=d.td.length
  fc:∀ z∈d.we,GU z
structure Parts (H:Hp) (d:Dr) (vs:List V):Prop where
  ex:∃ a1 v2 v3 a4 a5,vs=[nV d.sh,nV d.tr, .ref a1,v2,v3, .ref a4, .ref a5]/\H a1=some (.lst (d.th.map nV))/\Rp H FT 2 v2 (dLL d.ti)/\Rp H FT 2 v3 (dLL d.td)/\H a4=some (.lst (d.wa.map V.str))/\H a5=some (.lst (d.we.map V.str))
theorem Parts.same {d:Dr} (p:Parts H d vs) (s:Same H H'):Parts H' d vs:=by
  obtain ⟨a1,v2,v3,a4,a5,e,h1,h2,h3,h4,h5⟩:=p.ex;exact ⟨a1,v2,v3,a4,a5,e,s _ _ h1,h2.same s,h3.same s,s _ _ h4,s _ _ h5⟩
theorem am {lo hi:Int} (h1:lo<=n) (h2:(n:Int)<=hi):Gv (nV n) lo hi=true:=by
  show (decide (lo<=(n:Nat))&&decide (((n:Nat):Int)<=hi))=true;simp [h1,h2]
def Fg:Sp:=λ vs H Q _=>∃ d,Parts H d vs/\DrOk d/\∀ H',Same H H'->Q .non H'
abbrev Ed:Stmt:=top 22
theorem Jc:FnScope ["shafts","treadles","threading","ties","treading","warp","weft"] ["shafts","treadles","threading","ties","treading","warp","weft"] (Ah Ed):=⟨rfl,rfl,rfl,by decide +kernel,rfl,by decide +kernel,by decide +kernel⟩
theorem Jz (F:Fun K "need_draft" "need_draft" Ed f fd) (T:Txt K mg c) (c_need:CallF P w K mg base "need" 1 ["holds","words"] Nn) (c_is_among:CallF P w K mg base "is_among" 2 ["thing","least","most"] (BS K)) (c_is_list:CallF P w K mg base "is_list" 3 ["thing","least","most"] FD) (c_are_rising:CallF P w K mg base "are_rising" 4 ["thing","most"] Fe) (c_are_colours:CallF P w K mg base "are_colours" 4 ["thing","many"] ET):FnOk P w K mg base CX0 5 f fd ["shafts","treadles","threading","ties","treading","warp","weft"] Fg:=by
  refine F.ok Jc (λ vs H Q E h=> ?_) (λ cdv A outer s H vs Q E hr h=> ?_)
  · obtain ⟨d,⟨a1,v2,v3,a4,a5,rfl,_⟩,_⟩:=h;rfl
  · obtain ⟨d,⟨a1,v2,v3,a4,a5,rfl,h1,h2,h3,h4,h5⟩,ok,k⟩:=h;obtain ⟨m2,a2,vs2,em2,rfl,ha2,_,hl2,hb2,el2⟩:=Dn h2;obtain ⟨m3,a3,vs3,em3,rfl,ha3,_,hl3,hb3,el3⟩:=Dn h3;rw [Aa1] at hl2 hl3;refine ⟨_,(Ac (AD (Ae c_need (hr.mono (by decide)) (Aa (Ae c_is_among (hr.mono (by decide)) (Aa (pv 0) (Aa Ad (Aa (JQ T.k_MOST_SHAFTS) Ab)))) (Aa Aq Ab))))
      (Ac (AD (Ae c_need (hr.mono (by decide)) (Aa (Ae c_is_among (hr.mono (by decide)) (Aa (pv 1) (Aa Ad (Aa (JQ T.k_MOST_TREADLES) Ab)))) (Aa Aq Ab))))
      (Ac (AD (Ae c_need (hr.mono (by decide)) (Aa (Ae c_is_list (hr.mono (by decide)) (Aa (pv 2) (Aa Ad (Aa (JQ T.k_MOST_ENDS) Ab)))) (Aa Aq Ab))))
      (Ac (AD (Ae c_need (hr.mono (by decide)) (Aa (Am (K7 (K:=K)) rfl (T.own _ (by decide)) DF (Aa (AO (BJ (K:=K) (pv 2)) (λ _ _ _ _=>AL) (λ _ _ _ _=>(Ae c_is_among (hr.mono (by decide)) (Aa (pv 0) (Aa Ad (Aa (pv 1) Ab)))))) Ab)) (Aa Aq Ab))))
      (Ac (AD (Ae c_need (hr.mono (by decide)) (Aa (Ae c_is_list (hr.mono (by decide)) (Aa (pv 3) (Aa (pv 1) (Aa (pv 1) Ab)))) (Aa Aq Ab))))
      (Ac (AD (Ae c_need (hr.mono (by decide)) (Aa (Ae c_are_rising hr (Aa (pv 3) (Aa (pv 0) Ab))) (Aa Aq Ab))))
      (Ac (AD (Ae c_need (hr.mono (by decide)) (Aa (Ae c_is_list (hr.mono (by decide)) (Aa (pv 4) (Aa Ad (Aa (JQ T.k_MOST_PICKS) Ab)))) (Aa Aq Ab))))
      (Ac (AD (Ae c_need (hr.mono (by decide)) (Aa (Ae c_are_rising hr (Aa (pv 4) (Aa (pv 1) Ab))) (Aa Aq Ab))))
      (Ac (AD (Ae c_need (hr.mono (by decide)) (Aa (Ae c_are_colours hr (Aa (pv 5) (Aa (Am (BA (K:=K)) rfl (T.own _ (by decide)) boot_len (Aa (pv 2) Ab)) Ab))) (Aa Aq Ab))))
      (Ag (AD (Ae c_need (hr.mono (by decide)) (Aa (Ae c_are_colours hr (Aa (pv 6) (Aa (Am (BA (K:=K)) rfl (T.own _ (by decide)) boot_len (Aa (pv 4) Ab)) Ab))) (Aa Aq Ab)))))))))))))),?_⟩
    walk_at "w";refine ⟨_,_,_,rfl,⟨_, .int _⟩,?_⟩;walk_at "w";rw [am (by have:=ok.s1;omega) (by have:=ok.s2;omega)];refine ⟨_,rfl,?_⟩;walk_at "w";refine ⟨_,_,_,rfl,⟨_, .int _⟩,?_⟩;walk_at "w";rw [am (by have:=ok.t1;omega) (by have:=ok.t2;omega)];refine ⟨_,rfl,?_⟩;walk_at "w";refine ⟨a1,_,_,_,rfl,h1,by have:=ok.h1;simp;omega,by have:=ok.h2;simp;omega,?_⟩;walk_at "w";refine ⟨_,rfl,?_⟩;walk_at "w";refine ⟨a1,rfl,⟨_,SqL.of h1⟩,λ D hD=> ?_⟩;refine F2 (G:=λ _=>true) (Bf (SqL.of h1) rfl) hD (by have:=ok.h2;rw [Aa1];omega) ?_ ?_
    · intro i H' R hi s kk;have hi':i<d.th.length:=by simpa using hi
      rw [BC hi];walk_at "w";refine ⟨_,_,_,rfl,⟨_, .int _⟩,?_⟩;have:=ok.hs _ (getD_mem (y:=0) hi');rw [am (by omega) (by omega)];exact kk H' (Same.refl _)
    intro H1 s1 hl1;walk_at "w";refine IT (SqL.of hl1) ?_;rw [show ((Aa9 (d.th.map nV).length).map λ _=>true).all id=true by simp];walk_at "w";refine ⟨_,rfl,?_⟩;walk_at "w";refine ⟨a2,_,_,_,rfl,s1 _ _ ha2,by have:=ok.il;omega,by have:=ok.il;omega,?_⟩;walk_at "w";refine ⟨_,rfl,?_⟩;walk_at "w";refine ⟨_,d.ti,d.sh,rfl,h2.same s1,ok.ir,λ H2 s2=> ?_⟩;walk_at "w";refine ⟨_,rfl,?_⟩;walk_at "w";have s12:=s1.trans s2;refine ⟨a3,_,_,_,rfl,s12 _ _ ha3,by have:=ok.p1;omega,by have:=ok.p2;omega,?_⟩;walk_at "w";refine ⟨_,rfl,?_⟩;walk_at "w";refine ⟨_,d.td,d.tr,rfl,h3.same s12,ok.pr,λ H3 s3=> ?_⟩;have s13:=s12.trans s3;walk_at "w";refine ⟨_,rfl,?_⟩;walk_at "w";refine A9 (SqL.of (s13 _ _ h1)) ?_;walk_at "w";refine ⟨a4,d.wa,by rw [Aa1,ok.wl],s13 _ _ h4,by have:=ok.wl;have:=ok.h2;omega,ok.wc,λ H4 s4=> ?_⟩;have s14:=s13.trans s4;walk_at "w";refine ⟨_,rfl,?_⟩;walk_at "w";refine A9 (SqL.of (s14 _ _ ha3)) ?_;walk_at "w";refine ⟨a5,d.we,by rw [hl3,ok.fl],s14 _ _ h5,by have:=ok.fl;have:=ok.p2;omega,ok.fc,λ H5 s5=> ?_⟩;walk_at "w";refine ⟨_,rfl,?_⟩;walk_at "w";exact k _ (s14.trans s5)
def DrAt (C:Addr) (H:Hp) (x:Addr) (d:Dr):Prop:=∃ dx v1 v2 v3 v4 v5,H x=some (.ins C dx [("shafts",nV d.sh),("treadles",nV d.tr),("threading",v1),("ties",v2),("treading",v3),("warp",v4),("weft",v5)])/\
  Rp H FT 1 v1 (dT d.th)/\Rp H FT 2 v2 (dTT d.ti)/\Rp H FT 2 v3 (dTT d.td)/\Rp H FT 1 v4 (dST d.wa)/\Rp H FT 1 v5 (dST d.we)
theorem DrAt.same {d:Dr} (h:DrAt C H x d) (s:Same H H'):DrAt C H' x d:=by
  obtain ⟨dx,v1,v2,v3,v4,v5,h0,h1,h2,h3,h4,h5⟩:=h;exact ⟨dx,v1,v2,v3,v4,v5,s _ _ h0,h1.same s,h2.same s,h3.same s,h4.same s,h5.same s⟩
def Bz (c:Cs):Sp:=λ vs H Q _=>∃ (x dx:Addr) (ws:List V) (d:Dr),vs= .ref x::ws/\H x=some (.ins c.Draft dx [])/\Parts H d ws/\DrOk d/\∀ H',But x H H'->DrAt c.Draft H' x d->Q .non H'
abbrev Cg:Stmt:=Aw (top 23) 0
theorem FX:FnScope ["self","shafts","treadles","threading","ties","treading","warp","weft"] ["self","shafts","treadles","threading","ties","treading","warp","weft"] (Ah Cg):=⟨rfl,rfl,rfl,by decide +kernel,rfl,by decide +kernel,by decide +kernel⟩
theorem FW (F:Fun K "__init__" "Draft.__init__" Cg f fd) (T:Txt K mg c) (c_need_draft:CallF P w K mg base "need_draft" 5 ["shafts","treadles","threading","ties","treading","warp","weft"] Fg):FnOk P w K mg base CX0 6 f fd ["self","shafts","treadles","threading","ties","treading","warp","weft"] (Bz c):=by
  refine F.ok FX (λ vs H Q E h=> ?_) (λ cdv A outer s H vs Q E hr h=> ?_)
  · obtain ⟨x,dx,ws,d,rfl,_,⟨a1,v2,v3,a4,a5,rfl,_⟩,_⟩:=h;rfl
  · obtain ⟨x,dx,ws,d,rfl,hx,ps,ok,k⟩:=h;have ps0:=ps;obtain ⟨a1,v2,v3,a4,a5,rfl,h1,h2,h3,h4,h5⟩:=ps;refine ⟨_,(Ac (AD (Ae c_need_draft hr (Aa (pv 1) (Aa (pv 2) (Aa (pv 3) (Aa (pv 4) (Aa (pv 5) (Aa (pv 6) (Aa (pv 7) Ab)))))))))
      (Ac (Cu (pv 0) (pv 1) rfl)
      (Ac (Cu (pv 0) (pv 2) rfl)
      (Ac (Cu (pv 0) (As (BN (K:=K)) rfl (T.own _ (by decide)) AJ (Aa (pv 3) Ab)) rfl)
      (Ac (Cu (pv 0) (As (BN (K:=K)) rfl (T.own _ (by decide)) AJ (Aa (AO (BJ (K:=K) (pv 4)) (λ _ _ _ _=>AL) (λ _ _ _ _=>(As (BN (K:=K)) rfl (T.own _ (by decide)) AJ (Aa (pv 0) Ab)))) Ab)) rfl)
      (Ac (Cu (pv 0) (As (BN (K:=K)) rfl (T.own _ (by decide)) AJ (Aa (AO (BJ (K:=K) (pv 5)) (λ _ _ _ _=>AL) (λ _ _ _ _=>(As (BN (K:=K)) rfl (T.own _ (by decide)) AJ (Aa (pv 0) Ab)))) Ab)) rfl)
      (Ac (Cu (pv 0) (As (BN (K:=K)) rfl (T.own _ (by decide)) AJ (Aa (pv 6) Ab)) rfl)
      (Ag (Cu (pv 0) (As (BN (K:=K)) rfl (T.own _ (by decide)) AJ (Aa (pv 7) Ab)) rfl))))))))),?_⟩
    walk_at "w";refine ⟨d,ps0,ok,λ H1 s1=> ?_⟩;walk_at "w";have B:But x H H1:=But.of s1;have hx1:=s1 _ _ hx;refine Cy hx1 T.kd_Draft.cl T.na_Draft_shafts (by decide) ?_;replace B:=B.put (o:=HO.ins c.Draft dx (Bc "shafts" (nV d.sh) []));have hx2:upd H1 x (HO.ins c.Draft dx (Bc "shafts" (nV d.sh) [])) x=_:=Af;generalize upd H1 x (HO.ins c.Draft dx (Bc "shafts" (nV d.sh) []))=H2 at B hx2 ⊢;walk_at "w";refine Cy hx2 T.kd_Draft.cl T.na_Draft_treadles (by show 1<1000;decide) ?_;replace B:=B.put (o:=HO.ins c.Draft dx (Bc "treadles" (nV d.tr) (Bc "shafts" (nV d.sh) [])));have hx3:upd H2 x (HO.ins c.Draft dx (Bc "treadles" (nV d.tr) (Bc "shafts" (nV d.sh) []))) x=_:=Af;generalize upd H2 x (HO.ins c.Draft dx (Bc "treadles" (nV d.tr) (Bc "shafts" (nV d.sh) [])))=H3 at B hx3 ⊢;walk_at "w";refine Bt (SqL.of (B _ _ h1 (A3 h1 hx (by intro z;cases z)))) λ t1 ht1=> ?_;walk_at "w";have hx3':=Aj (o:=HO.tup (d.th.map nV)) ht1 _ _ hx3;have r1:Rp (upd H3 t1 (HO.tup (d.th.map nV))) FT 1 (.ref t1) (dT d.th):=Qf Af (by have:=ok.h2;omega);replace B:=B.same (Aj (o:=HO.tup (d.th.map nV)) ht1);generalize upd H3 t1 (HO.tup (d.th.map nV))=H4 at B hx3' r1 ⊢;refine Cy hx3' T.kd_Draft.cl T.na_Draft_threading (by show 2<1000;decide) ?_;replace r1:=r1.ins (o:=HO.ins c.Draft dx (Bc "threading" (.ref t1) (Bc "treadles" (nV d.tr) (Bc "shafts" (nV d.sh) [])))) hx3';replace B:=B.put (o:=HO.ins c.Draft dx (Bc "threading" (.ref t1) (Bc "treadles" (nV d.tr) (Bc "shafts" (nV d.sh) []))));have hx5:upd H4 x (HO.ins c.Draft dx (Bc "threading" (.ref t1) (Bc "treadles" (nV d.tr) (Bc "shafts" (nV d.sh) [])))) x=_:=Af;generalize upd H4 x (HO.ins c.Draft dx (Bc "threading" (.ref t1) (Bc "treadles" (nV d.tr) (Bc "shafts" (nV d.sh) []))))=H5 at B hx5 r1 ⊢;walk_at "w";obtain ⟨m2,a2,vs2,em2,rfl,ha2,_,hl2,hb2,el2⟩:=Dn (B.rp hx h2);cases em2;rw [Aa1] at hl2;refine ⟨a2,rfl,⟨_,SqL.of ha2⟩,λ D hD=> ?_⟩;refine Bd (m:=1) (G:=λ i=>dT (d.ti.getD i [])) (Bf (SqL.of ha2) rfl) hD hb2 ?_ ?_
    · intro i H' R hi s kk;have hi':i<d.ti.length:=by omega
      have r:=el2 i (by simpa using hi');rw [AU dL d.ti i .non [] hi'] at r;obtain ⟨b,eb,hb3,_,hb4⟩:=B9 r;rw [eb];walk_at "w";exact Bt (SqL.of (s _ _ hb3)) λ q hq=>kk _ _ (Aj hq) (Qf Af hb4)
    intro H6 ys s6 hl6 r2;rw [hl2,RP] at r2;walk_at "w";refine Bt (SqL.of hl6) λ t2 ht2=> ?_;walk_at "w";replace r2:Rp (upd H6 t2 (HO.tup ys)) FT 2 (.ref t2) (dTT d.ti):=(r2.tupd hl6 ht2).any;have s62:=s6.trans (Aj (o:=HO.tup ys) ht2);replace B:=B.same s62;replace r1:=r1.same s62;have hx6:=s62 _ _ hx5;generalize upd H6 t2 (HO.tup ys)=H7 at B hx6 r1 r2 ⊢;refine Cy hx6 T.kd_Draft.cl T.na_Draft_ties (by show 3<1000;decide) ?_;generalize ef:Bc "ties" (V.ref t2) _=f7;replace r1:=r1.ins (o:=HO.ins c.Draft dx f7) hx6;replace r2:=r2.ins (o:=HO.ins c.Draft dx f7) hx6;replace B:=B.put (o:=HO.ins c.Draft dx f7);have hx8:upd H7 x (HO.ins c.Draft dx f7) x=_:=Af;generalize upd H7 x (HO.ins c.Draft dx f7)=H8 at B hx8 r1 r2 ⊢;subst ef;walk_at "w";obtain ⟨m3,a3,vs3,em3,rfl,ha3,_,hl3,hb3,el3⟩:=Dn (B.rp hx h3);cases em3;rw [Aa1] at hl3;refine ⟨a3,rfl,⟨_,SqL.of ha3⟩,λ D hD=> ?_⟩;refine Bd (m:=1) (G:=λ i=>dT (d.td.getD i [])) (Bf (SqL.of ha3) rfl) hD hb3 ?_ ?_
    · intro i H' R hi s kk;have hi':i<d.td.length:=by omega
      have r:=el3 i (by simpa using hi');rw [AU dL d.td i .non [] hi'] at r;obtain ⟨b,eb,hb3,_,hb4⟩:=B9 r;rw [eb];walk_at "w";exact Bt (SqL.of (s _ _ hb3)) λ q hq=>kk _ _ (Aj hq) (Qf Af hb4)
    intro H9 ys9 s9 hl9 r3;rw [hl3,RP] at r3;walk_at "w";refine Bt (SqL.of hl9) λ t3 ht3=> ?_;walk_at "w";replace r3:Rp (upd H9 t3 (HO.tup ys9)) FT 2 (.ref t3) (dTT d.td):=(r3.tupd hl9 ht3).any;have s93:=s9.trans (Aj (o:=HO.tup ys9) ht3);replace B:=B.same s93;replace r1:=r1.same s93;replace r2:=r2.same s93;have hx9:=s93 _ _ hx8;generalize upd H9 t3 (HO.tup ys9)=HA at B hx9 r1 r2 r3 ⊢;refine Cy hx9 T.kd_Draft.cl T.na_Draft_treading (by show 4<1000;decide) ?_;generalize ef:Bc "treading" (V.ref t3) _=f9;replace r1:=r1.ins (o:=HO.ins c.Draft dx f9) hx9;replace r2:=r2.ins (o:=HO.ins c.Draft dx f9) hx9;replace r3:=r3.ins (o:=HO.ins c.Draft dx f9) hx9;replace B:=B.put (o:=HO.ins c.Draft dx f9);have hxB:upd HA x (HO.ins c.Draft dx f9) x=_:=Af;generalize upd HA x (HO.ins c.Draft dx f9)=HB at B hxB r1 r2 r3 ⊢;subst ef;walk_at "w";refine Bt (SqL.of (B _ _ h4 (A3 h4 hx (by intro z;cases z)))) λ t4 ht4=> ?_;walk_at "w";have r4:Rp (upd HB t4 (HO.tup (d.wa.map V.str))) FT 1 (.ref t4) (dST d.wa):=OW Af (by have:=ok.h2;have:=ok.wl;omega);have sB:=Aj (o:=HO.tup (d.wa.map V.str)) ht4;replace B:=B.same sB;replace r1:=r1.same sB;replace r2:=r2.same sB;replace r3:=r3.same sB;replace hxB:=sB _ _ hxB;generalize upd HB t4 (HO.tup (d.wa.map V.str))=HC at B hxB r1 r2 r3 r4 ⊢;refine Cy hxB T.kd_Draft.cl T.na_Draft_warp (by show 5<1000;decide) ?_;generalize ef:Bc "warp" (V.ref t4) _=fC;replace r1:=r1.ins (o:=HO.ins c.Draft dx fC) hxB;replace r2:=r2.ins (o:=HO.ins c.Draft dx fC) hxB;replace r3:=r3.ins (o:=HO.ins c.Draft dx fC) hxB;replace r4:=r4.ins (o:=HO.ins c.Draft dx fC) hxB;replace B:=B.put (o:=HO.ins c.Draft dx fC);have hxD:upd HC x (HO.ins c.Draft dx fC) x=_:=Af;generalize upd HC x (HO.ins c.Draft dx fC)=HD at B hxD r1 r2 r3 r4 ⊢;subst ef;walk_at "w";refine Bt (SqL.of (B _ _ h5 (A3 h5 hx (by intro z;cases z)))) λ t5 ht5=> ?_;walk_at "w";have r5:Rp (upd HD t5 (HO.tup (d.we.map V.str))) FT 1 (.ref t5) (dST d.we):=OW Af (by have:=ok.p2;have:=ok.fl;omega);have sD:=Aj (o:=HO.tup (d.we.map V.str)) ht5;replace B:=B.same sD;replace r1:=r1.same sD;replace r2:=r2.same sD;replace r3:=r3.same sD;replace r4:=r4.same sD;replace hxD:=sD _ _ hxD;generalize upd HD t5 (HO.tup (d.we.map V.str))=HE at B hxD r1 r2 r3 r4 r5 ⊢;refine Cy hxD T.kd_Draft.cl T.na_Draft_weft (by show 6<1000;decide) ?_;generalize ef:Bc "weft" (V.ref t5) _=fE;replace r1:=r1.ins (o:=HO.ins c.Draft dx fE) hxD;replace r2:=r2.ins (o:=HO.ins c.Draft dx fE) hxD;replace r3:=r3.ins (o:=HO.ins c.Draft dx fE) hxD;replace r4:=r4.ins (o:=HO.ins c.Draft dx fE) hxD;replace r5:=r5.ins (o:=HO.ins c.Draft dx fE) hxD;replace B:=B.put (o:=HO.ins c.Draft dx fE);have hxF:upd HD x (HO.ins c.Draft dx fE) x=_:=Af;walk_at "w";subst ef;exact k _ B ⟨dx,_,_,_,_,_,Af,r1,r2,r3,r4,r5⟩
theorem MO {c:Cs} {d:Dr} {ws:List V} (ps:Parts H d ws) (ok:DrOk d) (h:∀ H' x,Same H H'->H x=none->DrAt c.Draft H' x d->Q (.ref x) H'):
    ∀ x dx,H x=none->H dx=none->dx≠x->Bz c (.ref x::ws) (upd (upd H dx (.own x)) x (.ins c.Draft dx [])) (λ v H2=>v= .non/\Q (.ref x) H2) E0:=by
  intro x dx hx hdx ne;have s0:=Ip (o:=HO.ins c.Draft dx []) (u:= .own x) hx hdx;exact ⟨x,dx,ws,d,rfl,Af,ps.same s0,ok,λ H' B at'=>⟨rfl,h H' x (λ b o e=>B b o (s0 b o e) (Ax e hx)) hx at'⟩⟩
def dDr (d:Dr):Dt:= .tup [dN d.sh,dN d.tr,dL d.th,dLL d.ti,dLL d.td,dS d.wa,dS d.we]
def Co (c:Cs):Sp:=λ vs H Q _=>∃ x d,vs=[.ref x]/\DrAt c.Draft H x d/\∀ H' p,Same H H'->H p=none->Rp H' (FN H) 3 (.ref p) (dDr d)->Q (.ref p) H'
abbrev Ee:Stmt:=Aw (top 23) 1
theorem JK:FnScope ["self"] ["self"] (Ah Ee):=⟨rfl,rfl,rfl,by decide +kernel,rfl,by decide +kernel,by decide +kernel⟩
theorem JJ (F:Fun K "told" "Draft.told" Ee f fd) (T:Txt K mg c):FnOk P w K mg base CX0 1 f fd ["self"] (Co c):=by
  refine F.ok JK (λ vs H Q E h=> ?_) (λ cdv A outer s H vs Q E hr h=> ?_)
  · obtain ⟨x,d,rfl,_⟩:=h;rfl
  · obtain ⟨x,d,rfl,⟨dx,v1,v2,v3,v4,v5,h0,h1,h2,h3,h4,h5⟩,k⟩:=h;obtain ⟨a1,rfl,e1,b1⟩:=C4 h1;obtain ⟨m2,a2,vs2,em2,rfl,e2,l2,b2,el2⟩:=GN h2;cases em2;obtain ⟨m3,a3,vs3,em3,rfl,e3,l3,b3,el3⟩:=GN h3;cases em3;obtain ⟨a4,rfl,e4,b4⟩:=DY h4;obtain ⟨a5,rfl,e5,b5⟩:=DY h5;rw [Aa1] at l2 l3;refine ⟨_,(Ag (Ak (AE (Aa (Az (K:=K) (pv 0) rfl) (Aa (Az (K:=K) (pv 0) rfl) (Aa (As (BD (K:=K)) rfl (T.own _ (by decide)) AA (Aa (Az (K:=K) (pv 0) rfl) Ab)) (Aa (AO (Ka (K:=K) (Az (K:=K) (pv 0) rfl)) (λ _ _ _ _=>AL) (λ _ _ _ _=>(As (BD (K:=K)) rfl (T.own _ (by decide)) AA (Aa (pv 0) Ab)))) (Aa (AO (Ka (K:=K) (Az (K:=K) (pv 0) rfl)) (λ _ _ _ _=>AL) (λ _ _ _ _=>(As (BD (K:=K)) rfl (T.own _ (by decide)) AA (Aa (pv 0) Ab)))) (Aa (As (BD (K:=K)) rfl (T.own _ (by decide)) AA (Aa (Az (K:=K) (pv 0) rfl) Ab)) (Aa (As (BD (K:=K)) rfl (T.own _ (by decide)) AA (Aa (Az (K:=K) (pv 0) rfl) Ab)) Ab)))))))))),?_⟩;walk_at "w";refine ⟨_,_,_,_,_,rfl,h0,T.kd_Draft.cl,T.na_Draft_shafts,rfl,?_⟩;walk_at "w";refine ⟨_,_,_,_,_,rfl,h0,T.kd_Draft.cl,T.na_Draft_treadles,rfl,?_⟩;walk_at "w";refine ⟨_,_,_,_,_,rfl,h0,T.kd_Draft.cl,T.na_Draft_threading,rfl,?_⟩;walk_at "w";refine Bi (SqT.of e1) λ p1 hp1=> ?_;walk_at "w";have s1:=Aj (o:=HO.lst (d.th.map nV)) hp1;have r1:Rp (upd H p1 (HO.lst (d.th.map nV))) (FN H) 2 (.ref p1) (dL d.th):=Be Af hp1 b1;generalize upd H p1 (HO.lst (d.th.map nV))=H1 at s1 r1 ⊢;refine ⟨_,_,_,_,_,rfl,s1 _ _ h0,T.kd_Draft.cl,T.na_Draft_ties,rfl,?_⟩;walk_at "w";refine ⟨a2,rfl,⟨_,SqT.of (s1 _ _ e2)⟩,λ D2 hD2=> ?_⟩;refine Bd (m:=1) (G:=λ i=>dL (d.ti.getD i [])) (E5 (SqT.of (s1 _ _ e2)) rfl) hD2 b2 ?_ ?_
    · intro i H' R hi s kk;have hi':i<d.ti.length:=by omega
      have r:=el2 i (by simpa using hi');rw [AU dT d.ti i .non [] hi'] at r;obtain ⟨b,eb,hb3,hb4⟩:=C4 r;rw [eb];walk_at "w";exact Bi (SqT.of (s _ _ (s1 _ _ hb3))) λ q hq=>kk _ _ (Aj hq) (Be Af hq hb4)
    intro H2 ys2 s2 hl2 r2;rw [l2,PU] at r2;replace r2:Rp H2 (FN H) 2 (.ref D2) (dLL d.ti):=r2.imp λ a ha=>s1.free ha;have s02:=s1.trans s2;walk_at "w";refine ⟨_,_,_,_,_,rfl,s02 _ _ h0,T.kd_Draft.cl,T.na_Draft_treading,rfl,?_⟩;walk_at "w";refine ⟨a3,rfl,⟨_,SqT.of (s02 _ _ e3)⟩,λ D3 hD3=> ?_⟩;refine Bd (m:=1) (G:=λ i=>dL (d.td.getD i [])) (E5 (SqT.of (s02 _ _ e3)) rfl) hD3 b3 ?_ ?_
    · intro i H' R hi s kk;have hi':i<d.td.length:=by omega
      have r:=el3 i (by simpa using hi');rw [AU dT d.td i .non [] hi'] at r;obtain ⟨b,eb,hb3,hb4⟩:=C4 r;rw [eb];walk_at "w";exact Bi (SqT.of (s _ _ (s02 _ _ hb3))) λ q hq=>kk _ _ (Aj hq) (Be Af hq hb4)
    intro H3 ys3 s3 hl3 r3;rw [l3,PU] at r3;replace r3:Rp H3 (FN H) 2 (.ref D3) (dLL d.td):=r3.imp λ a ha=>s02.free ha;have s03:=s02.trans s3;walk_at "w";refine ⟨_,_,_,_,_,rfl,s03 _ _ h0,T.kd_Draft.cl,T.na_Draft_warp,rfl,?_⟩;walk_at "w";refine Bi (SqT.of (s03 _ _ e4)) λ p4 hp4=> ?_;walk_at "w";have s4:=Aj (o:=HO.lst (d.wa.map V.str)) hp4;have r4:Rp (upd H3 p4 (HO.lst (d.wa.map V.str))) (FN H) 2 (.ref p4) (dS d.wa):=Ji Af (s03.free hp4) b4;generalize upd H3 p4 (HO.lst (d.wa.map V.str))=H4 at s4 r4 ⊢;have s04:=s03.trans s4;refine ⟨_,_,_,_,_,rfl,s04 _ _ h0,T.kd_Draft.cl,T.na_Draft_weft,rfl,?_⟩;walk_at "w";refine Bi (SqT.of (s04 _ _ e5)) λ p5 hp5=> ?_;walk_at "w";have s5:=Aj (o:=HO.lst (d.we.map V.str)) hp5;have r5:Rp (upd H4 p5 (HO.lst (d.we.map V.str))) (FN H) 2 (.ref p5) (dS d.we):=Ji Af (s04.free hp5) b5;generalize upd H4 p5 (HO.lst (d.we.map V.str))=H5 at s5 r5 ⊢;have s05:=s04.trans s5;intro p hp;have s6:=Aj (o:=HO.tup [nV d.sh,nV d.tr, .ref p1, .ref D2, .ref D3, .ref p4, .ref p5]) hp;refine k _ p (s05.trans s6) (s05.free hp) (HK Af (.int _) (.int _) ?_ ?_ ?_ ?_ ?_)
    · exact (r1.same (s2.trans (s3.trans (s4.trans s5)))).same s6
    · exact (r2.same (s3.trans (s4.trans s5))).same s6
    · exact (r3.same (s4.trans s5)).same s6
    · exact (r4.same s5).same s6
    · exact r5.same s6
def BK (c:Cs):Sp:=λ vs H Q _=>∃ x d,vs=[.ref x]/\DrAt c.Draft H x d/\Q (nV d.th.length) H
abbrev Ep:Stmt:=Aw (top 23) 2
theorem Jr:FnScope ["self"] ["self"] (Ah Ep):=⟨rfl,rfl,rfl,by decide +kernel,rfl,by decide +kernel,by decide +kernel⟩
theorem Jl (F:Fun K "ends" "Draft.ends" Ep f fd) (T:Txt K mg c):FnOk P w K mg base CX0 1 f fd ["self"] (BK c):=by
  refine F.ok Jr (λ vs H Q E h=> ?_) (λ cdv A outer s H vs Q E hr h=> ?_)
  · obtain ⟨x,d,rfl,_⟩:=h;rfl
  · obtain ⟨x,d,rfl,⟨dx,v1,v2,v3,v4,v5,h0,h1,h2,h3,h4,h5⟩,k⟩:=h;obtain ⟨a1,rfl,e1,b1⟩:=C4 h1;refine ⟨_,(Ag (Ak (Am (BA (K:=K)) rfl (T.own _ (by decide)) boot_len (Aa (Az (K:=K) (pv 0) rfl) Ab)))),?_⟩;walk_at "w";refine ⟨_,_,_,_,_,rfl,h0,T.kd_Draft.cl,T.na_Draft_threading,rfl,?_⟩;walk_at "w";refine Hw (SqT.of e1) ?_;rw [Aa1];exact k
def ID (K:PySem.W.Frag):Sp:=λ vs H Q _=>∃ (a b:Addr) (tp:Bool) (ts ks:List Nat),vs=[.ref a, .ref b]/\SqL K H a (ts.map nV)/\SqS tp K H b (ks.map nV)/\ks.length<=1000/\(∀ k∈ks,1<=k/\k<=ts.length)/\∀ H',Same H H'->Q (nV (MM.uOf (ks.map λ k=>ts.getD (k - 1) 0))) H'
theorem GL (G:Nat->Nat):((Aa9 n).map λ i=>((G i:Nat):Int)).map V.int=((Aa9 n).map G).map nV:=by rw [Ae1,Ae1];rfl
abbrev Gj:Stmt:=top 36
theorem MF:FnScope ["ties","treadles"] ["ties","treadles"] (Ah Gj):=⟨rfl,rfl,rfl,by decide +kernel,rfl,by decide +kernel,by decide +kernel⟩
theorem L4 (F:Fun K "lift_by" "lift_by" Gj f fd) (T:Txt K mg c) (c_union_of:CallF P w K mg base "union_of" 1 ["masks"] (EF K)):FnOk P w K mg base CX0 2 f fd ["ties","treadles"] (ID K):=by
  refine F.ok MF (λ vs H Q E h=> ?_) (λ cdv A outer s H vs Q E hr h=> ?_)
  · obtain ⟨a,b,tp,ts,ks,rfl,_⟩:=h;rfl
  · obtain ⟨a,b,tp,ts,ks,rfl,sa,sb,hl,hk,k⟩:=h;refine ⟨_,(Ag (Ak (Ae c_union_of hr (Aa (AO (OV (K:=K) (pv 1)) (λ _ _ _ _=>AL) (λ _ _ _ _=>(Ar (A6 (K:=K)) (pv 1) (Al BH (pv 0) Ad) (λ _ _=>rfl)))) Ab)))),?_⟩;walk_at "w";refine ⟨tp,b,rfl,⟨_,sb⟩,λ D hD=> ?_⟩;refine BP (G:=λ i=>((ts.getD (ks.getD i 0 - 1) 0:Nat):Int)) (Tb sb rfl) hD (by rw [Aa1];omega) ?_ ?_
    · intro i H' R hi s kk;have hi':i<ks.length:=by simpa using hi
      have hm:=hk _ (getD_mem (y:=0) hi');rw [BC hi];walk_at "w";refine AF (SqS.same (tp:=false) sa s) (Le (by omega) (by omega)) ?_;rw [show (((ks.getD i 0:Nat):Int) - 1).toNat=ks.getD i 0 - 1 by omega];exact kk H' (Same.refl _)
    · intro H' s hl2;rw [GL,Aa1] at hl2;walk_at "w";refine ⟨false,D,_,rfl,SqL.of hl2,λ H2 s2=> ?_⟩;rw [Dy (λ k=>ts.getD (k - 1) 0) ks 0];exact k H2 (s.trans s2)
def CQ (ti:List (List Nat)) (ks:List Nat):Nat:=MM.uOf (ks.map λ k=>(ti.map MM.mOf).getD (k - 1) 0)
theorem Rise.le (h:Rise m ns):∀ n∈ns,1<=n/\n<=m:=λ n hn=>by
  obtain ⟨i,hi,rfl⟩:=List.getElem_of_mem hn;have:=h i hi;rw [show ns.getD i 0=ns[i] by simp [Aa2,hi]] at this;omega
theorem Rise.len:∀ {ns:List Nat},Rise m ns->ns.length<=m:=by
  intro ns h;have:∀ i,i<ns.length->i+1<=ns.getD i 0:=by
    intro i
    induction i with
    | zero=>intro hi;have:=h 0 hi;omega
    | succ i ih=>
      intro hi;have h1:=ih (by omega);have h2:=h (i+1) hi;have e:(0::ns).getD (i+1) 0=ns.getD i 0:=rfl;omega
  rcases Nat.eq_zero_or_pos ns.length with z | z
  · omega
  · have h1:=this (ns.length - 1) (by omega);have h2:=h (ns.length - 1) (by omega);omega
def E1 (c:Cs):Sp:=λ vs H Q _=>∃ x d,vs=[.ref x]/\DrAt c.Draft H x d/\DrOk d/\∀ H' p,Same H H'->H p=none->H' p=some (.lst ((d.td.map (CQ d.ti)).map nV))->Q (.ref p) H'
abbrev FA:Stmt:=top 37
theorem sc_lifts_of:FnScope ["draft","ties"] ["draft"] (Ah FA):=⟨rfl,rfl,rfl,by decide +kernel,rfl,by decide +kernel,by decide +kernel⟩
theorem LA (F:Fun K "lifts_of" "lifts_of" FA f fd) (T:Txt K mg c) (c_mask_of:CallF P w K mg base "mask_of" 2 ["numbers"] (FB K)) (c_lift_by:CallF P w K mg base "lift_by" 2 ["ties","treadles"] (ID K)):FnOk P w K mg base CX0 3 f fd ["draft"] (E1 c):=by
  refine F.ok sc_lifts_of (λ vs H Q E h=> ?_) (λ cdv A outer s H vs Q E hr h=> ?_)
  · obtain ⟨x,d,rfl,_⟩:=h;rfl
  · obtain ⟨x,d,rfl,⟨dx,v1,v2,v3,v4,v5,h0,h1,h2,h3,h4,h5⟩,ok,k⟩:=h;obtain ⟨m2,a2,vs2,em2,rfl,e2,l2,b2,el2⟩:=GN h2;cases em2;obtain ⟨m3,a3,vs3,em3,rfl,e3,l3,b3,el3⟩:=GN h3;cases em3;rw [Aa1] at l2 l3;refine ⟨_,(Ac (Av (i:=1) sc_lifts_of.nd rfl (Or.inr rfl) (AO (Ka (K:=K) (Az (K:=K) (pv 0) rfl)) (λ _ _ _ _=>AL) (λ _ _ _ _=>(Ae c_mask_of hr (Aa (pv 0) Ab)))))
      (Ag (Ak (AO (Ka (K:=K) (Az (K:=K) (pv 0) rfl)) (λ _ _ _ _=>AL) (λ _ _ _ _=>(Ae c_lift_by hr (Aa (pv 1) (Aa (pv 0) Ab)))))))),?_⟩
    walk_at "w";refine ⟨_,_,_,_,_,rfl,h0,T.kd_Draft.cl,T.na_Draft_ties,rfl,?_⟩;walk_at "w";refine ⟨a2,rfl,⟨_,SqT.of e2⟩,λ D2 hD2=> ?_⟩;refine BP (G:=λ i=>((MM.mOf (d.ti.getD i []):Nat):Int)) (E5 (SqT.of e2) rfl) hD2 b2 ?_ ?_
    · intro i H' R hi s kk;have hi':i<d.ti.length:=by omega
      have r:=el2 i (by simpa using hi');rw [AU dT d.ti i .non [] hi'] at r;obtain ⟨b,eb,hb3,hb4⟩:=C4 r;rw [eb];walk_at "w";have hm:=(ok.ir _ (getD_mem (y:=[]) hi')).le;exact ⟨true,b,_,rfl,SqT.of (s _ _ hb3),λ n hn=>⟨(hm n hn).1,by have:=hm n hn;have:=ok.s2;omega⟩,λ H3 s3=>kk H3 s3⟩
    intro H1 s1 hl1;rw [GL,l2,Dy MM.mOf d.ti []] at hl1;walk_at "w";refine ⟨_,_,_,_,_,rfl,s1 _ _ h0,T.kd_Draft.cl,T.na_Draft_treading,rfl,?_⟩;walk_at "w";refine ⟨a3,rfl,⟨_,SqT.of (s1 _ _ e3)⟩,λ D3 hD3=> ?_⟩;refine BP (G:=λ i=>((CQ d.ti (d.td.getD i []):Nat):Int)) (E5 (SqT.of (s1 _ _ e3)) rfl) hD3 b3 ?_ ?_
    · intro i H' R hi s kk;have hi':i<d.td.length:=by omega
      have r:=el3 i (by simpa using hi');rw [AU dT d.td i .non [] hi'] at r;obtain ⟨b,eb,hb3,hb4⟩:=C4 r;rw [eb];walk_at "w";have hR:=ok.pr _ (getD_mem (y:=[]) hi');have hm:=hR.le;have hln:=hR.len;exact ⟨D2,b,true,_,_,rfl,SqL.of (s _ _ hl1),SqT.of (s _ _ (s1 _ _ hb3)),by have:=ok.t2;omega,λ n hn=>⟨(hm n hn).1,by have:=hm n hn;have:=ok.il;rw [Aa1];omega⟩,λ H3 s3=>kk H3 s3⟩
    intro H2 s2 hl2;rw [GL,l3,Dy (CQ d.ti) d.td []] at hl2;walk_at "w";exact k H2 D3 (s1.trans s2) (s1.free hD3) hl2
def Fb (th:List Nat) (s:Nat):Nat:=MM.ofB (λ e=>decide (th.getD e 0=s)) th.length
theorem Sa (f:Nat->Bool) (w:Nat):MM.mOf (((Aa9 w).filter f).map (· + 1))=MM.ofB f w:=by
  refine Nat.eq_of_testBit_eq λ i=> ?_;rw [MM.mOf_bit,MM.ofB_bit,Ad0,List.any_eq_true];constructor
  · rintro ⟨n,hn,e⟩;obtain ⟨k,hk,rfl⟩:=Ac3.mp hn;obtain ⟨h1,h2⟩:=Ag0.mp hk;have e:k+1 - 1=i:=of_decide_eq_true e;have e:k=i:=by omega
    subst e;simp [Ae9.mp h1,h2]
  · intro h;simp only [Ad9,decide_eq_true_eq] at h;exact ⟨i+1,Ac3.mpr ⟨i,Ag0.mpr ⟨Ae9.mpr h.1,h.2⟩,rfl⟩,by simp⟩
def Eu (K:PySem.W.Frag):Sp:=λ vs H Q _=>∃ (a:Addr) (tp:Bool) (th:List Nat) (s:Nat),vs=[.ref a,nV s]/\SqS tp K H a (th.map nV)/\th.length<=900/\∀ H',Same H H'->Q (nV (Fb th s)) H'
abbrev C0:Stmt:=top 38
theorem Hn:FnScope ["threading","shaft"] ["threading","shaft"] (Ah C0):=⟨rfl,rfl,rfl,by decide +kernel,rfl,by decide +kernel,by decide +kernel⟩
theorem Hr (F:Fun K "ends_through" "ends_through" C0 f fd) (T:Txt K mg c) (c_mask_of:CallF P w K mg base "mask_of" 2 ["numbers"] (FB K)):FnOk P w K mg base CX0 3 f fd ["threading","shaft"] (Eu K):=by
  refine F.ok Hn (λ vs H Q E h=> ?_) (λ cdv A outer s H vs Q E hr h=> ?_)
  · obtain ⟨a,tp,th,s,rfl,_⟩:=h;rfl
  · obtain ⟨a,tp,th,s,rfl,sa,hl,k⟩:=h;refine ⟨_,(Ag (Ak (Ae c_mask_of hr (Aa (EI (K:=K) (OM (K:=K) rfl (T.own _ (by decide)) (Aa (pv 0) Ab)) (λ _ _ _ _=>(E3 (Au Bg (pv 1) (pv 2) (AC _)))) (λ _ _ _ _=>(pv 0))) Ab)))),?_⟩;walk_at "w";refine ⟨tp,a,rfl,⟨_,sa⟩,λ D hD=> ?_⟩;refine Cc (p:=λ i=>decide (th.getD i 0=s)) (G:=λ i=>((i+1:Nat):Int)) (NS sa rfl rfl) hD (by rw [Aa1];omega) ?_ ?_ ?_
    · intro i H' R hi s2 kk;rw [BC hi];walk_at "w";rw [show decide (((th.getD i 0:Nat):Int)=(s:Nat))=decide (th.getD i 0=s) by rw [Ad0];simp only [decide_eq_true_eq];omega];exact kk H' (Same.refl _)
    · intro i H' R hi hp s2 kk;walk_at "w";exact kk H' (Same.refl _)
    · intro H' s2 hl2;walk_at "w";have e:(((Aa9 (th.map nV).length).filter λ i=>decide (th.getD i 0=s)).map λ i=>((i+1:Nat):Int)).map V.int=(((Aa9 th.length).filter λ i=>decide (th.getD i 0=s)).map (· + 1)).map nV:=by
        rw [Aa1,Ae1,Ae1];rfl
      rw [e] at hl2;refine ⟨false,D,_,rfl,SqL.of hl2,λ n hn=> ?_,λ H3 s3=> ?_⟩
      · obtain ⟨j,hj,rfl⟩:=Ac3.mp hn;have:=Ae9.mp (Ag0.mp hj).1;omega
      · rw [Sa];exact k H3 (s2.trans s3)
def Fk (K:PySem.W.Frag):Sp:=λ vs H Q _=>∃ (a:Addr) (tp:Bool) (th:List Nat) (s:Nat),vs=[.ref a,nV s]/\SqS tp K H a (th.map nV)/\th.length<=900/\s<=900/\∀ H' p,Same H H'->H p=none->H' p=some (.lst (((Aa9 s).map λ i=>Fb th (i+1)).map nV))->Q (.ref p) H'
abbrev Eh:Stmt:=top 39
theorem JC:FnScope ["threading","shafts"] ["threading","shafts"] (Ah Eh):=⟨rfl,rfl,rfl,by decide +kernel,rfl,by decide +kernel,by decide +kernel⟩
theorem Jq (F:Fun K "shaft_ends" "shaft_ends" Eh f fd) (T:Txt K mg c) (c_ends_through:CallF P w K mg base "ends_through" 3 ["threading","shaft"] (Eu K)):FnOk P w K mg base CX0 4 f fd ["threading","shafts"] (Fk K):=by
  refine F.ok JC (λ vs H Q E h=> ?_) (λ cdv A outer s H vs Q E hr h=> ?_)
  · obtain ⟨a,tp,th,s,rfl,_⟩:=h;rfl
  · obtain ⟨a,tp,th,s,rfl,sa,hl,hs,k⟩:=h;refine ⟨_,(Ag (Ak (AO (Ki rfl (T.own _ (by decide)) (Aa Ad (Aa (Al AW (pv 1) Ad) Ab))) (λ _ _ _ _=>AL) (λ _ _ _ _=>(Ae c_ends_through hr (Aa (pv 1) (Aa (pv 0) Ab))))))),?_⟩;walk_at "w";refine ⟨_,_,rfl,⟨by decide,by decide,by omega,by omega⟩,λ D hD=> ?_⟩;rw [show ((s:Int)+1 - 1).toNat=s by omega];refine BP (G:=λ i=>((Fb th (i+1):Nat):Int)) (Gq rfl) hD (by omega) ?_ ?_
    · intro i H' R hi s2 kk;walk_at "w";refine ⟨a,tp,th,i+1,by rw [show (1:Int)+(i:Nat)=((i+1:Nat):Int) by omega],sa.same s2,hl,kk⟩
    · intro H' s2 hl2;rw [GL] at hl2;exact k H' D s2 hD hl2
def Kn (cs:List Nat) (l:Nat):Nat:=MM.uOf ((MM.nOf l).map λ s=>cs.getD (s - 1) 0)
def J5 (K:PySem.W.Frag):Sp:=λ vs H Q _=>∃ (a:Addr) (cs:List Nat) (l:Nat),vs=[.ref a,nV l]/\SqL K H a (cs.map nV)/\l<2 ^ cs.length/\cs.length<=900/\∀ H',Same H H'->Q (nV (Kn cs l)) H'
abbrev IU:Stmt:=top 40
theorem NE:FnScope ["carried","lift"] ["carried","lift"] (Ah IU):=⟨rfl,rfl,rfl,by decide +kernel,rfl,by decide +kernel,by decide +kernel⟩
theorem NP (F:Fun K "row_by" "row_by" IU f fd) (T:Txt K mg c) (c_numbers_of:CallF P w K mg base "numbers_of" 3 ["mask"] Fi) (c_union_of:CallF P w K mg base "union_of" 1 ["masks"] (EF K)):FnOk P w K mg base CX0 4 f fd ["carried","lift"] (J5 K):=by
  refine F.ok NE (λ vs H Q E h=> ?_) (λ cdv A outer s H vs Q E hr h=> ?_)
  · obtain ⟨a,cs,l,rfl,_⟩:=h;rfl
  · obtain ⟨a,cs,l,rfl,sa,hl,hc,k⟩:=h;refine ⟨_,(Ag (Ak (Ae c_union_of (hr.mono (by decide)) (Aa (AO (BJ (K:=K) (Ae c_numbers_of hr (Aa (pv 1) Ab))) (λ _ _ _ _=>AL) (λ _ _ _ _=>(Ar (A6 (K:=K)) (pv 1) (Al BH (pv 0) Ad) (λ _ _=>rfl)))) Ab)))),?_⟩;walk_at "w";refine ⟨l,rfl,Ab3 hl (Ae7 (Nat.zero_lt_two) hc),λ H1 p s1 hp h1=> ?_⟩;walk_at "w";refine ⟨p,rfl,⟨_,SqL.of h1⟩,λ D hD=> ?_⟩;have hn:=MM.nOf_len hl;refine BP (G:=λ i=>((cs.getD ((MM.nOf l).getD i 0 - 1) 0:Nat):Int)) (Bf (SqL.of h1) rfl) hD (by rw [Aa1];omega) ?_ ?_
    · intro i H' R hi s kk;have hi':i<(MM.nOf l).length:=by simpa using hi
      obtain ⟨m1,m2⟩:=(MM.nOf_mem l _).mp (getD_mem (y:=0) hi');have m3:(MM.nOf l).getD i 0 - 1<cs.length:=by
        rcases Ah4 ((MM.nOf l).getD i 0 - 1) cs.length with z | z
        · exact z
        · rw [Ae6 (Ab3 hl (Ae7 (by decide) z))] at m2;cases m2
      rw [BC hi];walk_at "w";refine AF (SqS.same (tp:=false) (SqS.same (tp:=false) sa s1) s) (Le (by omega) (by omega)) ?_;rw [show ((((MM.nOf l).getD i 0:Nat):Int) - 1).toNat=(MM.nOf l).getD i 0 - 1 by omega];exact kk H' (Same.refl _)
    · intro H' s hl2;rw [GL,Aa1] at hl2;walk_at "w";refine ⟨false,D,_,rfl,SqL.of hl2,λ H2 s2=> ?_⟩;rw [Dy (λ s=>cs.getD (s - 1) 0) (MM.nOf l) 0];exact k H2 (s1.trans (s.trans s2))
def BV (d:Dr):List Nat:=d.td.map λ ks=>Kn ((Aa9 d.sh).map λ i=>Fb d.th (i+1)) (CQ d.ti ks)
theorem J1 (ti:List (List Nat)) (ks:List Nat) (i:Nat):(CQ ti ks).testBit i=ks.any λ k=>((ti.map MM.mOf).getD (k - 1) 0).testBit i:=by
  unfold CQ;rw [MM.uOf_bit,List.any_map];rfl
theorem EJ {d:Dr} (ok:DrOk d) (ks:List Nat):CQ d.ti ks<2 ^ d.sh:=by
  refine Nat.lt_pow_two_of_testBit _ λ i hi=> ?_;rw [J1,List.any_eq_false];intro k _;by_cases h:k - 1<d.ti.length
  · rw [AU MM.mOf d.ti (k - 1) 0 [] h];have hr:=(ok.ir _ (getD_mem (y:=[]) h)).le;rw [Ae6 (Ab3 (MM.mOf_lt (w:=d.sh) λ n hn=>by have:=hr n hn;omega) (Ae7 (by decide) hi))];simp
  · rw [Aa2,List.getElem?_eq_none (by simp;omega)];simp
theorem QJ {th:List Nat} {s l:Nat} (hl:l<2 ^ s):Kn ((Aa9 s).map λ i=>Fb th (i+1)) l<2 ^ th.length:=by
  refine Nat.lt_pow_two_of_testBit _ λ i hi=> ?_;unfold Kn;rw [MM.uOf_bit,List.any_eq_false];intro n hn;obtain ⟨k,hk,rfl⟩:=Ac3.mp hn;by_cases h:k - 1<s
  · rw [AU (λ i=>Fb th (i+1)) (Aa9 s) (k - 1) 0 0 (by simpa using h)];unfold Fb;rw [Ae6 (Ab3 (MM.ofB_lt _ _) (Ae7 (by decide) hi))];simp
  · rw [Aa2,List.getElem?_eq_none (by simp;omega)];simp
theorem OJ {d:Dr} (ok:DrOk d):ClOk d.th.length (BV d) where
  n1:=ok.h1
  n2:=ok.h2
  p1:=by unfold BV;rw [Aa1];exact ok.p1
  p2:=by unfold BV;rw [Aa1];exact ok.p2
  lt:=λ r hr=>by
    unfold BV at hr;obtain ⟨ks,hk,rfl⟩:=Ac3.mp hr;exact QJ (EJ ok ks)
def IV (c:Cs):Sp:=λ vs H Q _=>∃ x d,vs=[.ref x]/\DrAt c.Draft H x d/\DrOk d/\∀ H' y,Same H H'->H y=none->NT c.Cloth H' y d.th.length (BV d)->Q (.ref y) H'
abbrev Kq:Stmt:=top 41
theorem sc_woven:FnScope ["draft","carried"] ["draft"] (Ah Kq):=⟨rfl,rfl,rfl,by decide +kernel,rfl,by decide +kernel,by decide +kernel⟩
theorem PB (F:Fun K "woven" "woven" Kq f fd) (T:Txt K mg c) (c_shaft_ends:CallF P w K mg base "shaft_ends" 4 ["threading","shafts"] (Fk K)) (d_Draft_ends:AI P w K mg base c.Draft "ends" 1 ["self"] (BK c)) (c_row_by:CallF P w K mg base "row_by" 4 ["carried","lift"] (J5 K)) (c_lifts_of:CallF P w K mg base "lifts_of" 3 ["draft"] (E1 c)) (m_Cloth:GX P w K mg base "Cloth" c.Cloth 4 ["self","ends","rows"] (BU c)):FnOk P w K mg base CX0 6 f fd ["draft"] (IV c):=by
  refine F.ok sc_woven (λ vs H Q E h=> ?_) (λ cdv A outer s H vs Q E hr h=> ?_)
  · obtain ⟨x,d,rfl,_⟩:=h;rfl
  · obtain ⟨x,d,rfl,D0,ok,k⟩:=h;have D1:=D0;obtain ⟨dx,v1,v2,v3,v4,v5,h0,h1,h2,h3,h4,h5⟩:=D0;obtain ⟨a1,rfl,e1,b1⟩:=C4 h1;refine ⟨_,(Ac (Av (i:=1) sc_woven.nd rfl (Or.inr rfl) (Ae c_shaft_ends (hr.mono (by decide)) (Aa (Az (K:=K) (pv 0) rfl) (Aa (Az (K:=K) (pv 0) rfl) Ab))))
      (Ag (Ak (EA m_Cloth hr (Aa (AG (pv 0) d_Draft_ends (hr.mono (by decide))) (Aa (AO (BJ (K:=K) (Ae c_lifts_of (hr.mono (by decide)) (Aa (pv 0) Ab))) (λ _ _ _ _=>AL) (λ _ _ _ _=>(Ae c_row_by (hr.mono (by decide)) (Aa (pv 1) (Aa (pv 0) Ab))))) Ab)))))),?_⟩
    walk_at "w";refine ⟨_,_,_,_,_,rfl,h0,T.kd_Draft.cl,T.na_Draft_threading,rfl,?_⟩;walk_at "w";refine ⟨_,_,_,_,_,rfl,h0,T.kd_Draft.cl,T.na_Draft_shafts,rfl,?_⟩;walk_at "w";refine ⟨a1,true,d.th,d.sh,rfl,SqT.of e1,by have:=ok.h2;omega,by have:=ok.s2;omega,λ H1 p1 s1 hp1 q1=> ?_⟩;walk_at "w";refine ⟨_,_,_,rfl,s1 _ _ h0,rfl,?_⟩;walk_at "w";refine ⟨x,d,rfl,D1.same s1,?_⟩;walk_at "w";refine ⟨x,d,rfl,D1.same s1,ok,λ H2 p2 s2 hp2 q2=> ?_⟩;walk_at "w";refine ⟨p2,rfl,⟨_,SqL.of q2⟩,λ D hD=> ?_⟩;have hp2l:d.td.length<=60:=ok.p2;refine BP (G:=λ i=>((Kn ((Aa9 d.sh).map λ i=>Fb d.th (i+1)) (CQ d.ti (d.td.getD i [])):Nat):Int)) (Bf (SqL.of q2) rfl) hD (by simp;omega) ?_ ?_
    · intro i H' R hi s kk;have hi':i<d.td.length:=by simpa using hi
      rw [BC hi,AU (CQ d.ti) d.td i 0 [] hi'];walk_at "w";exact ⟨p1,_,_,rfl,SqL.of (s _ _ (s2 _ _ q1)),by rw [Aa1,Ad6];exact EJ ok _,by rw [Aa1,Ad6];have:=ok.s2;omega,kk⟩
    · intro H3 s3 hl3;rw [GL,Aa1,Aa1,Dy (λ ks=>Kn ((Aa9 d.sh).map λ i=>Fb d.th (i+1)) (CQ d.ti ks)) d.td []] at hl3;walk_at "w";refine Qh hl3 (OJ ok) λ H4 y s4 hy c4=> ?_;exact k H4 y (s1.trans (s2.trans (s3.trans s4))) (s1.free (s2.free (s3.free hy))) c4
def Dz (x k:Int):Int:=(x%1000000007+7919*k+13)*(x%1000000007+7919*k+13)%1000000007*48271%2147483647
def Fm:Sp:=λ vs H Q _=>∃ x k:Int,vs=[.int x, .int k]/\(0<=k/\k<=1000)/\Q (.int (Dz x k)) H
abbrev El:Stmt:=top 53
theorem sc__law_mixed:FnScope ["_law_cell","_law_k"] ["_law_cell","_law_k"] (Ah El):=⟨rfl,rfl,rfl,by decide +kernel,rfl,by decide +kernel,by decide +kernel⟩
theorem IZ (F:Fun K "_law_mixed" "_law_mixed" El f fd) (T:Txt K mg c):FnOk P w K mg base CX0 1 f fd ["_law_cell","_law_k"] Fm:=by
  refine F.ok sc__law_mixed (λ vs H Q E h=> ?_) (λ cdv A outer s H vs Q E hr h=> ?_)
  · obtain ⟨x,k,rfl,_⟩:=h;rfl
  · obtain ⟨x,k,rfl,hk,q⟩:=h;refine ⟨_,(Ac (Av (i:=0) sc__law_mixed.nd rfl (Or.inl rfl) (Al AW (Al AW (Al AZ (pv 0) Ad) (Al Ks Ad (pv 1))) Ad))
      (Ag (Ak (Al AZ (Al Ks (Al AZ (Al Ks (pv 0) (pv 0)) Ad) Ad) Ad)))),?_⟩
    have b1:=Ae4 x (show (1000000007:Int)≠0 by decide);have b2:=Ae5 x (show (0:Int)<1000000007 by decide);walk_at "w";refine AK (by decide) ?_;walk_at "w";refine AK (.inl ⟨by decide,by decide⟩) ?_;walk_at "w";refine AK (.inl ⟨?_,?_⟩) ?_
    · show -(2 ^ 64)<x%1000000007+7919*k+13;omega
    · show x%1000000007+7919*k+13<2 ^ 64;omega
    walk_at "w";refine AK (by decide) ?_;walk_at "w";refine AK (.inr ⟨by decide,by decide⟩) ?_;walk_at "w";refine AK (by decide) ?_;exact q
def O5 (n:Nat) (f:Int):Nat:=max 1 (min 60 (Builtin.Range.rangeSize f (n:Nat) 2).toNat)
def Fh (K:PySem.W.Frag):Sp:=λ vs H Q _=>∃ (a:Addr) (ns:List Int) (f:Int),vs=[.ref a, .int f]/\SqL K H a (ns.map V.int)/\ns.length<=63/\0<=f/\f<=1/\∀ H' p (ms:List Int),Same H H'->H p=none->H' p=some (.lst (ms.map V.int))->1<=ms.length->ms.length<=60/\ms.length<=ns.length+1/\ms.length=O5 ns.length f->Q (.ref p) H'
theorem Tz {f:Int} (f0:0<=f) (h:i<(Builtin.Range.rangeSize f (n:Nat) 2).toNat):f+i*2<n:=by
  unfold Builtin.Range.rangeSize at h;rw [if_pos (by decide)] at h;split at h
  · omega
  · simp at h
abbrev DL:Stmt:=top 55
theorem sc__law_cells:FnScope ["_law_script","_law_first","_law_found"] ["_law_script","_law_first"] (Ah DL):=⟨rfl,rfl,rfl,by decide +kernel,rfl,by decide +kernel,by decide +kernel⟩
theorem JM (F:Fun K "_law_cells" "_law_cells" DL f fd) (T:Txt K mg c):FnOk P w K mg base CX0 1 f fd ["_law_script","_law_first"] (Fh K):=by
  refine F.ok sc__law_cells (λ vs H Q E h=> ?_) (λ cdv A outer s H vs Q E hr h=> ?_)
  · obtain ⟨a,ns,f,rfl,_⟩:=h;rfl
  · obtain ⟨a,ns,f,rfl,sa,hn,f0,f1,k⟩:=h;have hu:=hr.units0;refine ⟨_,(Ac (Av (i:=2) sc__law_cells.nd rfl (Or.inl rfl) (Cr (R9 (K:=K)) (AO (Nv rfl (T.own _ (by decide)) (Aa (pv 1) (Aa (Am (BA (K:=K)) rfl (T.own _ (by decide)) boot_len (Aa (pv 0) Ab)) (Aa Ad Ab)))) (λ _ _ _ _=>AL) (λ _ _ _ _=>(Ar (A6 (K:=K)) (pv 1) (pv 0) (λ _ _=>rfl)))) Da (C7 Ad)))
      (Ag (Ak (Al (IE (K:=K)) (pv 2) (Al Pd (AB (Aa (pv 1) Ab)) (As Mn rfl (T.own _ (by decide)) boot_int (Aa (CI (UM hu (K:=K)) (pv 2) (AB Ab) (AC _)) Ab))))))),?_⟩
    walk_at "w";refine A9 sa ?_;walk_at "w";refine ⟨_,_,_,rfl,⟨by omega,by omega⟩,⟨by omega,by rw [Aa1];omega⟩,⟨by decide,by decide⟩,by decide,λ D hD=> ?_⟩;rw [Aa1];have hb:∀ i:Nat,i<(Builtin.Range.rangeSize f (ns.length:Nat) 2).toNat->f+i*2<ns.length:=λ i hi=>Tz f0 hi;have hsz:(Builtin.Range.rangeSize f (ns.length:Nat) 2).toNat<=63:=by
      have:=Pl f (ns.length:Nat) 2 (by decide);omega
    have hce:O5 ns.length f=max 1 (min 60 (Builtin.Range.rangeSize f (ns.length:Nat) 2).toNat):=rfl;generalize (Builtin.Range.rangeSize f (ns.length:Nat) 2).toNat=n at hb hsz hce ⊢;refine BP (G:=λ i=>ns.getD (f+i*2).toNat 0) (My rfl) hD (by omega) ?_ ?_
    · intro i H' R hi s kk;have:=hb i hi;walk_at "w";refine AF (SqS.same (tp:=false) sa s) (Ro (by omega) (by omega)) ?_;exact kk H' (Same.refl _)
    intro H1 s1 hl1;have hn1:n<=ns.length:=by
      rcases Nat.eq_zero_or_pos n with z | z
      · omega
      · have:=hb (n - 1) (by omega);omega
    have lms:((Aa9 n).map λ i:Nat=>ns.getD (f+i*2).toNat 0).length<=ns.length/\((Aa9 n).map λ i:Nat=>ns.getD (f+i*2).toNat 0).length=n:=by simpa using hn1
    generalize (Aa9 n).map (λ i:Nat=>ns.getD (f+i*2).toNat 0)=ms at hl1 lms;walk_at "w";refine PH (SqL.of hl1) λ q hq=> ?_;rw [ME (by decide), <-List.map_take];have s2:=Aj (o:=HO.lst ((ms.take (60:Int).toNat).map V.int)) hq;have h2:upd H1 q (HO.lst ((ms.take (60:Int).toNat).map V.int)) q=_:=Af;have s12:=s1.trans s2;generalize upd H1 q (HO.lst ((ms.take (60:Int).toNat).map V.int))=H2 at s12 h2 ⊢;have hms:(ms.take (60:Int).toNat).length<=60/\(ms.take (60:Int).toNat).length<=ns.length/\(ms.take (60:Int).toNat).length=min 60 n:=by rw [Af6,lms.2];exact ⟨Nat.min_le_left _ _,Ac5 (Nat.min_le_right _ _) hn1,rfl⟩
    generalize ms.take (60:Int).toNat=ts at h2 hms ⊢;walk_at "w";intro p hp;walk_at "w";have s3:=Aj (o:=HO.lst [V.int f]) hp;have h3:upd H2 p (HO.lst [V.int f]) p=some (.lst [V.int f]):=Af;have s13:=s12.trans s3;replace h2:=s3 _ _ h2;generalize upd H2 p (HO.lst [V.int f])=H3 at s13 h2 h3 ⊢;intro p4 hp4;walk_at "w";have s4:=Aj (o:=HO.lst []) hp4;have s14:=s13.trans s4;replace h2:=s4 _ _ h2;replace h3:=s4 _ _ h3;have h4:upd H3 p4 (HO.lst []) p4=_:=Af;generalize upd H3 p4 (HO.lst [])=H4 at s14 h2 h3 h4 ⊢;refine Rv (bs:=[]) (SqL.of h2) (SqL.of h4) ?_;walk_at "w";refine ⟨_,rfl,?_⟩;have hb2:(0:Int)<=(if decide (ts=[])=true then 1 else 0)/\(if decide (ts=[])=true then (1:Int) else 0)<=1:=by split <;> decide
    refine O3 h3 hb2.1 (by omega) (by simp) λ p5 hp5=> ?_;walk_at "w";have e5:(Ab5 (if decide (ts=[])=true then (1:Int) else 0).toNat [V.int f]).flatten=(if ts=[] then [f] else []).map V.int:=by
      by_cases z:ts=[]
      · simp [z]
      · simp [z]
    rw [e5];have s5:=Aj (o:=HO.lst ((if ts=[] then [f] else []).map V.int)) hp5;have h5:upd H4 p5 (HO.lst ((if ts=[] then [f] else []).map V.int)) p5=_:=Af;replace h2:=s5 _ _ h2;have s15:=s14.trans s5;generalize upd H4 p5 (HO.lst ((if ts=[] then [f] else []).map V.int))=H5 at s15 h2 h5 ⊢;have hlen:1<=(ts++(if ts=[] then [f] else [])).length/\(ts++(if ts=[] then [f] else [])).length<=60/\(ts++(if ts=[] then [f] else [])).length<=ns.length+1/\(ts++(if ts=[] then [f] else [])).length=O5 ns.length f:=by
      by_cases z:ts=[]
      · rw [z] at hms;simp [z,hce];simp at hms;omega
      · have:1<=ts.length:=by
          cases ts with
          | nil=>exact absurd rfl z
          | cons _ _=>simp
        simp [z];omega
    refine FC (SqL.of h2) (SqL.of h5) (by have:=hlen.2.1;rw [Ac0] at this;simp only [Aa1];omega) λ p6 hp6=> ?_;rw [<-Ae0];exact k _ p6 _ (s15.trans (Aj hp6)) (s15.free hp6) Af hlen.1 hlen.2
def EX (m w:Nat):List Nat:=((Aa9 w).filter m.testBit).map (· + 1)
theorem C3 (p:Nat->Bool):∀ w,Rise w (((Aa9 w).filter p).map (· + 1)):=by
  intro w;have key:∀ w,(∀ n∈((Aa9 w).filter p).map (· + 1),1<=n/\n<=w)/\(((Aa9 w).filter p).map (· + 1)).Pairwise (· < ·):=by
    intro w;refine ⟨λ n hn=> ?_,?_⟩
    · obtain ⟨k,hk,rfl⟩:=Ac3.mp hn;have:=Ae9.mp (Ag0.mp hk).1;omega
    · rw [List.pairwise_map];exact ((List.pairwise_lt_range).filter p).imp (λ h=>Nat.succ_lt_succ h)
  obtain ⟨k1,k2⟩:=key w;generalize ((Aa9 w).filter p).map (· + 1)=ns at k1 k2;intro i hi;have e:ns.getD i 0=ns[i]:=by simp [Aa2,hi]
  have m1:=k1 _ (Ag6 hi);rw [e];refine ⟨?_,m1.2⟩;cases i with
  | zero=>simpa using m1.1
  | succ i=>
    have e2:(0::ns).getD (i+1) 0=ns[i]:=by
      show ns.getD i 0=ns[i];simp [Aa2,(show i<ns.length by omega)]
    rw [e2];exact (List.pairwise_iff_getElem.mp k2) i (i+1) (by omega) hi (by omega)
def Cw:Sp:=λ vs H Q _=>∃ m w:Nat,vs=[nV m,nV w]/\w<=100/\∀ H' p,Same H H'->H p=none->H' p=some (.lst ((EX m w).map nV))->Q (.ref p) H'
theorem Qq (m i:Nat):decide ((((m >>> i) &&& 1:Nat):Int)=1)=m.testBit i:=by
  have h:((m >>> i) &&& 1)=(m.testBit i).toNat:=by
    rw [Nat.and_one_is_mod,Nat.shiftRight_eq_div_pow,MM.bit_div]
  rw [h];cases m.testBit i <;> rfl
abbrev CN:Stmt:=top 56
theorem Hg:FnScope ["_law_mask","_law_most"] ["_law_mask","_law_most"] (Ah CN):=⟨rfl,rfl,rfl,by decide +kernel,rfl,by decide +kernel,by decide +kernel⟩
theorem Hh (F:Fun K "_law_numbers" "_law_numbers" CN f fd) (T:Txt K mg c):FnOk P w K mg base CX0 1 f fd ["_law_mask","_law_most"] Cw:=by
  refine F.ok Hg (λ vs H Q E h=> ?_) (λ cdv A outer s H vs Q E hr h=> ?_)
  · obtain ⟨m,w,rfl,_⟩:=h;rfl
  · obtain ⟨m,w,rfl,hw,k⟩:=h;refine ⟨_,(Ag (Ak (AO (Gm rfl (T.own _ (by decide)) (Aa (pv 1) Ab)) (λ _ _ _ _=>(E3 (Au Bg (Al O7 (Al SF (pv 1) (pv 0)) Ad) Ad (AC _)))) (λ _ _ _ _=>(Al AW (pv 0) Ad))))),?_⟩;walk_at "w";refine ⟨_,rfl,by omega,by omega,λ D hD=> ?_⟩;rw [Ac2];refine Cc (p:=m.testBit) (G:=λ i=>(i:Int)+1) (DU rfl) hD (by omega) ?_ ?_ ?_
    · intro i H' R hi s kk;walk_at "w";refine AK (by show (0:Int)<=_;omega) ?_;walk_at "w";have e:((m:Nat):Int) / 2 ^ (((i:Nat):Int)).toNat=((m >>> i:Nat):Int):=by
        rw [Ac2,Nat.shiftRight_eq_div_pow];push_cast;rfl
      rw [e,show (1:Int)=((1:Nat):Int) from rfl,bA];walk_at "w";rw [show (((1:Nat):Int))=(1:Int) from rfl,Qq];exact kk H' (Same.refl _)
    · intro i H' R hi hp s kk;walk_at "w";exact kk H' (Same.refl _)
    · intro H' s hl;refine k H' D s hD ?_;rw [hl];unfold EX;rw [Ae1,Ae1];rfl
def BE:Nat->Sp
  | 0=>λ _ _ _ _=>False
  | n+1=>λ vs H Q _=>∃ v d,vs=[v]/\Rp H FT n v d/\∀ H' r,Same H H'->Rp H' (FN H) n r d->Q r H'
abbrev Cm:Stmt:=top 58
theorem IP:FnScope ["_law_thing"] ["_law_thing"] (Ah Cm):=⟨rfl,rfl,rfl,by decide +kernel,rfl,by decide +kernel,by decide +kernel⟩
theorem He (F:Fun K "_law_copied" "_law_copied" Cm f fd) (T:Txt K mg c) (c__law_copied:CallF P w K mg base "_law_copied" (n+1) ["_law_thing"] (BE n)):FnOk P w K mg base CX0 (n+2) f fd ["_law_thing"] (BE (n+1)):=by
  refine F.ok IP (λ vs H Q E h=> ?_) (λ cdv A outer s H vs Q E hr h=> ?_)
  · obtain ⟨v,d,rfl,_⟩:=h;rfl
  · obtain ⟨v,d,rfl,rv,k⟩:=h;refine ⟨_,(Ac (AM (Bp (Am (Bx (K:=K)) rfl (T.own _ (by decide)) boot_isinstance (Aa (pv 0) (Aa (BR rfl (T.own _ (by decide)) AA) Ab)))) (Ag (Ak (AO (BJ (K:=K) (pv 0)) (λ _ _ _ _=>AL) (λ _ _ _ _=>(Ae c__law_copied hr (Aa (pv 0) Ab)))))) Ay)
      (Ac (AM (Bp (Am (Bx (K:=K)) rfl (T.own _ (by decide)) boot_isinstance (Aa (pv 0) (Aa (BR rfl (T.own _ (by decide)) AJ) Ab)))) (Ag (Ak (As (BN (K:=K)) rfl (T.own _ (by decide)) AJ (Aa (AO (Ka (K:=K) (pv 0)) (λ _ _ _ _=>AL) (λ _ _ _ _=>(Ae c__law_copied hr (Aa (pv 0) Ab)))) Ab)))) Ay)
      (Ag (Ak (pv 0))))),?_⟩
    walk_at "w";refine A1 rv.ty (Hu d) ?_;walk_at "w";refine Sx (λ hc=> ?_) (λ hc=> ?_)
    · obtain ⟨m,a,xs,rfl,rfl,sa,la,ba,ea⟩:=rv.seq (K:=K) (by rw [hc];rfl);have ed:d= .lst (Br d):=by cases d <;> first | rfl | cases hc
      have et:CD d=false:=by cases d <;> first | rfl | cases hc
      rw [et] at sa;walk_at "w";refine ⟨a,rfl,⟨_,sa⟩,λ D hD=> ?_⟩;refine Bd (m:=m) (G:=λ i=>(Br d).getD i .non) (Bf sa rfl) hD ba ?_ ?_
      · intro i H' R hi s1 kk;walk_at "w";have hd:(Br d)[i]?=some ((Br d).getD i .non):=by
          rw [Aa2,Aa4 (by omega)];rfl
        have hx:xs[i]?=some (xs.getD i .non):=by
          rw [Aa2,Aa4 hi];rfl
        exact ⟨_,_,rfl,(ea i _ _ hx hd).same s1,kk⟩
      · intro H' ys s1 hl r;have e:(Aa9 xs.length).map (λ i=>(Br d).getD i .non)=Br d:=by
          rw [la];exact (Bl id (Br d) .non).trans (List.map_id _)
        rw [e, <-ed] at r;exact k H' _ s1 r
    · walk_at "w";refine A1 rv.ty (FR d) ?_;walk_at "w";refine Sx (λ hc2=> ?_) (λ hc2=> ?_)
      · obtain ⟨m,a,xs,rfl,rfl,sa,la,ba,ea⟩:=rv.seq (K:=K) (by rw [hc2,Bool.or_true]);have ed:d= .tup (Br d):=by cases d <;> first | rfl | cases hc2
        rw [hc2] at sa;walk_at "w";refine ⟨a,rfl,⟨_,sa⟩,λ D hD=> ?_⟩;refine Bd (m:=m) (G:=λ i=>(Br d).getD i .non) (E5 sa rfl) hD ba ?_ ?_
        · intro i H' R hi s1 kk;walk_at "w";have hd:(Br d)[i]?=some ((Br d).getD i .non):=by
            rw [Aa2,Aa4 (by omega)];rfl
          have hx:xs[i]?=some (xs.getD i .non):=by
            rw [Aa2,Aa4 hi];rfl
          exact ⟨_,_,rfl,(ea i _ _ hx hd).same s1,kk⟩
        · intro H' ys s1 hl r;have e:(Aa9 xs.length).map (λ i=>(Br d).getD i .non)=Br d:=by
            rw [la];exact (Bl id (Br d) .non).trans (List.map_id _)
          rw [e] at r;walk_at "w";refine Bt (SqL.of hl) λ l hl2=> ?_;have r2:=r.tupd hl hl2;rw [<-ed] at r2;exact k _ _ (s1.trans (Aj hl2)) r2
      · walk_at "w";refine k H v (Same.refl H) ?_;have hs:(Ew d||CD d)=false:=by rw [hc,hc2];rfl
        cases rv with
        | non=>exact .non
        | bl b=>exact .bl b
        | int i=>exact .int i
        | str z=>exact .str z
        | lst _ _ _ _ _=>cases hs
        | tup _ _ _ _=>cases hs
theorem CP {f:Addr} {fd:FuncData} (D:DefAt K mg "_law_copied" Cm ["_law_thing"] f fd) (T:Txt K mg c):∀ n,FnOk P w K mg base CX0 (n+1) f fd ["_law_thing"] (BE n)
  | 0=>⟨λ _ _ _ _ h=>h.elim,λ _ _ _ _ _ _ _ _ _ _ _ _ _ h=>h.elim⟩
  | n+1=>He D.fn T (D.call (CP D T n))
abbrev PR (i:Int):Str:=⟨#[97+i.toNat]⟩
theorem SO:∀ j:Nat,j<26->("abcdefghijklmnopqrstuvwxyz":Str).cps.toList[j]?=some (97+j):=by decide +kernel
theorem Km {i:Int} (h0:0<=i) (h1:i<26):atI ("abcdefghijklmnopqrstuvwxyz":Str).cps.toList i=some (97+i.toNat):=by
  obtain ⟨j,rfl⟩:∃ j:Nat,i=j:=⟨i.toNat,by omega⟩;rw [Ac2];exact AH (SO j (by omega))
theorem QC:∀ j:Nat,j<26->((⟨#[97+j]⟩:Str).length == 1&& !(Builtin.Str.occurrences colS ⟨#[97+j]⟩ 0 colS.length 1).isEmpty)=true:=by decide +kernel
theorem Mm {i:Int} (h0:0<=i) (h1:i<26):GU (PR i):=by
  have h:=QC i.toNat (by omega);simp only [Ad9,beq_iff_eq] at h;exact ⟨h.1,h.2⟩
theorem F8 (s:Nat):(0:Int)<1*2 ^ ((s:Nat):Int).toNat:=by
  rw [Ac2,ES];have:=Nat.two_pow_pos s;omega
theorem Hy (x:Int) (s:Nat):x%(1*2 ^ ((s:Nat):Int).toNat)=(((x%(2 ^ s:Nat)).toNat:Nat):Int):=by
  rw [Ac2,ES];have hp:=Nat.two_pow_pos s;have:=Ae4 x (show ((2 ^ s:Nat):Int)≠0 by omega);omega
def Fn (K:PySem.W.Frag):Sp:=λ vs H Q _=>∃ (a:Addr) (ns:List Int) (m:Nat),vs=[.ref a,nV m]/\SqL K H a (ns.map V.int)/\ns.length<=63/\1<=m/\m<=16/\∀ H' p d,Same H H'->H p=none->Rp H' (FN H) 3 (.ref p) (dDr d)->DrOk d->Q (.ref p) H'
abbrev Eo:Stmt:=top 57
theorem sc__law_draft:FnScope ["_law_script","_law_most","_law_whole","_law_shafts","_law_treadles","_law_letters","_law_ends","_law_picks","_law_ties","_law_treading","_law_warp","_law_weft"] ["_law_script","_law_most"] (Ah Eo):=⟨rfl,rfl,rfl,by decide +kernel,rfl,by decide +kernel,by decide +kernel⟩
theorem Jm (F:Fun K "_law_draft" "_law_draft" Eo f fd) (T:Txt K mg c) (c__law_mixed:CallF P w K mg base "_law_mixed" 1 ["_law_cell","_law_k"] Fm) (c__law_cells:CallF P w K mg base "_law_cells" 1 ["_law_script","_law_first"] (Fh K)) (c__law_numbers:CallF P w K mg base "_law_numbers" 1 ["_law_mask","_law_most"] Cw):FnOk P w K mg base CX0 2 f fd ["_law_script","_law_most"] (Fn K):=by
  refine F.ok sc__law_draft (λ vs H Q E h=> ?_) (λ cdv A outer s H vs Q E hr h=> ?_)
  · obtain ⟨a,ns,m,rfl,_⟩:=h;rfl
  · obtain ⟨a,ns,m,rfl,sa,hn,m1,m2,k⟩:=h;refine ⟨_,(Ac (Av (i:=2) sc__law_draft.nd rfl (Or.inr rfl) (Am (RA (K:=K)) rfl (T.own _ (by decide)) boot_sum (Aa (EI (K:=K) (MY (K:=K) rfl (T.own _ (by decide)) (Aa (pv 0) Ab)) (λ _ _ _ _=>AL) (λ _ _ _ _=>(Al Ks (Al AZ (pv 1) Ad) (Al AW (pv 0) Ad)))) Ab)))
      (Ac (Av (i:=3) sc__law_draft.nd rfl (Or.inr rfl) (Al AW Ad (Al AZ (Ae c__law_mixed hr (Aa (pv 2) (Aa Ad Ab))) (pv 1))))
      (Ac (Av (i:=4) sc__law_draft.nd rfl (Or.inr rfl) (Al AW Ad (Al AZ (Ae c__law_mixed hr (Aa (pv 2) (Aa Ad Ab))) (pv 1))))
      (Ac (Av (i:=5) sc__law_draft.nd rfl (Or.inr rfl) Aq)
      (Ac (Av (i:=6) sc__law_draft.nd rfl (Or.inl rfl) (Ae c__law_cells hr (Aa (pv 0) (Aa Ad Ab))))
      (Ac (Av (i:=7) sc__law_draft.nd rfl (Or.inl rfl) (Ae c__law_cells hr (Aa (pv 0) (Aa Ad Ab))))
      (Ac (CM (i:=8) sc__law_draft.nd rfl (Or.inl rfl) (Gm rfl (T.own _ (by decide)) (Aa (pv 4) Ab)) (λ _ _ _ _=>AL) (λ _ _ _ _=>(Ae c__law_numbers hr (Aa (Al AZ (Ae c__law_mixed hr (Aa (pv 2) (Aa (Al AW Ad (pv 0)) Ab))) (Al FF Ad (pv 1))) (Aa (pv 1) Ab)))))
      (Ac (CM (i:=9) sc__law_draft.nd rfl (Or.inl rfl) (BJ (K:=K) (pv 7)) (λ _ _ _ _=>AL) (λ _ _ _ _=>(Ae c__law_numbers hr (Aa (Al AZ (pv 0) (Al FF Ad (pv 1))) (Aa (pv 1) Ab)))))
      (Ac (AM (Au Bg (Al AZ (Ae c__law_mixed hr (Aa (pv 2) (Aa Ad Ab))) Ad) Ad (AC _)) (Ag (CM (i:=9) sc__law_draft.nd rfl (Or.inl rfl) (BJ (K:=K) (pv 7)) (λ _ _ _ _=>AL) (λ _ _ _ _=>(AB (Aa (Al AW Ad (Al AZ (pv 0) (pv 1))) Ab))))) Ay)
      (Ac (CM (i:=10) sc__law_draft.nd rfl (Or.inl rfl) (BJ (K:=K) (pv 6)) (λ _ _ _ _=>AL) (λ _ _ _ _=>(Ar Mf (pv 1) (Al AZ (Al BB (pv 0) Ad) (Al AW Ad (Al AZ (Ae c__law_mixed hr (Aa (pv 2) (Aa Ad Ab))) Ad))) (λ _ _=>rfl))))
      (Ac (CM (i:=11) sc__law_draft.nd rfl (Or.inl rfl) (BJ (K:=K) (pv 7)) (λ _ _ _ _=>AL) (λ _ _ _ _=>(Ar Mf (pv 1) (Al AZ (Al BB (pv 0) Ad) (Al AW Ad (Al AZ (Ae c__law_mixed hr (Aa (pv 2) (Aa Ad Ab))) Ad))) (λ _ _=>rfl))))
      (Ag (Ak (AE (Aa (pv 3) (Aa (pv 4) (Aa (AO (BJ (K:=K) (pv 6)) (λ _ _ _ _=>AL) (λ _ _ _ _=>(Al AZ (pv 0) (Al AW (pv 1) Ad)))) (Aa (pv 8) (Aa (pv 9) (Aa (pv 10) (Aa (pv 11) Ab))))))))))))))))))))),?_⟩
    walk_at "w";refine ⟨a,rfl,⟨_,sa⟩,λ D0 hD0=> ?_⟩;refine BP (G:=λ i=>ns.getD i 0%1000000007*((i:Int)+1)) (Lp sa rfl rfl) hD0 (by rw [Aa1];omega) ?_ ?_
    · intro i H' R hi s kk;have b1:=Ae4 (ns.getD i 0) (show (1000000007:Int)≠0 by decide);have b2:=Ae5 (ns.getD i 0) (show (0:Int)<1000000007 by decide);rw [CO hi];walk_at "w";refine AK (by decide) ?_;walk_at "w";refine AK (.inl ⟨by omega,by omega⟩) ?_;exact kk H' (Same.refl _)
    intro H1 s1 hl1;walk_at "w";refine Ph (SqL.of hl1) ?_;generalize ((Aa9 (ns.map V.int).length).map λ i:Nat=>ns.getD i 0%1000000007*((i:Int)+1)).sum=W;walk_at "w";refine ⟨W,1,rfl,⟨by decide,by decide⟩,?_⟩;walk_at "w";refine AK (by show (0:Int)<(m:Nat);omega) ?_;walk_at "w";obtain ⟨sN,es,sN1,sN2⟩:∃ s:Nat,1+Dz W 1%(m:Nat)=(s:Nat)/\1<=s/\s<=16:=by
      have h0:=Ae4 (Dz W 1) (show ((m:Nat):Int)≠0 by omega);have h1:=Ae5 (Dz W 1) (show (0:Int)<(m:Nat) by omega);exact ⟨(1+Dz W 1%(m:Nat)).toNat,by omega,by omega,by omega⟩
    rw [es];refine ⟨W,2,rfl,⟨by decide,by decide⟩,?_⟩;walk_at "w";refine AK (by show (0:Int)<(m:Nat);omega) ?_;walk_at "w";obtain ⟨tN,et,tN1,tN2⟩:∃ s:Nat,1+Dz W 2%(m:Nat)=(s:Nat)/\1<=s/\s<=16:=by
      have h0:=Ae4 (Dz W 2) (show ((m:Nat):Int)≠0 by omega);have h1:=Ae5 (Dz W 2) (show (0:Int)<(m:Nat) by omega);exact ⟨(1+Dz W 2%(m:Nat)).toNat,by omega,by omega,by omega⟩
    rw [et];refine ⟨a,ns,0,rfl,s1.seq sa,hn,by decide,by decide,λ H2 pE eE s2 hpE hE lE1 lE2=> ?_⟩;walk_at "w";have s02:=s1.trans s2;refine ⟨a,ns,1,rfl,s02.seq sa,hn,by decide,by decide,λ H3 pP eP s3 hpP hP lP1 lP2=> ?_⟩;walk_at "w";have s03:=s02.trans s3;replace hE:=s3 _ _ hE;refine ⟨_,rfl,by omega,by omega,λ D4 hD4=> ?_⟩;rw [Ac2];refine Bd (m:=1) (G:=λ i=>dL (EX (Dz W (3+(i:Int))%(2 ^ sN:Nat)).toNat sN)) (DU rfl) hD4 (by omega) ?_ ?_
    · intro i H' R hi s kk;walk_at "w";refine ⟨W,_,rfl,⟨by omega,by omega⟩,?_⟩;walk_at "w";refine AK ⟨by omega,by omega,by decide⟩ ?_;walk_at "w";refine AK (F8 sN) ?_;walk_at "w";rw [Hy];exact ⟨_,sN,rfl,by omega,λ H4 p4 s4 hp4 h4=>kk H4 _ s4 (Be h4 hp4 (by unfold EX;rw [Aa1];exact Ac5 (Af9 _ _) (by simp;omega)))⟩
    intro H4 ys4 s4 hl4 r4;rw [Ku] at r4;have s04:=s03.trans s4;replace r4:Rp H4 (FN H) 2 (.ref D4) _:=r4.imp λ a ha=>s03.free ha;replace hE:=s4 _ _ hE;replace hP:=s4 _ _ hP;generalize eTI:((Aa9 tN).map λ i:Nat=>EX (Dz W (3+(i:Int))%(2 ^ sN:Nat)).toNat sN)=TI at r4;have lTI:TI.length=tN:=by rw [<-eTI];simp
    have rTI:∀ l∈TI,Rise sN l:=λ l hl=>by
      rw [<-eTI] at hl;obtain ⟨i,_,rfl⟩:=Ac3.mp hl;exact C3 _ sN
    walk_at "w";refine ⟨pP,rfl,⟨_,SqL.of hP⟩,λ D5 hD5=> ?_⟩;refine Bd (m:=1) (G:=λ i=>dL (EX (eP.getD i 0%(2 ^ tN:Nat)).toNat tN)) (Bf (SqL.of hP) rfl) hD5 (by rw [Aa1];omega) ?_ ?_
    · intro i H' R hi s kk;rw [CO hi];walk_at "w";refine AK ⟨by omega,by omega,by decide⟩ ?_;walk_at "w";refine AK (F8 tN) ?_;walk_at "w";rw [Hy];exact ⟨_,tN,rfl,by omega,λ H4 p4 s4 hp4 h4=>kk H4 _ s4 (Be h4 hp4 (by unfold EX;rw [Aa1];exact Ac5 (Af9 _ _) (by simp;omega)))⟩
    intro H5 ys5 s5 hl5 r5;rw [Aa1,Ku] at r5;have s05:=s04.trans s5;replace r5:Rp H5 (FN H) 2 (.ref D5) _:=r5.imp λ a ha=>s04.free ha;replace r4:=r4.same s5;replace hE:=s5 _ _ hE;replace hP:=s5 _ _ hP;walk_at "v";refine ifJ (λ σ' H6=>∃ v9 TD,σ'=[some (.ref a),some (nV m),some (.int W),some (nV sN),some (nV tN),some (.str "abcdefghijklmnopqrstuvwxyz"),some (.ref pE),some (.ref pP),some (.ref D4),some v9,none,none]/\Same H5 H6/\Rp H6 (FN H) 2 v9 (dLL TD)/\TD.length=eP.length/\∀ l∈TD,Rise tN l) ?_ (λ key=> ?_)
    · rintro σ' H6 ⟨v9,TD,rfl,s6,r9,lTD,rTD⟩;have s06:=s05.trans s6;replace r4:=r4.same s6;replace hE:=s6 _ _ hE;replace hP:=s6 _ _ hP;walk_at "w";refine ⟨pE,rfl,⟨_,SqL.of hE⟩,λ D7 hD7=> ?_⟩;have bm:∀ k:Int,(0:Int)<1+Dz W k%26/\1+Dz W k%26<=26:=λ k=>by
        have h0:=Ae4 (Dz W k) (show (26:Int)≠0 by decide);have h1:=Ae5 (Dz W k) (show (0:Int)<26 by decide);omega
      have bq:∀ (x k:Int),0<=x%(1+Dz W k%26)/\x%(1+Dz W k%26)<26:=λ x k=>by
        have h:=bm k;have h0:=Ae4 x (show (1+Dz W k%26)≠0 by omega);have h1:=Ae5 x h.1;omega
      refine Bd (m:=0) (G:=λ i=> .str (PR (eE.getD i 0 / 17%(1+Dz W 41%26)))) (Bf (SqL.of hE) rfl) hD7 (by rw [Aa1];omega) ?_ ?_
      · intro i H' R hi s kk;rw [CO hi];walk_at "w";refine AK ⟨by decide,by decide⟩ ?_;walk_at "w";refine ⟨W,41,rfl,⟨by decide,by decide⟩,?_⟩;walk_at "w";refine AK (by decide) ?_;walk_at "w";refine AK (bm 41).1 ?_;have:=bq (eE.getD i 0 / 17) 41;refine Ma (by decide) (Km this.1 this.2) ?_;exact kk H' _ (Same.refl _) (.str _)
      intro H7 ys7 s7 hl7 r7;rw [Aa1,Oy] at r7;have s07:=s06.trans s7;replace r7:Rp H7 (FN H) 2 (.ref D7) _:=(r7.imp λ a ha=>s06.free ha).up (by decide);replace r4:=r4.same s7;replace r9:=r9.same s7;replace hE:=s7 _ _ hE;replace hP:=s7 _ _ hP;walk_at "w";refine ⟨pP,rfl,⟨_,SqL.of hP⟩,λ D8 hD8=> ?_⟩;refine Bd (m:=0) (G:=λ i=> .str (PR (eP.getD i 0 / 70000%(1+Dz W 42%26)))) (Bf (SqL.of hP) rfl) hD8 (by rw [Aa1];omega) ?_ ?_
      · intro i H' R hi s kk;rw [CO hi];walk_at "w";refine AK ⟨by decide,by decide⟩ ?_;walk_at "w";refine ⟨W,42,rfl,⟨by decide,by decide⟩,?_⟩;walk_at "w";refine AK (by decide) ?_;walk_at "w";refine AK (bm 42).1 ?_;have:=bq (eP.getD i 0 / 70000) 42;refine Ma (by decide) (Km this.1 this.2) ?_;exact kk H' _ (Same.refl _) (.str _)
      intro H8 ys8 s8 hl8 r8;rw [Aa1,Oy] at r8;have s08:=s07.trans s8;replace r8:Rp H8 (FN H) 2 (.ref D8) _:=(r8.imp λ a ha=>s07.free ha).up (by decide);replace r4:=r4.same s8;replace r9:=r9.same s8;replace r7:=r7.same s8;replace hE:=s8 _ _ hE;walk_at "w";refine ⟨pE,rfl,⟨_,SqL.of hE⟩,λ DA hDA=> ?_⟩;refine Bd (m:=0) (G:=λ i=>dN (eE.getD i 0%((sN+1:Nat):Int)).toNat) (Bf (SqL.of hE) rfl) hDA (by rw [Aa1];omega) ?_ ?_
      · intro i H' R hi s kk;rw [CO hi];walk_at "w";refine AK (by show (0:Int)<_;omega) ?_;have h0:=Ae4 (eE.getD i 0) (show ((sN:Nat):Int)+1≠0 by omega);have e:eE.getD i 0%(((sN:Nat):Int)+1)=(((eE.getD i 0%((sN+1:Nat):Int)).toNat:Nat):Int):=by
          rw [show ((sN+1:Nat):Int)=((sN:Nat):Int)+1 by omega];omega
        rw [e];exact kk H' _ (Same.refl _) (.int _)
      intro HA ysA sA hlA rA;rw [Aa1,Tf] at rA;have s0A:=s08.trans sA;replace rA:Rp HA (FN H) 2 (.ref DA) _:=(rA.imp λ a ha=>s08.free ha).up (by decide);replace r4:=r4.same sA;replace r9:=r9.same sA;replace r7:=r7.same sA;replace r8:=r8.same sA;walk_at "w";intro p hp;have sB:=Aj (o:=HO.tup [nV sN,nV tN, .ref DA, .ref D4,v9, .ref D7, .ref D8]) hp;refine k _ p ⟨sN,tN,_,TI,TD,_,_⟩ (s0A.trans sB) (s0A.free hp) (HK Af (.int _) (.int _) (rA.same sB) (r4.same sB) (r9.same sB) (r7.same sB) (r8.same sB)) ?_;exact {
        s1:=sN1,s2:=sN2,t1:=tN1,t2:=tN2
        h1:=by simpa using lE1
        h2:=by simpa using lE2.1
        hs:=λ n hn=>by
          obtain ⟨i,_,rfl⟩:=Ac3.mp hn;have h0:=Ae4 (eE.getD i 0) (show ((sN+1:Nat):Int)≠0 by omega);have h1:=Ae5 (eE.getD i 0) (show (0:Int)<((sN+1:Nat):Int) by omega);show _<=sN;omega
        il:=lTI,ir:=rTI
        p1:=by show 1<=TD.length;omega
        p2:=by show TD.length<=60;omega
        pr:=rTD
        wl:=by simp
        wc:=λ z hz=>by
          obtain ⟨i,_,rfl⟩:=Ac3.mp hz;exact Mm (bq _ 41).1 (bq _ 41).2
        fl:=by simp [lTD]
        fc:=λ z hz=>by
          obtain ⟨i,_,rfl⟩:=Ac3.mp hz;exact Mm (bq _ 42).1 (bq _ 42).2 }
    · walk_at "w";refine ⟨W,40,rfl,⟨by decide,by decide⟩,?_⟩;walk_at "w";refine AK (by decide) ?_;walk_at "w";refine ED (λ h0=> ?_) (λ h0=> ?_)
      · walk_at "w";refine ⟨pP,rfl,⟨_,SqL.of hP⟩,λ D6 hD6=> ?_⟩;refine Bd (m:=1) (G:=λ i=>dL [(1+eP.getD i 0%(tN:Nat)).toNat]) (Bf (SqL.of hP) rfl) hD6 (by rw [Aa1];omega) ?_ ?_
        · intro i H' R hi s kk;rw [CO hi];walk_at "w";refine AK (by show (0:Int)<(tN:Nat);omega) ?_;walk_at "w";intro q hq;have h0:=Ae4 (eP.getD i 0) (show ((tN:Nat):Int)≠0 by omega);refine kk _ _ (Aj hq) (Be ?_ hq (by simp));rw [Af];show some (HO.lst [V.int (1+eP.getD i 0%(tN:Nat))])=some (HO.lst [V.int (((1+eP.getD i 0%(tN:Nat)).toNat:Nat):Int)]);congr 4;omega
        · intro H6 ys6 s6 hl6 r6;rw [Aa1,Ku (λ i=>[(1+eP.getD i 0%(tN:Nat)).toNat])] at r6;refine E6 ?_;refine key _ _ ⟨_,_,rfl,s6,r6.imp λ a ha=>s05.free ha,by simp,λ l hl=> ?_⟩;obtain ⟨i,_,rfl⟩:=Ac3.mp hl;have h0:=Ae4 (eP.getD i 0) (show ((tN:Nat):Int)≠0 by omega);have h1:=Ae5 (eP.getD i 0) (show (0:Int)<(tN:Nat) by omega);intro j hj;have hj:j=0:=by simpa using hj
          subst hj;show 0+1<=(1+eP.getD i 0%(tN:Nat)).toNat/\(1+eP.getD i 0%(tN:Nat)).toNat<=tN;omega
      · refine BM ?_;refine key _ _ ⟨_,_,rfl,Same.refl _,r5,by simp,λ l hl=> ?_⟩;obtain ⟨i,_,rfl⟩:=Ac3.mp hl;exact C3 _ tN
def pK:List Key:=[.inr "shafts", .inr "treadles", .inr "threading", .inr "ties", .inr "treading", .inr "warp", .inr "weft"]
structure Turns (H:Hp) (d:Dr) (more:List (Key × V)) (d':Dr):Prop where
  few:more.length<=15
  to:∀ (H1:Hp) (w0 w1 w2 w3 w4 w5 w6:V),Same H H1->Parts H1 d [w0,w1,w2,w3,w4,w5,w6]->∃ u0 u1 u2 u3 u4 u5 u6,Parts H1 d' [u0,u1,u2,u3,u4,u5,u6]/\
    ∀ j u,[u0,u1,u2,u3,u4,u5,u6][j]?=some u->Hl (AR (AR [] (pK.zip [w0,w1,w2,w3,w4,w5,w6])) more) (pK.getD j (.inr ""))=some u
def AT (c:Cs):Sp:=λ vs H Q _=>∃ x d b more d',vs=[.ref x, .ref b]/\DrAt c.Draft H x d/\DrOk d/\H b=some (.dK more)/\Turns H d more d'/\DrOk d'/\∀ H' y,Same H H'->H y=none->DrAt c.Draft H' y d'->Q (.ref y) H'
abbrev Cv:Stmt:=top 24
theorem sc_changed_draft:FnScope ["draft","changes","parts"] ["draft","changes"] (Ah Cv):=⟨rfl,rfl,rfl,by decide +kernel,rfl,by decide +kernel,by decide +kernel⟩
theorem GO (F:Fun K "changed_draft" "changed_draft" Cv f fd) (T:Txt K mg c) (d_Draft_told:AI P w K mg base c.Draft "told" 1 ["self"] (Co c)) (m_Draft:GX P w K mg base "Draft" c.Draft 6 ["self","shafts","treadles","threading","ties","treading","warp","weft"] (Bz c)):FnOk P w K mg base CX0 8 f fd ["draft","changes"] (AT c):=by
  refine F.ok sc_changed_draft (λ vs H Q E h=> ?_) (λ cdv A outer s H vs Q E hr h=> ?_)
  · obtain ⟨x,d,b,more,d',rfl,_⟩:=h;rfl
  · obtain ⟨x,d,b,more,d',rfl,cx,ok,hb,tu,ok',k⟩:=h;obtain ⟨dx,v1,v2,v3,v4,v5,hx,_⟩:=id cx;have hu1:=hr.units1;have few:=tu.few;refine ⟨_,(Ac (Av (i:=2) sc_changed_draft.nd rfl (Or.inl rfl) (LZ (K:=K) rfl (T.own _ (by decide)) rfl (T.own _ (by decide)) (Aa (Y8 T.g_PARTS) (Aa (AG (pv 0) d_Draft_told (hr.mono (by decide))) Ab))))
      (Ac (AD (C6 (K:=K) PySem.F.plainAttrs_dict PySem.F.slot_dict_update PySem.F.type_dict_update Of (pv 2) (Aa (pv 1) Ab)))
      (Ag (Ak (EA m_Draft hr (Aa (De hu1 (pv 2) Aq (λ _ _=>rfl)) (Aa (De hu1 (pv 2) Aq (λ _ _=>rfl)) (Aa (De hu1 (pv 2) Aq (λ _ _=>rfl)) (Aa (De hu1 (pv 2) Aq (λ _ _=>rfl)) (Aa (De hu1 (pv 2) Aq (λ _ _=>rfl)) (Aa (De hu1 (pv 2) Aq (λ _ _=>rfl)) (Aa (De hu1 (pv 2) Aq (λ _ _=>rfl)) Ab)))))))))))),?_⟩
    walk_at "w";refine Mj ?_;walk_at "w";refine ⟨_,_,_,rfl,hx,rfl,?_⟩;walk_at "w";refine ⟨x,d,rfl,cx,λ H1 p s1 hp r1=> ?_⟩;obtain ⟨m,a,w0,w1,w2,w3,w4,w5,w6,em,ep,ha,q0,q1,q2,q3,q4,q5,q6⟩:=Nb r1;cases em;cases ep;walk_at "w";refine ⟨true,true,c.PARTS,p,pK,[w0,w1,w2,w3,w4,w5,w6],rfl,T.t_PARTS _,SqT.of ha,rfl,by decide,λ H2 D s2 hD gD=> ?_⟩;cases q0;cases q1;obtain ⟨b2,rfl,e2,_,_⟩:=B9 q2;obtain ⟨b5,rfl,e5,_,_⟩:=GW q5;obtain ⟨b6,rfl,e6,_,_⟩:=GW q6;have P1:Parts H1 d [nV d.sh,nV d.tr, .ref b2,w3,w4, .ref b5, .ref b6]:=⟨_,_,_,_,_,rfl,e2,q3.any,q4.any,e5,e6⟩;obtain ⟨u0,u1,u2,u3,u4,u5,u6,P2,val⟩:=tu.to H1 _ _ _ _ _ _ _ s1 P1;have hb2:=s2 _ _ (s1 _ _ hb);have nDb:D≠b:=λ z=>by
      have:=s1 _ _ hb;rw [<-z,hD] at this;cases this
    walk_at "w";refine ⟨.inr (.inr (.inl ⟨rfl, .inl ⟨_,gD⟩⟩)),?_⟩;walk_at "w";refine Sk nDb gD hb2 (Ac5 (Nat.add_le_add_right (Ac5 (BL _ []) (show _<=7 by simp [pK])) _) (by omega)) ?_;have s3:Same H1 (upd H2 D (.dK (AR (AR [] (pK.zip [nV d.sh,nV d.tr, .ref b2,w3,w4, .ref b5, .ref b6])) more))):=λ q o e=>by
      rw [Ai (Ax e hD)];exact s2 _ _ e
    have g3:upd H2 D (.dK (AR (AR [] (pK.zip [nV d.sh,nV d.tr, .ref b2,w3,w4, .ref b5, .ref b6])) more)) D=_:=Af;generalize upd H2 D (.dK (AR (AR [] (pK.zip [nV d.sh,nV d.tr, .ref b2,w3,w4, .ref b5, .ref b6])) more))=H3 at s3 g3 ⊢;have get:∀ j u,[u0,u1,u2,u3,u4,u5,u6][j]?=some u->DGet H3 D (kV (pK.getD j (.inr ""))) (some u):=λ j u e=>by
      rw [<-val j u e];exact DGet.k g3
    walk_at "w";refine ⟨D,u0,rfl,get 0 u0 rfl,?_⟩;walk_at "w";refine ⟨D,u1,rfl,get 1 u1 rfl,?_⟩;walk_at "w";refine ⟨D,u2,rfl,get 2 u2 rfl,?_⟩;walk_at "w";refine ⟨D,u3,rfl,get 3 u3 rfl,?_⟩;walk_at "w";refine ⟨D,u4,rfl,get 4 u4 rfl,?_⟩;walk_at "w";refine ⟨D,u5,rfl,get 5 u5 rfl,?_⟩;walk_at "w";refine ⟨D,u6,rfl,get 6 u6 rfl,?_⟩;walk_at "w";refine MO (P2.same s3) ok' λ H4 y s4 hy D4=> ?_;exact k H4 y (s1.trans (s3.trans s4)) (s1.free (s3.free hy)) D4
def isL (d:Dr) (p s:Nat):Bool:=(d.td.getD p []).any λ k=>decide (s∈d.ti.getD (k - 1) [])
theorem SX {d:Dr} (r:Rp H F n v (dDr d)):∃ m a a2 v3 v4 a5 a6,n=m+1/\v= .ref a/\H a=some (.tup [nV d.sh,nV d.tr, .ref a2,v3,v4, .ref a5, .ref a6])/\H a2=some (.lst (d.th.map nV))/\Rp H F m v3 (dLL d.ti)/\Rp H F m v4 (dLL d.td)/\H a5=some (.lst (d.wa.map V.str))/\H a6=some (.lst (d.we.map V.str)):=by
  obtain ⟨m,a,v0,v1,v2,v3,v4,v5,v6,em,rfl,ha,q0,q1,q2,q3,q4,q5,q6⟩:=Nb r;cases q0;cases q1;obtain ⟨b2,rfl,e2,_,_⟩:=B9 q2;obtain ⟨b5,rfl,e5,_,_⟩:=GW q5;obtain ⟨b6,rfl,e6,_,_⟩:=GW q6;exact ⟨m,a,b2,v3,v4,b5,b6,em,rfl,ha,e2,q3,q4,e5,e6⟩
theorem IA (r:Rp H F n v (dLL ls)):∃ a vs,v= .ref a/\H a=some (.lst vs)/\vs.length=ls.length/\vs.length<=100000/\∀ i,i<ls.length->∃ b,vs.getD i .non= .ref b/\H b=some (.lst ((ls.getD i []).map nV)):=by
  obtain ⟨m,a,vs,_,rfl,h,_,l,b,el⟩:=Dn r;rw [Aa1] at l;refine ⟨a,vs,rfl,h,l,b,λ i hi=> ?_⟩;have r:=el i (by simpa using hi);rw [AU dL ls i .non [] hi] at r;obtain ⟨b,eb,hb,_,_⟩:=B9 r;exact ⟨b,eb,hb⟩
theorem Qi (h:∀ n∈ns,1<=n) (i:Nat):(MM.mOf ns).testBit i=decide (i+1∈ns):=by
  rw [MM.mOf_bit,Ad0,List.any_eq_true,decide_eq_true_eq];constructor
  · rintro ⟨n,hn,e⟩;have e:=of_decide_eq_true e;have:=h n hn;rw [show i+1=n by omega];exact hn
  · intro q;exact ⟨i+1,q,by simp⟩
theorem Me {α:Type} {l:List α} {f g:α->Bool} (h:∀ a∈l,f a=g a):l.any f=l.any g:=by
  induction l with
  | nil=>rfl
  | cons a l ih=>rw [List.any_cons,List.any_cons,h a (Ad1 ..),ih λ b hb=>h b (Ac9 _ hb)]
theorem CY {d:Dr} (ok:DrOk d) {p:Nat} (hp:p<d.td.length) (i:Nat):(CQ d.ti (d.td.getD p [])).testBit i=isL d p (i+1):=by
  rw [J1];unfold isL;refine Me λ k hk=> ?_;have hm:=(ok.pr _ (getD_mem (y:=[]) hp)).le k hk;have hk':k - 1<d.ti.length:=by have:=ok.il;omega
  rw [AU MM.mOf d.ti (k - 1) 0 [] hk'];exact Qi (λ n hn=>((ok.ir _ (getD_mem (y:=[]) hk')).le n hn).1) i
theorem Ib {d:Dr} (ok:DrOk d) {p:Nat} (hp:p<d.td.length):isL d p 0=false:=by
  unfold isL;rw [List.any_eq_false];intro k hk;have hm:=(ok.pr _ (getD_mem (y:=[]) hp)).le k hk;have hk':k - 1<d.ti.length:=by have:=ok.il;omega
  simp only [decide_eq_true_eq];intro q;have:=((ok.ir _ (getD_mem (y:=[]) hk')).le 0 q).1;omega
theorem O9 {th:List Nat} {s l e:Nat} (hl:l<2 ^ s) (he:e<th.length):(Kn ((Aa9 s).map λ i=>Fb th (i+1)) l).testBit e=(decide (0<th.getD e 0)&&l.testBit (th.getD e 0 - 1)):=by
  unfold Kn;rw [MM.uOf_bit,List.any_map,Ad0,List.any_eq_true];have hb:∀ k∈MM.nOf l,1<=k/\k - 1<s:=λ k hk=>by
    obtain ⟨m1,m2⟩:=(MM.nOf_mem l k).mp hk;refine ⟨m1,?_⟩;rcases Ah4 (k - 1) s with z | z
    · exact z
    · rw [Ae6 (Ab3 hl (Ae7 (by decide) z))] at m2;cases m2
  have hv:∀ k∈MM.nOf l,(((Aa9 s).map λ i=>Fb th (i+1)).getD (k - 1) 0).testBit e=decide (th.getD e 0=k):=λ k hk=>by
    have h:=hb k hk;rw [CK (λ i=>Fb th (i+1)) h.2];unfold Fb;rw [MM.ofB_bit,show k - 1+1=k by omega];simp [he]
  constructor
  · rintro ⟨k,hk,q⟩;have q:(((Aa9 s).map λ i=>Fb th (i+1)).getD (k - 1) 0).testBit e=true:=q;rw [hv k hk] at q;have q:=of_decide_eq_true q;obtain ⟨m1,m2⟩:=(MM.nOf_mem l k).mp hk;rw [q,decide_eq_true (by omega),m2];rfl
  · intro q;simp only [Ad9,decide_eq_true_eq] at q;have hk:th.getD e 0∈MM.nOf l:=(MM.nOf_mem l _).mpr ⟨q.1,q.2⟩;refine ⟨_,hk,?_⟩;show (((Aa9 s).map λ i=>Fb th (i+1)).getD (th.getD e 0 - 1) 0).testBit e=true;rw [hv _ hk];simp
theorem Q6 {d:Dr} (ok:DrOk d) {p e:Nat} (hp:p<d.td.length) (he:e<d.th.length):((BV d).getD p 0).testBit e=isL d p (d.th.getD e 0):=by
  unfold BV;rw [AU (λ ks=>Kn ((Aa9 d.sh).map λ i=>Fb d.th (i+1)) (CQ d.ti ks)) d.td p 0 [] hp,O9 (EJ ok _) he];by_cases h:0<d.th.getD e 0
  · rw [CY ok hp,show d.th.getD e 0 - 1+1=d.th.getD e 0 by omega,decide_eq_true h];rfl
  · rw [decide_eq_false h,show d.th.getD e 0=0 by omega,Ib ok hp];rfl
inductive Nst (H:Hp) (F:Addr->Prop) (T:Nat):Nat->V->Prop where
  | non {n:Nat}:Nst H F T n .non
  | bl {n:Nat} (b:Bool):Nst H F T n (.bl b)
  | int {n:Nat} (i:Int):Nst H F T n (.int i)
  | str {n:Nat} (z:Str):Nst H F T n (.str z)
  | lst {n:Nat} {a:Addr} {us:List V} {k:Nat} (h:H a=some (.lst (us++Ab5 k (.int 7)))) (f:F a) (l:us.length<=100) (t:k<=T) (e:∀ v∈us,Nst H F T n v):Nst H F T (n+1) (.ref a)
  | tup {n:Nat} {a:Addr} {us:List V} (h:H a=some (.tup us)) (l:us.length<=100) (e:∀ v∈us,Nst H F T n v):Nst H F T (n+1) (.ref a)
def cN:Nat->Nat
  | 0=>0
  | n+1=>100*cN n+1
def cV (n:Nat):V->Nat
  | .ref _=>cN n
  | _=>0
theorem RO (n:Nat) (v:V):cV n v<=cN n:=by
  cases v <;> first | exact Aa7 _ | exact Ad3 _
def Ap (F:Addr->Prop) (k:Nat) (H H':Hp):Prop:=∀ b o,H b=some o->H' b=some o\/(F b/\∃ xs j,o= .lst xs/\j<=k/\H' b=some (.lst (xs++Ab5 j (.int 7))))
theorem Ap.of {k:Nat} (s:Same H H'):Ap F k H H':=λ b o e=> .inl (s b o e)
theorem Ap.trans {k:Nat} (h:Ap F k H H1) (g:Ap F j H1 H2):Ap F (k+j) H H2:=by
  intro b o e;rcases h b o e with e1 | ⟨f,xs,i,rfl,hi,e1⟩
  · rcases g b o e1 with e2 | ⟨f,xs,i,rfl,hi,e2⟩
    · exact .inl e2
    · exact .inr ⟨f,xs,i,rfl,by omega,e2⟩
  · rcases g b _ e1 with e2 | ⟨_,ys,i2,ey,hi2,e2⟩
    · exact .inr ⟨f,xs,i,rfl,by omega,e2⟩
    · cases ey;refine .inr ⟨f,xs,i+i2,rfl,by omega,?_⟩;rw [e2,List.append_assoc,List.replicate_append_replicate]
theorem Ap.le {k:Nat} (h:Ap F k H H1) (l:k<=j):Ap F j H H1:=by
  intro b o e;rcases h b o e with e1 | ⟨f,xs,i,rfl,hi,e1⟩
  · exact .inl e1
  · exact .inr ⟨f,xs,i,rfl,by omega,e1⟩
theorem Ap.there {k:Nat} (h:Ap F k H H1) (q:H b≠none):H1 b≠none:=by
  cases e:H b with
  | none=>exact absurd e q
  | some o=>
    rcases h b o e with e1 | ⟨_,xs,i,_,_,e1⟩
    · rw [e1];simp
    · rw [e1];simp
theorem Ap.out {k:Nat} (h:Ap F k H H1) (e:H b=some o) (n:¬ F b):H1 b=some o:=(h b o e).elim id λ q=>absurd q.1 n
theorem Nst.on {T k:Nat} (h:Nst H F T n v) (a:Ap F k H H'):Nst H' F (T+k) n v:=by
  induction h with
  | non=>exact .non
  | bl b=>exact .bl b
  | int i=>exact .int i
  | str z=>exact .str z
  | @lst n b us j h f l t e ih=>
    rcases a b _ h with e1 | ⟨_,xs,i,ex,hi,e1⟩
    · exact .lst e1 f l (by omega) ih
    · cases ex;refine .lst (k:=j+i) ?_ f l (by omega) ih;rw [e1,List.append_assoc,List.replicate_append_replicate]
  | @tup n b us h l e ih=>
    rcases a b _ h with e1 | ⟨_,xs,i,ex,hi,e1⟩
    · exact .tup e1 l ih
    · cases ex
inductive SmD:Dt->Prop where
  | non:SmD .non
  | bl (b:Bool):SmD (.bl b)
  | int (i:Int):SmD (.int i)
  | str (z:Str):SmD (.str z)
  | lst {ds:List Dt} (l:ds.length<=100) (h:∀ d∈ds,SmD d):SmD (.lst ds)
  | tup {ds:List Dt} (l:ds.length<=100) (h:∀ d∈ds,SmD d):SmD (.tup ds)
theorem Nst.of {d:Dt} (r:Rp H F n v d) (h:SmD d):Nst H F 0 n v:=by
  have mem:∀ {vs:List V} {ds:List Dt} (l:vs.length=ds.length) {v:V},v∈vs->∃ (i:Nat) (d:Dt),vs[i]?=some v/\ds[i]?=some d/\d∈ds:=λ l v hv=>by
    obtain ⟨i,hi,rfl⟩:=List.mem_iff_getElem.mp hv;exact ⟨i,_,Aa4 hi,Aa4 (by omega),Ag6 _⟩
  induction r with
  | non=>exact .non
  | bl b=>exact .bl b
  | int i=>exact .int i
  | str z=>exact .str z
  | @lst n a vs ds q f b l e ih=>
    cases h with
    | lst l' hd=>
      refine .lst (us:=vs) (k:=0) (by rw [q];simp) f (by omega) (Aa7 _) λ v hv=> ?_;obtain ⟨i,d,h1,h2,h3⟩:=mem l hv;exact ih i v d h1 h2 (hd d h3)
  | @tup n a vs ds q b l e ih=>
    cases h with
    | tup l' hd=>
      refine .tup q (by omega) λ v hv=> ?_;obtain ⟨i,d,h1,h2,h3⟩:=mem l hv;exact ih i v d h1 h2 (hd d h3)
theorem Nst.kind {K:PySem.W.Frag} {T:Nat} (h:Nst H F T n v):∃ t b1 b2,TyOf K H v (.type t)/\PySem.W.kitOne K (.type t) (.type "list")=some b1/\PySem.W.kitOne K (.type t) (.type "tuple")=some b2/\
    ((b1=false/\b2=false/\∀ m,cV m v=0)\/(b1=true/\b2=false/\∃ m a us k,n=m+1/\v= .ref a/\H a=some (.lst (us++Ab5 k (.int 7)))/\F a/\us.length<=100/\k<=T/\∀ x∈us,Nst H F T m x)\/
      (b1=false/\b2=true/\∃ m a us,n=m+1/\v= .ref a/\H a=some (.tup us)/\us.length<=100/\∀ x∈us,Nst H F T m x)):=by
  cases h with
  | non=>exact ⟨_,false,false, .non,kb (by decide +kernel),kb (by decide +kernel), .inl ⟨rfl,rfl,λ _=>rfl⟩⟩
  | bl b=>exact ⟨_,false,false, .bl b,kb (by decide +kernel),kb (by decide +kernel), .inl ⟨rfl,rfl,λ _=>rfl⟩⟩
  | int i=>exact ⟨_,false,false, .int i,kb (by decide +kernel),kb (by decide +kernel), .inl ⟨rfl,rfl,λ _=>rfl⟩⟩
  | str z=>exact ⟨_,false,false, .str z,kb (by decide +kernel),kb (by decide +kernel), .inl ⟨rfl,rfl,λ _=>rfl⟩⟩
  | lst h f l t e=>exact ⟨_,true,false, .lst h,kb (by decide +kernel),kb (by decide +kernel), .inr (.inl ⟨rfl,rfl,_,_,_,_,rfl,rfl,h,f,l,t,e⟩)⟩
  | tup h l e=>exact ⟨_,false,true, .tup h,kb (by decide +kernel),kb (by decide +kernel), .inr (.inr ⟨rfl,rfl,_,_,_,rfl,rfl,h,l,e⟩)⟩
def BG:Nat->Sp
  | 0=>λ _ _ _ _=>False
  | n+1=>λ vs H Q _=>∃ v F T,vs=[v]/\Nst H F T n v/\T+cV n v<=10000000/\(∀ b,F b->H b≠none)/\∀ H',Ap F (cV n v) H H'->Q .non H'
abbrev Cj:Stmt:=top 59
theorem sc__law_spoilt:FnScope ["_law_told","_law_one"] ["_law_told"] (Ah Cj):=⟨rfl,rfl,rfl,by decide +kernel,rfl,by decide +kernel,by decide +kernel⟩
theorem Hi (F:Fun K "_law_spoilt" "_law_spoilt" Cj f fd) (T:Txt K mg c) (c__law_spoilt:CallF P w K mg base "_law_spoilt" (n+1) ["_law_told"] (BG n)):FnOk P w K mg base CX0 (n+2) f fd ["_law_told"] (BG (n+1)):=by
  refine F.ok sc__law_spoilt (λ vs H Q E h=> ?_) (λ cdv A outer s H vs Q E hr h=> ?_)
  · obtain ⟨v,F,T,rfl,_⟩:=h;rfl
  · obtain ⟨v,F,T',rfl,nv,tc,hF,k⟩:=h;refine ⟨_,(Ac (AM (PW.pt (Kd (Bp (Am (Bx (K:=K)) rfl (T.own _ (by decide)) boot_isinstance (Aa (pv 0) (Aa (BR rfl (T.own _ (by decide)) AA) Ab)))) (GK (Bp (Am (Bx (K:=K)) rfl (T.own _ (by decide)) boot_isinstance (Aa (pv 0) (Aa (BR rfl (T.own _ (by decide)) AJ) Ab))))))) (Ag (EL PassesOwn.never rfl (BJ (K:=K) (As (BD (K:=K)) rfl (T.own _ (by decide)) AA (Aa (pv 0) Ab))) (AV (i:=1) sc__law_spoilt.nd rfl (Or.inl rfl)) (Ag (AD (Ae c__law_spoilt hr (Aa (pv 1) Ab)))))) Ay)
      (Ag (AM (Bp (Am (Bx (K:=K)) rfl (T.own _ (by decide)) boot_isinstance (Aa (pv 0) (Aa (BR rfl (T.own _ (by decide)) AA) Ab)))) (Ag (AD (C6 (K:=K) PySem.F.plainAttrs_list PySem.F.slot_list_append PySem.F.type_list_append Bw (pv 0) (Aa Ad Ab)))) Ay))),?_⟩
    obtain ⟨t,b1,b2,ty,k1,k2,kd⟩:=nv.kind (K:=K);have body:∀ D:Ends,(∃ m us j a,n=m+1/\v= .ref a/\(SqL K H a (us++Ab5 j (.int 7))\/SqT K H a (us++Ab5 j (.int 7)))/\us.length<=100/\j<=T'/\(∀ x∈us,Nst H F T' m x)/\∀ H3 y,Ap F (us.length*cN m) H H3->D.nx [some v,y] H3)->
        To (Nt K (tCB (FK K) (Ng (PZ 0) NY))) (A5 1) (PM (Ly (BG n) [] E0 (Ng (PZ 1) NY))) D (L2.start ["_law_told","_law_one"] [v]) H:=by
      rintro D ⟨m,us,j,a,rfl,rfl,ha,lu,lj,iu,kk⟩;have cm:cN (m+1)=100*cN m+1:=rfl;have mu:us.length*cN m<=100*cN m:=Nat.mul_le_mul_right _ lu;have tc:T'+cN (m+1)<=10000000:=tc;walk_at "w";refine (λ key=>ha.elim (λ ha=>Fa ha key) (λ ha=>Bi ha key)) λ p hp=> ?_;have s1:=Aj (o:=HO.lst (us++Ab5 j (.int 7))) hp;have g1:upd H p (HO.lst (us++Ab5 j (.int 7))) p=_:=Af;generalize upd H p (HO.lst (us++Ab5 j (.int 7)))=H1 at s1 g1 ⊢;have nF:¬ F p:=λ z=>hF p z hp;refine ⟨p,rfl,⟨_,SqL.of g1⟩,FL (H0:=λ b=>if b=p then some (.lst (us++Ab5 j (.int 7))) else none) (E8 (SqL.of (if_pos rfl))) (λ i σ H3=>∃ y,σ=[some (.ref a),y]/\Ap F (min i us.length*cN m) H1 H3) ⟨_,rfl,Ap.of (Same.refl _)⟩ (λ i σ H3 ⟨_,_,a3⟩ b o e=> ?_) ?_ ?_⟩
      · have e:(if b=p then some (HO.lst (us++Ab5 j (.int 7))) else none)=some o:=e;by_cases c:b=p
        · rw [if_pos c] at e;cases e;rw [c];exact a3.out g1 nF
        · rw [if_neg c] at e;cases e
      · rintro i σ G H3 hi ⟨y,rfl,a3⟩ s3;have a03:Ap F (min i us.length*cN m) H H3:=λ b o e=>by
          rcases a3 b o (s1 _ _ e) with e1 | ⟨f1,xs,q,ex,hq,e1⟩
          · exact .inl (s3 _ _ e1)
          · exact .inr ⟨f1,xs,q,ex,hq,s3 _ _ e1⟩
        have a13:Ap F (min i us.length*cN m) H1 H3:=λ b o e=>by
          rcases a3 b o e with e1 | ⟨f1,xs,q,ex,hq,e1⟩
          · exact .inl (s3 _ _ e1)
          · exact .inr ⟨f1,xs,q,ex,hq,s3 _ _ e1⟩
        have mi:min i us.length*cN m<=us.length*cN m:=Nat.mul_le_mul_right _ (Nat.min_le_right _ _);walk_at "w";rcases Ah4 i us.length with hu' | hu'
        · have ev:(us++Ab5 j (V.int 7)).getD i .non=us.getD i .non:=by
            rw [Aa2,Aa2,Af0 hu']
          rw [ev];have hm:us.getD i .non∈us:=L2.getD_mem hu';have mi2:(min i us.length+1)*cN m<=us.length*cN m:=Nat.mul_le_mul_right _ (by omega);rw [Nat.succ_mul] at mi2;refine ⟨_,F,T'+min i us.length*cN m,rfl,(iu _ hm).on a03,by have:=RO m (us.getD i .non);omega,λ b hb=>a03.there (hF b hb),λ H4 a4=> ?_⟩;walk_at "w";refine ⟨_,rfl,?_⟩;rw [show min (i+1) us.length=i+1 by omega,Nat.succ_mul];have e2:min i us.length=i:=by omega
          rw [e2] at a13;exact (a13.trans a4).le (by have:=RO m (us.getD i .non);omega)
        · have ev:(us++Ab5 j (V.int 7)).getD i .non= .int 7:=by
            rw [Ac0,List.length_replicate] at hi;rw [Aa2,Ae8 hu',List.getElem?_replicate,if_pos (by omega)];rfl
          rw [ev];refine ⟨_,F,T'+min i us.length*cN m,rfl, .int 7,by show _+0<=_;omega,λ b hb=>a03.there (hF b hb),λ H4 a4=> ?_⟩;walk_at "w";refine ⟨_,rfl,?_⟩;rw [show min (i+1) us.length=min i us.length by omega];exact (a13.trans a4).le (Aa7 _)
      · rintro σ H3 ⟨y,rfl,a3⟩;refine kk H3 y λ b o e=> ?_;have e0:min (us++Ab5 j (V.int 7)).length us.length=us.length:=by rw [Ac0];omega
        rw [e0] at a3;exact a3 b o (s1 _ _ e)
    walk_at "w";refine A1 ty k1 ?_;refine ⟨_,rfl,?_⟩;rcases kd with ⟨rfl,rfl,cv⟩ | ⟨rfl,rfl,m,a,us,j,rfl,rfl,ha,fa,lu,lj,iu⟩ | ⟨rfl,rfl,m,a,us,rfl,rfl,ha,lu,iu⟩
    · refine B2 ?_;walk_at "w";refine A1 ty k2 ?_;walk_at "w";refine A1 ty k1 ?_;walk_at "w";exact k H (by rw [cv];exact Ap.of (Same.refl _))
    · have cm:cN (m+1)=100*cN m+1:=rfl;have mu:us.length*cN m<=100*cN m:=Nat.mul_le_mul_right _ lu;refine DI (DI (body _ ⟨m,us,j,a,rfl,rfl, .inl (SqL.of ha),lu,lj,iu,λ H3 y a3=> ?_⟩));have g3:∃ q,q<=us.length*cN m/\H3 a=some (.lst ((us++Ab5 j (.int 7))++Ab5 q (.int 7))):=by
        rcases a3 a _ ha with e1 | ⟨_,xs,q,ex,hq,e1⟩
        · exact ⟨0,Ad3 _,by rw [e1];simp⟩
        · cases ex;exact ⟨q,hq,e1⟩
      obtain ⟨q,hq,g3⟩:=g3;walk_at "w";refine A1 (.lst g3) (kb (b:=true) (by decide +kernel)) ?_;walk_at "w";refine tyL (SqL.of g3) ?_;walk_at "w";have tc:T'+cN (m+1)<=10000000:=tc;refine DW g3 (by simp only [Ac0,List.length_replicate];omega) ?_;walk_at "w";refine k _ λ b o e=> ?_;by_cases c':b=a
      · subst c';rw [ha] at e;cases e;refine .inr ⟨fa,_,q+1,rfl,by show q+1<=cN (m+1);omega,?_⟩;rw [Af,List.append_assoc, <-List.replicate_succ']
      · rw [Ai c'];exact (a3.le (show us.length*cN m<=cN (m+1) by omega)) b o e
    · have cm:cN (m+1)=100*cN m+1:=rfl;have mu:us.length*cN m<=100*cN m:=Nat.mul_le_mul_right _ lu;refine B2 ?_;walk_at "w";refine A1 ty k2 ?_;refine ⟨_,rfl,?_⟩;refine DI ?_;refine body _ ⟨m,us,0,a,rfl,rfl, .inr (SqT.of (by rw [ha];simp)),lu,Ad3 _,iu,λ H3 y a3=> ?_⟩;have g3:H3 a=some (.tup us):=by
        rcases a3 a _ ha with e1 | ⟨_,xs,q,ex,hq,e1⟩
        · exact e1
        · cases ex
      walk_at "w";refine A1 (.tup g3) (kb (b:=false) (by decide +kernel)) ?_;walk_at "w";exact k H3 (a3.le (show us.length*cN m<=cN (m+1) by omega))
theorem ER {f:Addr} {fd:FuncData} (D:DefAt K mg "_law_spoilt" Cj ["_law_told"] f fd) (T:Txt K mg c):∀ n,FnOk P w K mg base CX0 (n+1) f fd ["_law_told"] (BG n)
  | 0=>⟨λ _ _ _ _ h=>h.elim,λ _ _ _ _ _ _ _ _ _ _ _ _ _ h=>h.elim⟩
  | n+1=>Hi D.fn T (D.call (ER D T n))
def A2:Sp:=λ vs H Q _=>∃ p m:Nat,vs=[nV p,nV m]/\1<=p/\p<=m/\Q .non H
abbrev DM:Stmt:=top 45
theorem JH:FnScope ["thing","most"] ["thing","most"] (Ah DM):=⟨rfl,rfl,rfl,by decide +kernel,rfl,by decide +kernel,by decide +kernel⟩
theorem Jd (F:Fun K "need_place" "need_place" DM f fd) (T:Txt K mg c) (c_is_among:CallF P w K mg base "is_among" 2 ["thing","least","most"] (BS K)):FnOk P w K mg base CX0 3 f fd ["thing","most"] A2:=by
  refine F.ok JH (λ vs H Q E h=> ?_) (λ cdv A outer s H vs Q E hr h=> ?_)
  · obtain ⟨p,m,rfl,_⟩:=h;rfl
  · obtain ⟨p,m,rfl,h1,h2,k⟩:=h;refine ⟨_,(Ag (AM (Ce (Bp (Ae c_is_among hr (Aa (pv 0) (Aa Ad (Aa (pv 1) Ab)))))) (Ag CU) Ay)),?_⟩;walk_at "w";refine ⟨_,_,_,rfl,⟨_, .int _⟩,?_⟩;rw [am (by omega) (by omega)];walk_at "w";exact k
def Cq:Sp:=λ vs H Q _=>∃ v ls,vs=[v]/\Rp H FT 2 v (dTT ls)/\∀ H' p,Same H H'->H p=none->Rp H' (FN H) 2 (.ref p) (dLL ls)->Q (.ref p) H'
abbrev Fx:Stmt:=top 46
theorem Lj:FnScope ["tuples"] ["tuples"] (Ah Fx):=⟨rfl,rfl,rfl,by decide +kernel,rfl,by decide +kernel,by decide +kernel⟩
theorem LO (F:Fun K "lists_of" "lists_of" Fx f fd) (T:Txt K mg c):FnOk P w K mg base CX0 1 f fd ["tuples"] Cq:=by
  refine F.ok Lj (λ vs H Q E h=> ?_) (λ cdv A outer s H vs Q E hr h=> ?_)
  · obtain ⟨v,ls,rfl,_⟩:=h;rfl
  · obtain ⟨v,ls,rfl,rv,k⟩:=h;obtain ⟨m2,a2,vs2,em2,rfl,e2,l2,b2,el2⟩:=GN rv;cases em2;rw [Aa1] at l2;refine ⟨_,(Ag (Ak (AO (Ka (K:=K) (pv 0)) (λ _ _ _ _=>AL) (λ _ _ _ _=>(As (BD (K:=K)) rfl (T.own _ (by decide)) AA (Aa (pv 0) Ab)))))),?_⟩;walk_at "w";refine ⟨a2,rfl,⟨_,SqT.of e2⟩,λ D2 hD2=> ?_⟩;refine Bd (m:=1) (G:=λ i=>dL (ls.getD i [])) (E5 (SqT.of e2) rfl) hD2 b2 ?_ ?_
    · intro i H' R hi s kk;have hi':i<ls.length:=by omega
      have r:=el2 i (by simpa using hi');rw [AU dT ls i .non [] hi'] at r;obtain ⟨b,eb,hb3,hb4⟩:=C4 r;rw [eb];walk_at "w";exact Bi (SqT.of (s _ _ hb3)) λ q hq=>kk _ _ (Aj hq) (Be Af hq hb4)
    intro H2 ys2 s2 hl2 r2;rw [l2,PU] at r2;exact k H2 D2 s2 hD2 r2
theorem OT {k:Nat} (h:1<=k):Em xs none (some ((k:Nat) - 1:Int))=xs.take (k - 1):=by
  rw [ME (by omega),show (((k:Nat):Int) - 1).toNat=k - 1 by omega]
theorem RC {k:Nat}:Em xs (some ((k:Nat):Int)) none=xs.drop k:=by
  rw [Lx (by omega),Ac2]
theorem Xp {k:Nat} (h:1<=k):Em xs (some ((k:Nat) - 1:Int)) none=xs.drop (k - 1):=by
  rw [Lx (by omega),show (((k:Nat):Int) - 1).toNat=k - 1 by omega]
def BF (K:PySem.W.Frag):Sp:=λ vs H Q _=>∃ tp a xs k v,vs=[.ref a,nV k,v]/\SqS tp K H a xs/\1<=k/\k<=xs.length/\xs.length<=1000/\∀ H' p,Same H H'->H p=none->H' p=some (.lst (xs.set (k - 1) v))->Q (.ref p) H'
theorem SW {k:Nat} (h1:1<=k) (h2:k<=xs.length):xs.take (k - 1)++[v]++xs.drop k=xs.set (k - 1) v:=by
  rw [List.set_eq_take_append_cons_drop,if_pos (by omega),show k - 1+1=k by omega];simp
abbrev Df:Stmt:=top 47
theorem HL:FnScope ["members","place","thing"] ["members","place","thing"] (Ah Df):=⟨rfl,rfl,rfl,by decide +kernel,rfl,by decide +kernel,by decide +kernel⟩
theorem Ih (F:Fun K "replaced_at" "replaced_at" Df f fd) (T:Txt K mg c):FnOk P w K mg base CX0 1 f fd ["members","place","thing"] (BF K):=by
  refine F.ok HL (λ vs H Q E h=> ?_) (λ cdv A outer s H vs Q E hr h=> ?_)
  · obtain ⟨tp,a,xs,k,v,rfl,_⟩:=h;rfl
  · obtain ⟨tp,a,xs,k,v,rfl,sa,h1,h2,h3,kk⟩:=h;refine ⟨_,(Ag (Ak (Al (IE (K:=K)) (Al (IE (K:=K)) (As (BD (K:=K)) rfl (T.own _ (by decide)) AA (Aa (Cr (Kg (K:=K)) (pv 0) Da (C7 (Al BH (pv 1) Ad))) Ab)) (AB (Aa (pv 2) Ab))) (As (BD (K:=K)) rfl (T.own _ (by decide)) AA (Aa (Cr (Kg (K:=K)) (pv 0) (C7 (pv 1)) Da) Ab))))),?_⟩;walk_at "w";refine Gh sa λ H1 p1 s1 q1=> ?_;rw [OT h1] at q1;walk_at "w";refine DG q1 λ p2 n2=> ?_;wrow_has H1 x2;walk_at "w";row_lines H2 x3;walk_at "w";refine FC (SqL.of (s3 _ _ g2)) (SqL.of g3) (by simp;omega) λ p4 n4=> ?_;wrow_has H3 x4;have s04:=s1.trans (s2.trans (s3.trans s4));walk_at "w";refine Gh (sa.same s04) λ H5 p5 s5 q5=> ?_;rw [RC] at q5;walk_at "w";refine DG q5 λ p6 n6=> ?_;wrow_has H5 x6;walk_at "w";refine FC (SqL.of (s6 _ _ (s5 _ _ g4))) (SqL.of g6) (by simp;omega) λ p7 n7=> ?_;have s06:=s04.trans (s5.trans s6);refine kk _ p7 (s06.trans (Aj n7)) (s06.free n7) ?_;rw [Af,SW h1 h2]
def Gz (K:PySem.W.Frag):Sp:=λ vs H Q _=>∃ tp a xs k v,vs=[.ref a,nV k,v]/\SqS tp K H a xs/\1<=k/\k<=xs.length+1/\xs.length<=1000/\∀ H' p,Same H H'->H p=none->H' p=some (.lst (xs.take (k - 1)++v::xs.drop (k - 1)))->Q (.ref p) H'
abbrev Ig:Stmt:=top 48
theorem N0:FnScope ["members","place","thing"] ["members","place","thing"] (Ah Ig):=⟨rfl,rfl,rfl,by decide +kernel,rfl,by decide +kernel,by decide +kernel⟩
theorem NX (F:Fun K "put_at" "put_at" Ig f fd) (T:Txt K mg c):FnOk P w K mg base CX0 1 f fd ["members","place","thing"] (Gz K):=by
  refine F.ok N0 (λ vs H Q E h=> ?_) (λ cdv A outer s H vs Q E hr h=> ?_)
  · obtain ⟨tp,a,xs,k,v,rfl,_⟩:=h;rfl
  · obtain ⟨tp,a,xs,k,v,rfl,sa,h1,h2,h3,kk⟩:=h;refine ⟨_,(Ag (Ak (Al (IE (K:=K)) (Al (IE (K:=K)) (As (BD (K:=K)) rfl (T.own _ (by decide)) AA (Aa (Cr (Kg (K:=K)) (pv 0) Da (C7 (Al BH (pv 1) Ad))) Ab)) (AB (Aa (pv 2) Ab))) (As (BD (K:=K)) rfl (T.own _ (by decide)) AA (Aa (Cr (Kg (K:=K)) (pv 0) (C7 (Al BH (pv 1) Ad)) Da) Ab))))),?_⟩;walk_at "w";refine Gh sa λ H1 p1 s1 q1=> ?_;rw [OT h1] at q1;walk_at "w";refine DG q1 λ p2 n2=> ?_;wrow_has H1 x2;walk_at "w";row_lines H2 x3;walk_at "w";refine FC (SqL.of (s3 _ _ g2)) (SqL.of g3) (by simp;omega) λ p4 n4=> ?_;wrow_has H3 x4;have s04:=s1.trans (s2.trans (s3.trans s4));walk_at "w";refine Gh (sa.same s04) λ H5 p5 s5 q5=> ?_;rw [Xp h1] at q5;walk_at "w";refine DG q5 λ p6 n6=> ?_;wrow_has H5 x6;walk_at "w";refine FC (SqL.of (s6 _ _ (s5 _ _ g4))) (SqL.of g6) (by simp;omega) λ p7 n7=> ?_;have s06:=s04.trans (s5.trans s6);refine kk _ p7 (s06.trans (Aj n7)) (s06.free n7) ?_;rw [Af,List.append_assoc];rfl
def EG (K:PySem.W.Frag):Sp:=λ vs H Q _=>∃ tp a xs k,vs=[.ref a,nV k]/\SqS tp K H a xs/\1<=k/\k<=xs.length/\xs.length<=1000/\∀ H' p,Same H H'->H p=none->H' p=some (.lst (xs.eraseIdx (k - 1)))->Q (.ref p) H'
abbrev Fw:Stmt:=top 49
theorem LD:FnScope ["members","place"] ["members","place"] (Ah Fw):=⟨rfl,rfl,rfl,by decide +kernel,rfl,by decide +kernel,by decide +kernel⟩
theorem Lo (F:Fun K "taken_at" "taken_at" Fw f fd) (T:Txt K mg c):FnOk P w K mg base CX0 1 f fd ["members","place"] (EG K):=by
  refine F.ok LD (λ vs H Q E h=> ?_) (λ cdv A outer s H vs Q E hr h=> ?_)
  · obtain ⟨tp,a,xs,k,rfl,_⟩:=h;rfl
  · obtain ⟨tp,a,xs,k,rfl,sa,h1,h2,h3,kk⟩:=h;refine ⟨_,(Ag (Ak (Al (IE (K:=K)) (As (BD (K:=K)) rfl (T.own _ (by decide)) AA (Aa (Cr (Kg (K:=K)) (pv 0) Da (C7 (Al BH (pv 1) Ad))) Ab)) (As (BD (K:=K)) rfl (T.own _ (by decide)) AA (Aa (Cr (Kg (K:=K)) (pv 0) (C7 (pv 1)) Da) Ab))))),?_⟩;walk_at "w";refine Gh sa λ H1 p1 s1 q1=> ?_;rw [OT h1] at q1;walk_at "w";refine DG q1 λ p2 n2=> ?_;wrow_has H1 x2;have s02:=s1.trans s2;walk_at "w";refine Gh (sa.same s02) λ H5 p5 s5 q5=> ?_;rw [RC] at q5;walk_at "w";refine DG q5 λ p6 n6=> ?_;wrow_has H5 x6;walk_at "w";refine FC (SqL.of (s6 _ _ (s5 _ _ g2))) (SqL.of g6) (by simp;omega) λ p7 n7=> ?_;have s06:=s02.trans (s5.trans s6);refine kk _ p7 (s06.trans (Aj n7)) (s06.free n7) ?_;rw [Af,Af3,show k - 1+1=k by omega]
def CC (ms ns:List Nat):List Nat:=((Aa9 ms.length).filter λ i=> !decide (ms.getD i 0=ns.getD i 0)).map (· + 1)
def Er (K:PySem.W.Frag):Sp:=λ vs H Q _=>∃ t1 t2 a b,∃ ms ns:List Nat,vs=[.ref a, .ref b]/\SqS t1 K H a (ms.map nV)/\SqS t2 K H b (ns.map nV)/\ms.length=ns.length/\ms.length<=1000/\∀ H' p,Same H H'->H p=none->H' p=some (.lst ((CC ms ns).map nV))->Q (.ref p) H'
abbrev CW:Stmt:=top 50
theorem Hm:FnScope ["members","later"] ["members","later"] (Ah CW):=⟨rfl,rfl,rfl,by decide +kernel,rfl,by decide +kernel,by decide +kernel⟩
theorem Ho (F:Fun K "other_places" "other_places" CW f fd) (T:Txt K mg c):FnOk P w K mg base CX0 1 f fd ["members","later"] (Er K):=by
  refine F.ok Hm (λ vs H Q E h=> ?_) (λ cdv A outer s H vs Q E hr h=> ?_)
  · obtain ⟨t1,t2,a,b,ms,ns,rfl,_⟩:=h;rfl
  · obtain ⟨t1,t2,a,b,ms,ns,rfl,sa,sb,hl,hm,k⟩:=h;refine ⟨_,(Ag (Ak (EI (K:=K) (Pa (K:=K) rfl (T.own _ (by decide)) rfl (T.own _ (by decide)) (Aa (pv 0) (Aa (pv 1) Ab))) (λ _ _ _ _=>(E3 (Au Lg (Ar (AN (K:=K)) (pv 1) Ad (λ _ _=>rfl)) (Ar (AN (K:=K)) (pv 1) Ad (λ _ _=>rfl)) (AC _)))) (λ _ _ _ _=>(pv 0))))),?_⟩;walk_at "w";refine Sq ?_;walk_at "w";refine ⟨t1,t2,a,b,rfl,⟨_,sa⟩,⟨_,sb⟩,λ D hD=> ?_⟩;refine Rm (xs:=ms.map nV) (zs:=ns.map nV) (by simp [hl]) (λ i ys H'=>ys=(((Aa9 i).filter λ i=> !decide (ms.getD i 0=ns.getD i 0)).map (· + 1)).map nV/\Same H H'/\H' D=some (.lst ys)) ⟨rfl,Ci (Same.refl _) hD,Af⟩ (λ i ys H' _ ⟨_,s,_⟩=>⟨sa.same s,sb.same s⟩) ?_ ?_
    · rintro i x z ys H' p q hx hz ⟨rfl,s1,hl'⟩ hp hq ne;refine ⟨((Kp.refl _).set rfl).set rfl,?_⟩;have hi:i<ms.length:=by
        have:=(Ad4.mp hx).1;simpa using this
      have ex:x=nV (ms.getD i 0):=by
        rw [Ac4,Aa4 hi] at hx;rw [Aa2,Aa4 hi];exact (Ae2.inj hx).symm
      have ez:z=nV (ns.getD i 0):=by
        rw [Ac4,Aa4 (by omega)] at hz;rw [Aa2,Aa4 (by omega)];exact (Ae2.inj hz).symm
      subst ex ez;have s2:Same H' (upd (upd H' p (HO.tup [nV (ms.getD i 0),nV (ns.getD i 0)])) q (HO.tup [.int ((i+1:Nat):Int), .ref p])):=(Aj hp).trans (Aj (by rw [Ai ne.symm];exact hq));have gp:upd (upd H' p (HO.tup [nV (ms.getD i 0),nV (ns.getD i 0)])) q (HO.tup [.int ((i+1:Nat):Int), .ref p]) p=some (HO.tup [nV (ms.getD i 0),nV (ns.getD i 0)]):=by rw [Ai ne,Af]
      generalize upd (upd H' p (HO.tup [nV (ms.getD i 0),nV (ns.getD i 0)])) q (HO.tup [.int ((i+1:Nat):Int), .ref p])=H2 at s2 gp ⊢;have s02:=s1.trans s2;have hl2:=s2 _ _ hl';walk_at "w";refine Ao (SqT.of gp) (show atI _ 0=_ from rfl) ?_;walk_at "w";refine Ao (SqT.of gp) (show atI _ 1=_ from rfl) ?_;walk_at "w";by_cases e:ms.getD i 0=ns.getD i 0
      · have er:((Aa9 (i+1)).filter λ i=> !decide (ms.getD i 0=ns.getD i 0))=(Aa9 i).filter λ i=> !decide (ms.getD i 0=ns.getD i 0):=by
          rw [Ag2,Ag3,List.filter_cons,decide_eq_true e];simp
        rw [e,decide_eq_true rfl];refine B2 ⟨?_,s02,hl2⟩;rw [er]
      · have er:((Aa9 (i+1)).filter λ i=> !decide (ms.getD i 0=ns.getD i 0))=((Aa9 i).filter λ i=> !decide (ms.getD i 0=ns.getD i 0))++[i]:=by
          rw [Ag2,Ag3,List.filter_cons,decide_eq_false e];simp
        rw [decide_eq_false (by omega)];refine DI ?_;walk_at "w";refine ⟨hl2,?_,?_,Ci s02 hD,Af⟩
        · rw [Aa1,Aa1];exact Nat.lt_of_le_of_lt (Ac5 (Af9 _ _) (by simp;omega)) (show 1000<sizeLine by decide)
        · rw [er,Ae0,Ae0];rfl
    · rintro ys H' ⟨rfl,s1,g1⟩;refine k H' D s1 hD ?_;rw [g1,Aa1];rfl
theorem T_F (r:Rp H F n v (dT ns)):Rp H F' n v (dT ns):=by
  obtain ⟨a,rfl,h,b⟩:=C4 r;cases r with
  | tup h' b' l e=>exact Qf h b
theorem Yj {ns:List Str} (r:Rp H F n v (dST ns)):Rp H F' n v (dST ns):=by
  obtain ⟨a,rfl,h,b⟩:=DY r;cases r with
  | tup h' b' l e=>exact OW h b
theorem Wu (r:Rp H F n v (dTT ls)):Rp H F' n v (dTT ls):=by
  cases r with
  | tup h b l e=>
    refine .tup h b l λ i v d h1 h2=> ?_
    · have:=e i v d h1 h2;rw [Ac4] at h2;cases hg:ls[i]? with
      | none=>rw [hg] at h2;cases h2
      | some ns=>rw [hg] at h2;cases h2;exact T_F this
theorem FP {d:Dt} (r:Rp H (λ _=>False) n v d) (k:∀ a us,H a=some (.tup us)->H' a=some (.tup us)):Rp H' F n v d:=by
  induction r with
  | non=>exact .non
  | bl b=>exact .bl b
  | int i=>exact .int i
  | str z=>exact .str z
  | lst h f b l e ih=>exact f.elim
  | tup h b l e ih=>exact .tup (k _ _ h) b l ih
theorem DrAt.tups {d:Dr} (h:DrAt C H y d) (hy:∀ o,H y=some o->H' y=some o) (k:∀ a us,H a=some (.tup us)->H' a=some (.tup us)):DrAt C H' y d:=by
  obtain ⟨dx,v1,v2,v3,v4,v5,h0,h1,h2,h3,h4,h5⟩:=h;exact ⟨dx,v1,v2,v3,v4,v5,hy _ h0,FP (T_F h1) k,FP (Wu h2) k,FP (Wu h3) k,FP (Yj h4) k,FP (Yj h5) k⟩
abbrev Bk:=List Nat × List Nat
def Ent (c:Cs) (B:Hp) (v:V) (e:Dr × Bk):Prop:=∃ t y p q,v= .ref t/\B t=some (.tup [.ref y, .ref p, .ref q])/\DrAt c.Draft B y e.1/\B p=some (.lst (e.2.1.map nV))/\B q=some (.lst (e.2.2.map nV))
theorem Ent.same {c:Cs} {B':Hp} {e:Dr × Bk} (h:Ent c B v e) (s:Same B B'):Ent c B' v e:=
  let ⟨t,y,p,q,e0,h1,h2,h3,h4⟩:=h;⟨t,y,p,q,e0,s _ _ h1,h2.same s,s _ _ h3,s _ _ h4⟩
inductive Ents (c:Cs) (B:Hp):List V->List (Dr × Bk)->Prop where
  | nil:Ents c B [] []
  | cons {v:V} {vs:List V} {e:Dr × Bk} {es:List (Dr × Bk)} (h:Ent c B v e) (t:Ents c B vs es):Ents c B (v::vs) (e::es)
theorem Ents.same {c:Cs} {B':Hp} {es:List (Dr × Bk)} (h:Ents c B vs es) (s:Same B B'):Ents c B' vs es:=by
  induction h with
  | nil=>exact .nil
  | cons h t ih=>exact .cons (h.same s) ih
theorem Ents.len {c:Cs} {es:List (Dr × Bk)} (h:Ents c B vs es):vs.length=es.length:=by
  induction h with
  | nil=>rfl
  | cons h t ih=>rw [Ac6,Ac6,ih]
theorem Ents.snoc {c:Cs} {es:List (Dr × Bk)} {e:Dr × Bk} (h:Ents c B vs es) (g:Ent c B v e):Ents c B (vs++[v]) (es++[e]):=by
  induction h with
  | nil=>exact .cons g .nil
  | cons h t ih=>exact .cons h ih
theorem Ents.last {c:Cs} {es:List (Dr × Bk)} {e:Dr × Bk} (h:Ents c B vs (es++[e])):∃ us u,vs=us++[u]/\Ents c B us es/\Ent c B u e:=by
  induction es generalizing vs with
  | nil=>
    cases h with
    | cons h t=>cases t;exact ⟨[],_,rfl, .nil,h⟩
  | cons e' es ih=>
    cases h with
    | cons h t=>
      obtain ⟨us,u,rfl,h1,h2⟩:=ih t;exact ⟨_::us,u,rfl, .cons h h1,h2⟩
structure HandAt (c:Cs) (B H:Hp) (x lp:Addr) (d:Dr) (st:List (Dr × Bk)):Prop where
  ex:∃ dx y refs,H x=some (.ins c.Hand dx [("held", .ref y),("past", .ref lp)])/\H lp=some (.lst refs)/\DrAt c.Draft B y d/\Ents c B refs st
  sB:Same B H
  bx:B x=none
  bl:B lp=none
theorem HandAt.same {c:Cs} {d:Dr} {st:List (Dr × Bk)} (h:HandAt c B H x lp d st) (s:Same H H'):HandAt c B H' x lp d st:=
  let ⟨dx,y,refs,h1,h2,h3,h4⟩:=h.ex;⟨⟨dx,y,refs,s _ _ h1,s _ _ h2,h3,h4⟩,h.sB.trans s,h.bx,h.bl⟩
def Ft (B H H':Hp):Hp:=λ b=>match B b,H b with
  | some o,_=>some o
  | none,some (.tup us)=>some (.tup us)
  | none,some _=>none
  | none,none=>H' b
theorem HJ:Same B (Ft B H H'):=λ b o e=>by unfold Ft;rw [e]
theorem FU (s:Same B H) (n:H b=none) (e:H' b=some o):Ft B H H' b=some o:=by
  have:B b=none:=by
    cases hb:B b with
    | none=>rfl
    | some u=>rw [s _ _ hb] at n;cases n
  unfold Ft;rw [this,n];exact e
theorem MQ (s:Same B H) (s':Same H H') (b:Addr) (us:List V) (e:H' b=some (.tup us)):Ft B H H' b=some (.tup us):=by
  unfold Ft;cases hb:B b with
  | some o=>rw [s' _ _ (s _ _ hb)] at e;exact e
  | none=>
    cases hh:H b with
    | none=>exact e
    | some o=>rw [s' _ _ hh] at e;cases e;rfl
theorem Lb (s:Same B H) (s':Same H H'):Same (Ft B H H') H':=λ b o e=>by
  unfold Ft at e;cases hb:B b with
  | some u=>rw [hb] at e;cases e;exact s' _ _ (s _ _ hb)
  | none=>
    rw [hb] at e;cases hh:H b with
    | none=>rw [hh] at e;exact e
    | some u=>
      rw [hh] at e;cases u with
      | tup us=>cases e;exact s' _ _ hh
      | _=>cases e
def Out (B H B1:Hp):Prop:=∀ b o,B b=none->H b=some o->(∀ us,o≠ .tup us)->B1 b=none
theorem DZ:Out B H (Ft B H H'):=λ b o hb hh n=>by
  unfold Ft;rw [hb,hh];cases o with
  | tup us=>exact absurd rfl (n us)
  | _=>rfl
theorem Out.refl:Out B H B:=λ b o hb _ _=>hb
def But2 (x lp:Addr) (H H1:Hp):Prop:=∀ b o,H b=some o->b≠x->b≠lp->H1 b=some o
def Told (c:Cs) (B H:Hp) (x lp:Addr) (d':Dr) (st':List (Dr × Bk)) (r:Bk) (Q:VK):Prop:=
  ∀ B1 H1 H' p l1 l2,Same B B1->Out B H B1->But2 x lp H H1->HandAt c B1 H1 x lp d' st'->H1 p=none->H1 l1=none->H1 l2=none->Same H1 H'->H' p=some (.tup [.ref l1, .ref l2])->H' l1=some (.lst (r.1.map nV))->H' l2=some (.lst (r.2.map nV))->Q (.ref p) H'
theorem Lw {d:Dr}:Turns H d [] d:=⟨(show 0<=15 by decide),λ H1 w0 w1 w2 w3 w4 w5 w6 s P=>⟨w0,w1,w2,w3,w4,w5,w6,P,λ j u e=>by
  rcases j with _ | _ | _ | _ | _ | _ | _ | j <;> cases e <;> kernel_rfl⟩⟩
def Cb (c:Cs):Sp:=λ vs H Q _=>∃ (x dx y:Addr) (d:Dr),vs=[.ref x, .ref y]/\H x=some (.ins c.Hand dx [])/\DrAt c.Draft H y d/\DrOk d/\
  ∀ H' B lp,(∀ b o,H b=some o->b≠x->H' b=some o)->H lp=none->(∀ b o,H b=some o->(∀ us,o≠ .tup us)->B b=none)->HandAt c B H' x lp d []->Q .non H'
abbrev Ct:Stmt:=Aw (top 51) 0
theorem GM:FnScope ["self","draft"] ["self","draft"] (Ah Ct):=⟨rfl,rfl,rfl,by decide +kernel,rfl,by decide +kernel,by decide +kernel⟩
theorem GI (F:Fun K "__init__" "Hand.__init__" Ct f fd) (T:Txt K mg c) (c_changed_draft:CallF P w K mg base "changed_draft" 8 ["draft","changes"] (AT c)):FnOk P w K mg base CX0 9 f fd ["self","draft"] (Cb c):=by
  refine F.ok GM (λ vs H Q E h=> ?_) (λ cdv A outer s H vs Q E hr h=> ?_)
  · obtain ⟨x,dx,y,d,rfl,_⟩:=h;rfl
  · obtain ⟨x,dx,y,d,rfl,hx,D0,ok,k⟩:=h;refine ⟨_,(Ac (Cu (pv 0) (Ae c_changed_draft hr (Aa (pv 1) (Aa Ld Ab))) rfl)
      (Ag (Cu (pv 0) (AB Ab) rfl))),?_⟩
    walk_at "w";row_lines H x0;walk_at "w";refine ⟨y,d,p0,_,d,rfl,D0.same s0,ok,g0,Lw,ok,λ H1 y1 s1 n1 D1=> ?_⟩;walk_at "w";have s01:=s0.trans s1;have ny1:y1≠x:=(Ax (s0 _ _ hx) n1).symm;refine Cy (s01 _ _ hx) T.kd_Hand.cl T.na_Hand_held (by decide) ?_;rw [show Bc ("held":Str) (V.ref y1) []=([("held", .ref y1)]:List (Str × V)) from rfl];have hx2:upd H1 x (HO.ins c.Hand dx [("held", .ref y1)]) x=_:=Af;have kp2:∀ b o,H1 b=some o->b≠x->upd H1 x (HO.ins c.Hand dx [("held", .ref y1)]) b=some o:=λ b o e n=>by rw [Ai n];exact e
    generalize upd H1 x (HO.ins c.Hand dx [("held", .ref y1)])=H2 at hx2 kp2 ⊢;walk_at "w";row_lines H2 x3;walk_at "w";refine Cy (s3 _ _ hx2) T.kd_Hand.cl T.na_Hand_past (by show 1<1000;decide) ?_;rw [show Bc ("past":Str) (V.ref p3) ([("held", .ref y1)]:List (Str × V))=([("held", .ref y1),("past", .ref p3)]:List (Str × V)) from rfl];walk_at "w";have n3x:p3≠x:=(Ax hx2 n3).symm;have kp:∀ b o,H b=some o->b≠x->upd H3 x (HO.ins c.Hand dx [("held", .ref y1),("past", .ref p3)]) b=some o:=λ b o e n=>by
      rw [Ai n];exact s3 _ _ (kp2 _ _ (s01 _ _ e) n)
    have n30:H p3=none:=by
      cases e3:H p3 with
      | none=>rfl
      | some o=>
        have:=kp2 _ _ (s01 _ _ e3) n3x;rw [n3] at this;cases this
    have n31:H1 p3=none:=by
      cases e3:H1 p3 with
      | none=>rfl
      | some o=>
        have:=kp2 _ _ e3 n3x;rw [n3] at this;cases this
    refine k _ (Ft (λ _=>none) H H1) p3 kp n30 (λ b o e n=>DZ b o rfl e n) ⟨⟨dx,y1,[],Af,by rw [Ai n3x];exact g3,?_, .nil⟩,?_,?_,?_⟩
    · exact D1.tups (λ o e=>FU (λ _ _ z=>by cases z) (s0.free n1) e) λ a us e=>MQ (λ _ _ z=>by cases z) s01 a us e
    · intro b o e;have e1:=Lb (λ _ _ z=>by cases z) s01 b o e;have nx:b≠x:=λ z=>by
        subst z;rw [DZ b _ rfl hx (λ us z=>by cases z)] at e;cases e
      rw [Ai nx];exact s3 _ _ (kp2 _ _ e1 nx)
    · exact DZ x _ rfl hx (λ us z=>by cases z)
    · unfold Ft;rw [n30];exact n31
def Dj (c:Cs):Sp:=λ vs H Q _=>∃ x B lp d st,vs=[.ref x]/\HandAt c B H x lp d st/\DrOk d/\∀ H' y,Same H H'->H y=none->DrAt c.Draft H' y d->Q (.ref y) H'
abbrev DQ:Stmt:=Aw (top 51) 1
theorem Jo:FnScope ["self"] ["self"] (Ah DQ):=⟨rfl,rfl,rfl,by decide +kernel,rfl,by decide +kernel,by decide +kernel⟩
theorem Jx (F:Fun K "draft" "Hand.draft" DQ f fd) (T:Txt K mg c) (c_changed_draft:CallF P w K mg base "changed_draft" 8 ["draft","changes"] (AT c)):FnOk P w K mg base CX0 9 f fd ["self"] (Dj c):=by
  refine F.ok Jo (λ vs H Q E h=> ?_) (λ cdv A outer s H vs Q E hr h=> ?_)
  · obtain ⟨x,B,lp,d,st,rfl,_⟩:=h;rfl
  · obtain ⟨x,B,lp,d,st,rfl,hA,ok,k⟩:=h;obtain ⟨dx,y,refs,hx,hl,D0,S0⟩:=hA.ex;refine ⟨_,(Ag (Ak (Ae c_changed_draft hr (Aa (Az (K:=K) (pv 0) rfl) (Aa Ld Ab))))),?_⟩;walk_at "w";refine ⟨_,_,_,_,_,rfl,hx,T.kd_Hand.cl,T.na_Hand_held,rfl,?_⟩;walk_at "w";row_lines H x0;walk_at "w";exact ⟨y,d,p0,_,d,rfl,(D0.same hA.sB).same s0,ok,g0,Lw,ok,λ H1 y1 s1 n1 D1=>k H1 y1 (s0.trans s1) (s0.free n1) D1⟩
def Dg (c:Cs):Sp:=λ vs H Q _=>∃ x B lp d st,vs=[.ref x]/\HandAt c B H x lp d st/\DrOk d/\∀ H' y,Same H H'->H y=none->NT c.Cloth H' y d.th.length (BV d)->Q (.ref y) H'
abbrev Ei:Stmt:=Aw (top 51) 2
theorem Jh:FnScope ["self"] ["self"] (Ah Ei):=⟨rfl,rfl,rfl,by decide +kernel,rfl,by decide +kernel,by decide +kernel⟩
theorem Ju (F:Fun K "cloth" "Hand.cloth" Ei f fd) (T:Txt K mg c) (c_woven:CallF P w K mg base "woven" 6 ["draft"] (IV c)):FnOk P w K mg base CX0 7 f fd ["self"] (Dg c):=by
  refine F.ok Jh (λ vs H Q E h=> ?_) (λ cdv A outer s H vs Q E hr h=> ?_)
  · obtain ⟨x,B,lp,d,st,rfl,_⟩:=h;rfl
  · obtain ⟨x,B,lp,d,st,rfl,hA,ok,k⟩:=h;obtain ⟨dx,y,refs,hx,hl,D0,S0⟩:=hA.ex;refine ⟨_,(Ag (Ak (Ae c_woven hr (Aa (Az (K:=K) (pv 0) rfl) Ab)))),?_⟩;walk_at "w";refine ⟨_,_,_,_,_,rfl,hx,T.kd_Hand.cl,T.na_Hand_held,rfl,?_⟩;walk_at "w";exact ⟨y,d,rfl,D0.same hA.sB,ok,λ H1 y1 s1 n1 C1=>k H1 y1 s1 n1 C1⟩
def Ba (c:Cs):Sp:=λ vs H Q _=>∃ x dx lp y y' a1 a2,∃ ps es:List Nat,vs=[.ref x, .ref y', .ref a1, .ref a2]/\H x=some (.ins c.Hand dx [("held", .ref y),("past", .ref lp)])/\H a1=some (.lst (ps.map nV))/\H a2=some (.lst (es.map nV))/\
  ∀ H' p l1 l2,H p=none->H l1=none->H l2=none->Same (upd H x (.ins c.Hand dx [("held", .ref y'),("past", .ref lp)])) H'->H' p=some (.tup [.ref l1, .ref l2])->H' l1=some (.lst (ps.map nV))->H' l2=some (.lst (es.map nV))->Q (.ref p) H'
abbrev Eb:Stmt:=Aw (top 51) 3
theorem JE:FnScope ["self","later","picks","ends"] ["self","later","picks","ends"] (Ah Eb):=⟨rfl,rfl,rfl,by decide +kernel,rfl,by decide +kernel,by decide +kernel⟩
theorem Js (F:Fun K "bring" "Hand.bring" Eb f fd) (T:Txt K mg c):FnOk P w K mg base CX0 1 f fd ["self","later","picks","ends"] (Ba c):=by
  refine F.ok JE (λ vs H Q E h=> ?_) (λ cdv A outer s H vs Q E hr h=> ?_)
  · obtain ⟨x,dx,lp,y,y',a1,a2,ps,es,rfl,_⟩:=h;rfl
  · obtain ⟨x,dx,lp,y,y',a1,a2,ps,es,rfl,hx,h1,h2,k⟩:=h;refine ⟨_,(Ac (Cu (pv 0) (pv 1) rfl)
      (Ag (Ak (AE (Aa (As (BD (K:=K)) rfl (T.own _ (by decide)) AA (Aa (pv 2) Ab)) (Aa (As (BD (K:=K)) rfl (T.own _ (by decide)) AA (Aa (pv 3) Ab)) Ab)))))),?_⟩
    walk_at "w";refine Cy hx T.kd_Hand.cl T.na_Hand_held (by show 2<1000;decide) ?_;rw [show Bc ("held":Str) (V.ref y') ([("held", .ref y),("past", .ref lp)]:List (Str × V))=([("held", .ref y'),("past", .ref lp)]:List (Str × V)) from rfl];have kp:∀ b o,H b=some o->b≠x->upd H x (HO.ins c.Hand dx [("held", .ref y'),("past", .ref lp)]) b=some o:=λ b o e n=>by rw [Ai n];exact e
    have fr:∀ b,upd H x (HO.ins c.Hand dx [("held", .ref y'),("past", .ref lp)]) b=none->H b=none:=λ b e=>by
      have n:b≠x:=λ z=>by rw [z,Af] at e;cases e
      rw [Ai n] at e;exact e
    have g1:=kp _ _ h1 (A3 h1 hx (by intro z;cases z));have g2:=kp _ _ h2 (A3 h2 hx (by intro z;cases z));generalize upd H x (HO.ins c.Hand dx [("held", .ref y'),("past", .ref lp)])=H1 at kp fr g1 g2 k ⊢;walk_at "w";refine Fa (SqL.of g1) λ p3 n3=> ?_;wrow_has H1 x3;walk_at "w";refine Fa (SqL.of (s3 _ _ g2)) λ p4 n4=> ?_;wrow_has H3 x4;walk_at "w";intro p5 n5;have s5:=Aj (o:=HO.tup [.ref p3, .ref p4]) n5;have s34:=s3.trans s4;exact k _ p5 p3 p4 (fr _ (s34.free n5)) (fr _ n3) (fr _ (s3.free n4)) (s34.trans s5) Af (s5 _ _ (s4 _ _ g3)) (s5 _ _ g4)
abbrev GR (d:Dr):List Nat:=d.td.map (CQ d.ti)
def HY (d d':Dr):Bk:=(CC (GR d) (GR d'),CC d.th d'.th)
theorem Told.same {c:Cs} {d':Dr} {st':List (Dr × Bk)} {r:Bk} (h:Told c B H x lp d' st' r Q) (s:Same H H2):Told c B H2 x lp d' st' r Q:=
  λ B1 H1 H' p l1 l2 a1 a2 a3 a4 a5 a6 a7 a8 a9 b1 b2=>h B1 H1 H' p l1 l2 a1 (λ b o e1 e2 n=>a2 b o e1 (s _ _ e2) n) (λ b o e n1 n2=>a3 b o (s _ _ e) n1 n2) a4 a5 a6 a7 a8 a9 b1 b2
theorem HandAt.push {c:Cs} {H6:Hp} {y' t:Addr} {d d':Dr} {st:List (Dr × Bk)} {r:Bk} {refs:List V} (hA:HandAt c B H x lp d st) (hx:H x=some (.ins c.Hand dx [("held", .ref y),("past", .ref lp)])) (hl:H lp=some (.lst refs)) (D0:DrAt c.Draft B y d) (S0:Ents c B refs st)
    (s:Same H H6) (n':H y'=none) (D':DrAt c.Draft H6 y' d') (nt:H t=none) (ht:H6 t=some (.tup [.ref y, .ref p, .ref q])) (np:H p=none) (hp:H6 p=some (.lst (r.1.map nV))) (nq:H q=none) (hq:H6 q=some (.lst (r.2.map nV))):
    HandAt c (Ft B H H6) (upd (upd H6 lp (.lst (refs++[.ref t]))) x (.ins c.Hand dx [("held", .ref y'),("past", .ref lp)])) x lp d' (st++[(d,r)]):=by
  have nlx:lp≠x:=A3 hl hx (by intro z;cases z);have bx:=DZ (H':=H6) x _ hA.bx hx (λ us z=>by cases z);have bl:=DZ (H':=H6) lp _ hA.bl hl (λ us z=>by cases z);refine ⟨⟨dx,y',_,Af,by rw [Ai nlx,Af],?_,?_⟩,?_,bx,bl⟩
  · exact D'.tups (λ o e=>FU hA.sB n' e) λ a us e=>MQ hA.sB s a us e
  · exact (S0.same HJ).snoc ⟨t,y,p,q,rfl,FU hA.sB nt ht,D0.same HJ,FU hA.sB np hp,FU hA.sB nq hq⟩
  · intro b o e;have n1:b≠x:=λ z=>by rw [z,bx] at e;cases e
    have n2:b≠lp:=λ z=>by rw [z,bl] at e;cases e
    rw [Ai n1,Ai n2];exact Lb hA.sB s b o e
theorem But2.of {H6:Hp} {o1 o2:HO} (s:Same H H6):But2 x lp H (upd (upd H6 lp o1) x o2):=λ b o e n1 n2=>by rw [Ai n1,Ai n2];exact s _ _ e
def BI (c:Cs):Sp:=λ vs H Q _=>∃ x B lp d st b more d',vs=[.ref x, .ref b]/\HandAt c B H x lp d st/\DrOk d/\st.length<=100/\H b=some (.dK more)/\Turns H d more d'/\DrOk d'/\d'.th.length=d.th.length/\d'.td.length=d.td.length/\
  Told c B H x lp d' (st++[(d,HY d d')]) (HY d d') Q
abbrev DS:Stmt:=Aw (top 51) 4
theorem sc_Hand_alter:FnScope ["self","changes","later","picks","ends"] ["self","changes"] (Ah DS):=⟨rfl,rfl,rfl,by decide +kernel,rfl,by decide +kernel,by decide +kernel⟩
theorem IY (F:Fun K "alter" "Hand.alter" DS f fd) (T:Txt K mg c) (c_changed_draft:CallF P w K mg base "changed_draft" 8 ["draft","changes"] (AT c)) (c_other_places:CallF P w K mg base "other_places" 1 ["members","later"] (Er K)) (c_lifts_of:CallF P w K mg base "lifts_of" 3 ["draft"] (E1 c)) (d_Hand_bring:AI P w K mg base c.Hand "bring" 1 ["self","later","picks","ends"] (Ba c)):FnOk P w K mg base CX0 9 f fd ["self","changes"] (BI c):=by
  refine F.ok sc_Hand_alter (λ vs H Q E h=> ?_) (λ cdv A outer s H vs Q E hr h=> ?_)
  · obtain ⟨x,B,lp,d,st,b,more,d',rfl,_⟩:=h;rfl
  · obtain ⟨x,B,lp,d,st,b,more,d',rfl,hA,ok,ls,hb,tu,ok',l1,l2,k⟩:=h;obtain ⟨dx,y,refs,hx,hl,D0,S0⟩:=hA.ex;have DH:=D0.same hA.sB;refine ⟨_,(Ac (Av (i:=2) sc_Hand_alter.nd rfl (Or.inl rfl) (Ae c_changed_draft hr (Aa (Az (K:=K) (pv 0) rfl) (Aa (pv 1) Ab))))
      (Ac (Av (i:=3) sc_Hand_alter.nd rfl (Or.inl rfl) (Ae c_other_places (hr.mono (by decide)) (Aa (Ae c_lifts_of (hr.mono (by decide)) (Aa (Az (K:=K) (pv 0) rfl) Ab)) (Aa (Ae c_lifts_of (hr.mono (by decide)) (Aa (pv 2) Ab)) Ab))))
      (Ac (Av (i:=4) sc_Hand_alter.nd rfl (Or.inl rfl) (Ae c_other_places (hr.mono (by decide)) (Aa (Az (K:=K) (Az (K:=K) (pv 0) rfl) rfl) (Aa (Az (K:=K) (pv 2) rfl) Ab))))
      (Ac (AD (C6 (K:=K) PySem.F.plainAttrs_list PySem.F.slot_list_append PySem.F.type_list_append Bw (Az (K:=K) (pv 0) rfl) (Aa (AE (Aa (Az (K:=K) (pv 0) rfl) (Aa (pv 3) (Aa (pv 4) Ab)))) Ab)))
      (Ag (Ak (AY (pv 0) d_Hand_bring (hr.mono (by decide)) (Aa (pv 2) (Aa (pv 3) (Aa (pv 4) Ab)))))))))),?_⟩
    walk_at "w";refine ⟨_,_,_,_,_,rfl,hx,T.kd_Hand.cl,T.na_Hand_held,rfl,?_⟩;walk_at "w";refine ⟨y,d,b,more,d',rfl,DH,ok,hb,tu,ok',λ H1 y' s1 n' D1=> ?_⟩;walk_at "w";refine ⟨_,_,_,_,_,rfl,s1 _ _ hx,T.kd_Hand.cl,T.na_Hand_held,rfl,?_⟩;walk_at "w";refine ⟨y,d,rfl,DH.same s1,ok,λ H2 p2 s2 n2 g2=> ?_⟩;walk_at "w";refine ⟨y',d',rfl,D1.same s2,ok',λ H3 p3 s3 n3 g3=> ?_⟩;walk_at "w";have p2':=ok.p2;have s03:=s1.trans (s2.trans s3);refine ⟨false,false,p2,p3,GR d,GR d',rfl,SqL.of (s3 _ _ g2),SqL.of g3,by simp [l2],by simp;omega,λ H4 p4 s4 n4 g4=> ?_⟩;have s04:=s03.trans s4;obtain ⟨dy,v1,v2,v3,v4,v5,hy,r1,_⟩:=DH;obtain ⟨dy',w1,w2,w3,w4,w5,hy',q1,_⟩:=id D1;obtain ⟨a1,rfl,e1,_⟩:=C4 r1;obtain ⟨a2,rfl,e2,_⟩:=C4 q1;walk_at "w";refine ⟨_,_,_,_,_,rfl,s04 _ _ hx,T.kd_Hand.cl,T.na_Hand_held,rfl,?_⟩;walk_at "w";refine ⟨_,_,_,_,_,rfl,s04 _ _ hy,T.kd_Draft.cl,T.na_Draft_threading,rfl,?_⟩;walk_at "w";have s14:=s2.trans (s3.trans s4);refine ⟨_,_,_,_,_,rfl,s14 _ _ hy',T.kd_Draft.cl,T.na_Draft_threading,rfl,?_⟩;walk_at "w";have h2':=ok.h2;refine ⟨true,true,a1,a2,d.th,d'.th,rfl,SqT.of (s04 _ _ e1),SqT.of (s14 _ _ e2),l1.symm,by omega,λ H5 p5 s5 n5 g5=> ?_⟩;have s05:=s04.trans s5;walk_at "w";refine ⟨_,_,_,_,_,rfl,s05 _ _ hx,T.kd_Hand.cl,T.na_Hand_past,rfl,?_⟩;refine tyL (SqL.of (s05 _ _ hl)) ?_;walk_at "w";refine ⟨_,_,_,_,_,rfl,s05 _ _ hx,T.kd_Hand.cl,T.na_Hand_held,rfl,?_⟩;walk_at "w";row_lines H5 x6;have s06:=s05.trans s6;walk_at "w";refine DW (s06 _ _ hl) (by rw [S0.len];omega) ?_;walk_at "w";have nlx:lp≠x:=A3 hl hx (by intro z;cases z);refine ⟨_,_,_,rfl,(Ai nlx.symm).trans (s06 _ _ hx),rfl,?_⟩;walk_at "w";have n4l:p4≠lp:=λ z=>by rw [z,s03 _ _ hl] at n4;cases n4
    have n5l:p5≠lp:=λ z=>by rw [z,s04 _ _ hl] at n5;cases n5
    have g46:=s6 _ _ (s5 _ _ g4);have g56:=s6 _ _ g5;refine ⟨x,dx,lp,y,y',p4,p5,(HY d d').1,(HY d d').2,rfl,(Ai nlx.symm).trans (s06 _ _ hx),(Ai n4l).trans g46,(Ai n5l).trans g56,λ H' p l1 l2 np nl1 nl2 sH hp hl1 hl2=> ?_⟩;have fr:∀ b,upd H6 lp (HO.lst (refs++[.ref p6])) b=none->b≠x->upd (upd H6 lp (HO.lst (refs++[.ref p6]))) x (HO.ins c.Hand dx [("held", .ref y'),("past", .ref lp)]) b=none:=λ b e n=>by rw [Ai n];exact e
    have nx:∀ b,upd H6 lp (HO.lst (refs++[.ref p6])) b=none->b≠x:=λ b e z=>by
      rw [z,(Ai nlx.symm).trans (s06 _ _ hx)] at e;cases e
    exact k (Ft B H H6) _ H' p l1 l2 HJ DZ (But2.of s06) (hA.push hx hl D0 S0 s06 n' ((D1.same s14).same (s5.trans s6)) (s05.free n6) g6 (s03.free n4) g46 (s04.free n5) g56) (fr _ np (nx _ np)) (fr _ nl1 (nx _ nl1)) (fr _ nl2 (nx _ nl2)) sH hp hl1 hl2
inductive LLs (H:Hp) (F:Addr->Prop):List V->List (List Nat)->Prop where
  | nil:LLs H F [] []
  | cons {v:V} {vs:List V} {l:List Nat} {ls:List (List Nat)} (h:Rp H F 1 v (dL l)) (t:LLs H F vs ls):LLs H F (v::vs) (l::ls)
theorem LLs.len (h:LLs H F vs ls):vs.length=ls.length:=by
  induction h with
  | nil=>rfl
  | cons h t ih=>rw [Ac6,Ac6,ih]
theorem LLs.same (h:LLs H F vs ls) (s:Same H H'):LLs H' F vs ls:=by
  induction h with
  | nil=>exact .nil
  | cons h t ih=>exact .cons (h.same s) ih
theorem LLs.app {us:List V} {ms:List (List Nat)} (h:LLs H F vs ls) (g:LLs H F us ms):LLs H F (vs++us) (ls++ms):=by
  induction h with
  | nil=>exact g
  | cons h t ih=>exact .cons h ih
theorem LLs.take (h:LLs H F vs ls) (k:Nat):LLs H F (vs.take k) (ls.take k):=by
  induction h generalizing k with
  | nil=>simp;exact .nil
  | cons h t ih=>
    cases k with
    | zero=>exact .nil
    | succ k=>exact .cons h (ih k)
theorem LLs.drop (h:LLs H F vs ls) (k:Nat):LLs H F (vs.drop k) (ls.drop k):=by
  induction h generalizing k with
  | nil=>simp;exact .nil
  | cons h t ih=>
    cases k with
    | zero=>exact .cons h t
    | succ k=>exact ih k
theorem LLs.set {l:List Nat} (h:LLs H F vs ls) (g:Rp H F 1 v (dL l)) (k:Nat):LLs H F (vs.set k v) (ls.set k l):=by
  induction h generalizing k with
  | nil=>exact .nil
  | cons h t ih=>
    cases k with
    | zero=>exact .cons g t
    | succ k=>exact .cons h (ih k)
theorem LLs.erase (h:LLs H F vs ls) (k:Nat):LLs H F (vs.eraseIdx k) (ls.eraseIdx k):=by
  rw [Af3,Af3];exact (h.take _).app (h.drop _)
theorem LLs.of (r:Rp H F 2 v (dLL ls)):∃ a vs,v= .ref a/\H a=some (.lst vs)/\LLs H FT vs ls/\vs.length<=100000:=by
  obtain ⟨m,a,vs,em,rfl,h,_,l,b,el⟩:=Dn r;cases em;refine ⟨a,vs,rfl,h,?_,b⟩;clear h b r
  induction ls generalizing vs with
  | nil=>
    cases vs with
    | nil=>exact .nil
    | cons v vs=>simp at l
  | cons x ls ih=>
    cases vs with
    | nil=>simp at l
    | cons v vs=>exact .cons ((el 0 (by simp)).imp λ _ _=>trivial) (ih vs (by simpa using l) λ i hi=>el (i+1) (by simpa using hi))
theorem LLs.rp (h:LLs H F vs ls) (g:H a=some (.lst vs)) (b:ls.length<=100000) (f:F a):Rp H F 2 (.ref a) (dLL ls):=by
  refine .lst g f (by rw [h.len];exact b) (by rw [h.len];simp) ?_;clear g b f
  induction h with
  | nil=>intro i v d e;simp at e
  | cons h t ih=>
    intro i v d e1 e2;cases i with
    | zero=>cases e1;cases e2;exact h
    | succ i=>exact ih i v d e1 e2
def Bs {α:Type} (xs:List α) (k:Nat) (v:α):List α:=xs.take k++v::xs.drop k
theorem EN {α:Type} {xs:List α} {k:Nat} {v:α} (h:k<=xs.length):(Bs xs k v).length=xs.length+1:=by
  unfold Bs;rw [Ac0,Ac6,Af6,List.length_drop];omega
theorem FM {α:Type} {xs:List α} {k:Nat} {v u:α} (h:u∈Bs xs k v):u=v\/u∈xs:=by
  unfold Bs at h;rcases List.mem_append.mp h with h | h
  · exact .inr (List.mem_of_mem_take h)
  · rcases Ab2.mp h with h | h
    · exact .inl h
    · exact .inr (List.mem_of_mem_drop h)
theorem Dx {α β:Type} {f:α->β} {xs:List α} {k:Nat} {v:α}:(xs.map f).take k++f v::(xs.map f).drop k=(Bs xs k v).map f:=by
  unfold Bs;rw [Ae0,Ag9,List.map_take,List.map_drop]
inductive Dd where
  | th (e s:Nat)
  | ti (t:Nat) (l:List Nat)
  | td (p:Nat) (l:List Nat)
  | co (w:Bool) (n:Nat) (z:Str)
  | pe (e s:Nat) (z:Str)
  | pp (p:Nat) (l:List Nat) (z:Str)
  | te (e:Nat)
  | tp (p:Nat)
def Dd.ok (d:Dr):Dd->Prop
  | .th e s=>1<=e/\e<=d.th.length/\s<=d.sh
  | .ti t l=>1<=t/\t<=d.tr/\Rise d.sh l
  | .td p l=>1<=p/\p<=d.td.length/\Rise d.tr l
  | .co w n z=>1<=n/\n<=(if w=true then d.td.length else d.th.length)/\GU z
  | .pe e s z=>1<=e/\e<=d.th.length+1/\s<=d.sh/\GU z/\d.th.length<60
  | .pp p l z=>1<=p/\p<=d.td.length+1/\Rise d.tr l/\GU z/\d.td.length<60
  | .te e=>1<=e/\e<=d.th.length/\1<d.th.length
  | .tp p=>1<=p/\p<=d.td.length/\1<d.td.length
def Dd.go (d:Dr):Dd->Dr
  | .th e s=>{ d with th:=d.th.set (e - 1) s }
  | .ti t l=>{ d with ti:=d.ti.set (t - 1) l }
  | .td p l=>{ d with td:=d.td.set (p - 1) l }
  | .co w n z=>if w=true then { d with we:=d.we.set (n - 1) z } else { d with wa:=d.wa.set (n - 1) z }
  | .pe e s z=>{ d with th:=Bs d.th (e - 1) s,wa:=Bs d.wa (e - 1) z }
  | .pp p l z=>{ d with td:=Bs d.td (p - 1) l,we:=Bs d.we (p - 1) z }
  | .te e=>{ d with th:=d.th.eraseIdx (e - 1),wa:=d.wa.eraseIdx (e - 1) }
  | .tp p=>{ d with td:=d.td.eraseIdx (p - 1),we:=d.we.eraseIdx (p - 1) }
def Dd.told (d:Dr):Dd->Bk
  | .th e s=>([],if d.th.getD (e - 1) 0=s then [] else [e])
  | .ti t l=>(CC (GR d) (GR (Dd.go d (.ti t l))),[])
  | .td p l=>(CC (GR d) (GR (Dd.go d (.td p l))),[])
  | .co _ _ _=>([],[])
  | .pe e _ _=>([],[e])
  | .pp p _ _=>([p],[])
  | .te _=>([],[])
  | .tp _=>([],[])
def Dd.back (d:Dr):Dd->Bk
  | .pe _ _ _=>([],[])
  | .pp _ _ _=>([],[])
  | .te e=>([],[e])
  | .tp p=>([p],[])
  | x=>x.told d
theorem FI {α:Type} {xs:List α} {k:Nat} {v u:α} (h:u∈xs.set k v):u=v\/u∈xs:=(List.mem_or_eq_of_mem_set h).symm
theorem Dd.go_ok {d:Dr} (ok:DrOk d) (x:Dd) (h:x.ok d):DrOk (x.go d):=by
  have h1:=ok.h1;have h2:=ok.h2;have p1:=ok.p1;have p2:=ok.p2;have wl:=ok.wl;have fl:=ok.fl;cases x with
  | th e s=>exact { ok with h1:=by show 1<=(d.th.set _ _).length;simpa using h1,h2:=by show (d.th.set _ _).length<=60;simpa using h2,hs:=λ n hn=>(FI hn).elim (λ z=>z▸h.2.2) (ok.hs n),wl:=by show d.wa.length=(d.th.set _ _).length;simpa using wl }
  | ti t l=>exact { ok with il:=by show (d.ti.set _ _).length=d.tr;simpa using ok.il,ir:=λ n hn=>(FI hn).elim (λ z=>z▸h.2.2) (ok.ir n) }
  | td p l=>exact { ok with p1:=by show 1<=(d.td.set _ _).length;simpa using p1,p2:=by show (d.td.set _ _).length<=60;simpa using p2,pr:=λ n hn=>(FI hn).elim (λ z=>z▸h.2.2) (ok.pr n),fl:=by show d.we.length=(d.td.set _ _).length;simpa using fl }
  | co w n z=>
    cases w with
    | true=>exact { ok with fl:=by show (d.we.set _ _).length=d.td.length;simpa using fl,fc:=λ n hn=>(FI hn).elim (λ q=>q▸h.2.2) (ok.fc n) }
    | false=>exact { ok with wl:=by show (d.wa.set _ _).length=d.th.length;simpa using wl,wc:=λ n hn=>(FI hn).elim (λ q=>q▸h.2.2) (ok.wc n) }
  | pe e s z=>
    obtain ⟨a1,a2,a3,a4,a5⟩:=h;have l1:(Bs d.th (e - 1) s).length=d.th.length+1:=EN (by omega);have l2:(Bs d.wa (e - 1) z).length=d.wa.length+1:=EN (by omega);exact { ok with h1:=by show 1<=(Bs _ _ _).length;omega,h2:=by show (Bs _ _ _).length<=60;omega,hs:=λ n hn=>(FM hn).elim (λ q=>q▸a3) (ok.hs n),wl:=by show (Bs _ _ _).length=(Bs _ _ _).length;omega,wc:=λ n hn=>(FM hn).elim (λ q=>q▸a4) (ok.wc n) }
  | pp p l z=>
    obtain ⟨a1,a2,a3,a4,a5⟩:=h;have l1:(Bs d.td (p - 1) l).length=d.td.length+1:=EN (by omega);have l2:(Bs d.we (p - 1) z).length=d.we.length+1:=EN (by omega);exact { ok with p1:=by show 1<=(Bs _ _ _).length;omega,p2:=by show (Bs _ _ _).length<=60;omega,pr:=λ n hn=>(FM hn).elim (λ q=>q▸a3) (ok.pr n),fl:=by show (Bs _ _ _).length=(Bs _ _ _).length;omega,fc:=λ n hn=>(FM hn).elim (λ q=>q▸a4) (ok.fc n) }
  | te e=>
    obtain ⟨a1,a2,a3⟩:=h;have l1:(d.th.eraseIdx (e - 1)).length=d.th.length - 1:=by rw [Ag4,if_pos (by omega)]
    have l2:(d.wa.eraseIdx (e - 1)).length=d.wa.length - 1:=by rw [Ag4,if_pos (by omega)]
    exact { ok with h1:=by show 1<=(d.th.eraseIdx _).length;omega,h2:=by show (d.th.eraseIdx _).length<=60;omega,hs:=λ n hn=>ok.hs n (List.mem_of_mem_eraseIdx hn),wl:=by show (d.wa.eraseIdx _).length=(d.th.eraseIdx _).length;omega,wc:=λ n hn=>ok.wc n (List.mem_of_mem_eraseIdx hn) }
  | tp p=>
    obtain ⟨a1,a2,a3⟩:=h;have l1:(d.td.eraseIdx (p - 1)).length=d.td.length - 1:=by rw [Ag4,if_pos (by omega)]
    have l2:(d.we.eraseIdx (p - 1)).length=d.we.length - 1:=by rw [Ag4,if_pos (by omega)]
    exact { ok with p1:=by show 1<=(d.td.eraseIdx _).length;omega,p2:=by show (d.td.eraseIdx _).length<=60;omega,pr:=λ n hn=>ok.pr n (List.mem_of_mem_eraseIdx hn),fl:=by show (d.we.eraseIdx _).length=(d.td.eraseIdx _).length;omega,fc:=λ n hn=>ok.fc n (List.mem_of_mem_eraseIdx hn) }
theorem BO (ms:List Nat):CC ms ms=[]:=by
  unfold CC;rw [List.filter_eq_nil_iff.mpr (by simp)];rfl
theorem Ms (n k:Nat) (p:Nat->Bool) (hk:k<n) (h:∀ i,i<n->p i=decide (i=k)):(Aa9 n).filter p=[k]:=by
  induction n with
  | zero=>omega
  | succ n ih=>
    rw [Ag2,Ag3,List.filter_cons,List.filter_nil,h n (by omega)];rcases Ah4 k n with z | z
    · rw [ih z λ i hi=>h i (by omega),decide_eq_false (by omega)];rfl
    · have e:n=k:=by omega
      subst e;rw [decide_eq_true rfl,List.filter_eq_nil_iff.mpr λ i hi=>by
        have hi:=Ae9.mp hi;rw [h i (by omega)];simp;omega]
      rfl
theorem NF {ms:List Nat} {k v:Nat} (hk:k<ms.length):CC ms (ms.set k v)=if ms.getD k 0=v then [] else [k+1]:=by
  have g:∀ i,i<ms.length->(ms.set k v).getD i 0=if k=i then v else ms.getD i 0:=λ i hi=>by
    rw [Aa2,Aa2,List.getElem?_set];split
    · first | rfl | (rw [if_pos hk];rfl)
    · rfl
  by_cases e:ms.getD k 0=v
  · rw [if_pos e];unfold CC;rw [List.filter_eq_nil_iff.mpr]
    · rfl
    · intro i hi;have hi:=Ae9.mp hi;rw [g i hi];by_cases z:k=i
      · subst z;rw [if_pos rfl,e];simp
      · rw [if_neg z];simp
  · rw [if_neg e];unfold CC;rw [Ms ms.length k _ hk]
    · rfl
    · intro i hi;rw [g i hi];by_cases z:k=i
      · subst z;rw [if_pos rfl,decide_eq_false e];simp
      · rw [if_neg z,decide_eq_true rfl,decide_eq_false (λ q=>z q.symm)];rfl
theorem is1 (s:Str) (v:V):AR [] [((.inr s:Key),v)]=[((.inr s:Key),v)]:=rfl
theorem RG (v1 v2:V):AR [] [((.inr "threading":Key),v1),(.inr "warp",v2)]=[((.inr "threading":Key),v1),(.inr "warp",v2)]:=by kernel_rfl
theorem R4 (v1 v2:V):AR [] [((.inr "treading":Key),v1),(.inr "weft",v2)]=[((.inr "treading":Key),v1),(.inr "weft",v2)]:=by kernel_rfl
theorem HN {d:Dr} {w0 w1 w2 w3 w4 w5 w6:V} (P:Parts H1 d [w0,w1,w2,w3,w4,w5,w6]):∃ a1 a4 a5,w0=nV d.sh/\w1=nV d.tr/\w2= .ref a1/\w5= .ref a4/\w6= .ref a5/\H1 a1=some (.lst (d.th.map nV))/\Rp H1 FT 2 w3 (dLL d.ti)/\Rp H1 FT 2 w4 (dLL d.td)/\H1 a4=some (.lst (d.wa.map V.str))/\H1 a5=some (.lst (d.we.map V.str)):=by
  obtain ⟨a1,v2,v3,a4,a5,e,h1,h2,h3,h4,h5⟩:=P.ex;cases e;exact ⟨a1,a4,a5,rfl,rfl,rfl,rfl,rfl,h1,h2,h3,h4,h5⟩
theorem Wm {d:Dr} {th:List Nat} (g:H l=some (.lst (th.map nV))):Turns H d [((.inr "threading":Key), .ref l)] { d with th:=th }:=by
  refine ⟨(show 1<=15 by decide),λ H1 w0 w1 w2 w3 w4 w5 w6 s P=> ?_⟩;obtain ⟨a1,a4,a5,rfl,rfl,rfl,rfl,rfl,h1,h2,h3,h4,h5⟩:=HN P;refine ⟨_,_, .ref l,_,_,_,_,⟨_,_,_,_,_,rfl,s _ _ g,h2,h3,h4,h5⟩,λ j u e=> ?_⟩;rcases j with _ | _ | _ | _ | _ | _ | _ | j <;> cases e <;> kernel_rfl
theorem Xh {d:Dr} {ti:List (List Nat)} (g:Rp H FT 2 (.ref l) (dLL ti)):Turns H d [((.inr "ties":Key), .ref l)] { d with ti:=ti }:=by
  refine ⟨(show 1<=15 by decide),λ H1 w0 w1 w2 w3 w4 w5 w6 s P=> ?_⟩;obtain ⟨a1,a4,a5,rfl,rfl,rfl,rfl,rfl,h1,h2,h3,h4,h5⟩:=HN P;refine ⟨_,_,_, .ref l,_,_,_,⟨_,_,_,_,_,rfl,h1,g.same s,h3,h4,h5⟩,λ j u e=> ?_⟩;rcases j with _ | _ | _ | _ | _ | _ | _ | j <;> cases e <;> kernel_rfl
theorem W9 {d:Dr} {td:List (List Nat)} (g:Rp H FT 2 (.ref l) (dLL td)):Turns H d [((.inr "treading":Key), .ref l)] { d with td:=td }:=by
  refine ⟨(show 1<=15 by decide),λ H1 w0 w1 w2 w3 w4 w5 w6 s P=> ?_⟩;obtain ⟨a1,a4,a5,rfl,rfl,rfl,rfl,rfl,h1,h2,h3,h4,h5⟩:=HN P;refine ⟨_,_,_,_, .ref l,_,_,⟨_,_,_,_,_,rfl,h1,h2,g.same s,h4,h5⟩,λ j u e=> ?_⟩;rcases j with _ | _ | _ | _ | _ | _ | _ | j <;> cases e <;> kernel_rfl
theorem XE {d:Dr} {wa:List Str} (g:H l=some (.lst (wa.map V.str))):Turns H d [((.inr "warp":Key), .ref l)] { d with wa:=wa }:=by
  refine ⟨(show 1<=15 by decide),λ H1 w0 w1 w2 w3 w4 w5 w6 s P=> ?_⟩;obtain ⟨a1,a4,a5,rfl,rfl,rfl,rfl,rfl,h1,h2,h3,h4,h5⟩:=HN P;refine ⟨_,_,_,_,_, .ref l,_,⟨_,_,_,_,_,rfl,h1,h2,h3,s _ _ g,h5⟩,λ j u e=> ?_⟩;rcases j with _ | _ | _ | _ | _ | _ | _ | j <;> cases e <;> kernel_rfl
theorem Uc {d:Dr} {we:List Str} (g:H l=some (.lst (we.map V.str))):Turns H d [((.inr "weft":Key), .ref l)] { d with we:=we }:=by
  refine ⟨(show 1<=15 by decide),λ H1 w0 w1 w2 w3 w4 w5 w6 s P=> ?_⟩;obtain ⟨a1,a4,a5,rfl,rfl,rfl,rfl,rfl,h1,h2,h3,h4,h5⟩:=HN P;refine ⟨_,_,_,_,_,_, .ref l,⟨_,_,_,_,_,rfl,h1,h2,h3,h4,s _ _ g⟩,λ j u e=> ?_⟩;rcases j with _ | _ | _ | _ | _ | _ | _ | j <;> cases e <;> kernel_rfl
theorem RQ {d:Dr} {l':Addr} {th:List Nat} {wa:List Str} (g:H l=some (.lst (th.map nV))) (g':H l'=some (.lst (wa.map V.str))):Turns H d [((.inr "threading":Key), .ref l),(.inr "warp", .ref l')] { d with th:=th,wa:=wa }:=by
  refine ⟨(show 2<=15 by decide),λ H1 w0 w1 w2 w3 w4 w5 w6 s P=> ?_⟩;obtain ⟨a1,a4,a5,rfl,rfl,rfl,rfl,rfl,h1,h2,h3,h4,h5⟩:=HN P;refine ⟨_,_, .ref l,_,_, .ref l',_,⟨_,_,_,_,_,rfl,s _ _ g,h2,h3,s _ _ g',h5⟩,λ j u e=> ?_⟩;rcases j with _ | _ | _ | _ | _ | _ | _ | j <;> cases e <;> kernel_rfl
theorem RL {d:Dr} {l':Addr} {td:List (List Nat)} {we:List Str} (g:Rp H FT 2 (.ref l) (dLL td)) (g':H l'=some (.lst (we.map V.str))):Turns H d [((.inr "treading":Key), .ref l),(.inr "weft", .ref l')] { d with td:=td,we:=we }:=by
  refine ⟨(show 2<=15 by decide),λ H1 w0 w1 w2 w3 w4 w5 w6 s P=> ?_⟩;obtain ⟨a1,a4,a5,rfl,rfl,rfl,rfl,rfl,h1,h2,h3,h4,h5⟩:=HN P;refine ⟨_,_,_,_, .ref l,_, .ref l',⟨_,_,_,_,_,rfl,h1,h2,g.same s,h4,s _ _ g'⟩,λ j u e=> ?_⟩;rcases j with _ | _ | _ | _ | _ | _ | _ | j <;> cases e <;> kernel_rfl
theorem Bo {H3:Hp} (eu:upd H2 p o=H3) (n:H p=none) (s:Same H H2):Same H H3:=λ q u e=>by
  rw [<-eu,Ai (Ax e n)];exact s _ _ e
theorem DD {H3:Hp} (eu:upd H2 p o=H3) (gp:H2 p=some (.dK kvs)):∀ q xs,H2 q=some (.lst xs)->H3 q=some (.lst xs):=λ q xs e=>by
  rw [<-eu,Ai λ z=>by rw [z,gp] at e;cases e];exact e
theorem MR {d:Dt} (h:H p=some (.dK kvs)) (r:Rp H F n v d):Rp (upd H p o) F n v d:=by
  induction r with
  | non=>exact .non
  | bl b=>exact .bl b
  | int i=>exact .int i
  | str z=>exact .str z
  | lst q f b l e ih=>exact .lst ((Ai (A3 q h (by intro z;cases z))).trans q) f b l ih
  | tup q b l e ih=>exact .tup ((Ai (A3 q h (by intro z;cases z))).trans q) b l ih
def Fc (c:Cs) (A:Hp->Dd->List V->Prop):Sp:=λ vs H Q _=>∃ x B lp d st dd ws,vs= .ref x::ws/\A H dd ws/\HandAt c B H x lp d st/\DrOk d/\dd.ok d/\st.length<=100/\Told c B H x lp (dd.go d) (st++[(d,dd.back d)]) (dd.told d) Q
def aTh (H:Hp) (dd:Dd) (ws:List V):Prop:=∃ e s,dd= .th e s/\ws=[nV e,nV s]
theorem S9 {d:Dr} {th:List Nat}:CC (GR d) (GR { d with th:=th })=[]:=BO _
abbrev Ds:Stmt:=Aw (top 51) 5
theorem HW:FnScope ["self","end","shaft"] ["self","end","shaft"] (Ah Ds):=⟨rfl,rfl,rfl,by decide +kernel,rfl,by decide +kernel,by decide +kernel⟩
theorem Ia (F:Fun K "thread" "Hand.thread" Ds f fd) (T:Txt K mg c) (c_need_place:CallF P w K mg base "need_place" 3 ["thing","most"] A2) (d_Draft_ends:AI P w K mg base c.Draft "ends" 1 ["self"] (BK c)) (d_Hand_alter:AI P w K mg base c.Hand "alter" 9 ["self","changes"] (BI c)) (c_replaced_at:CallF P w K mg base "replaced_at" 1 ["members","place","thing"] (BF K)):FnOk P w K mg base CX0 10 f fd ["self","end","shaft"] (Fc c aTh):=by
  refine F.ok HW (λ vs H Q E h=> ?_) (λ cdv A outer s H vs Q E hr h=> ?_)
  · obtain ⟨x,B,lp,d,st,dd,ws,rfl,⟨e,s',rfl,rfl⟩,_⟩:=h;rfl
  · obtain ⟨x,B,lp,d,st,dd,ws,rfl,⟨e,s',rfl,rfl⟩,hA,ok,dk,ls,k⟩:=h;obtain ⟨h1,h2,h3⟩:=id dk;obtain ⟨dx,y,refs,hx,hl,D0,S0⟩:=hA.ex;have DH:=D0.same hA.sB;obtain ⟨dy,v1,v2,v3,v4,v5,hy,r1,_⟩:=id DH;obtain ⟨a1,rfl,e1,_⟩:=C4 r1;have h2':=ok.h2;refine ⟨_,(Ac (AD (Ae c_need_place (hr.mono (by decide)) (Aa (pv 1) (Aa (AG (Az (K:=K) (pv 0) rfl) d_Draft_ends (hr.mono (by decide))) Ab))))
      (Ag (Ak (AY (pv 0) d_Hand_alter hr (Aa (CH (Bb Aq (Ae c_replaced_at (hr.mono (by decide)) (Aa (Az (K:=K) (Az (K:=K) (pv 0) rfl) rfl) (Aa (pv 1) (Aa (pv 2) Ab)))) CF) rfl rfl (by simp) (by decide)) Ab))))),?_⟩
    walk_at "w";refine ⟨_,_,_,_,_,rfl,hx,T.kd_Hand.cl,T.na_Hand_held,rfl,?_⟩;walk_at "w";refine ⟨_,_,_,rfl,hy,rfl,?_⟩;walk_at "w";refine ⟨y,d,rfl,DH,?_⟩;walk_at "w";refine ⟨e,_,rfl,h1,h2,?_⟩;walk_at "w";refine ⟨_,_,_,rfl,hx,rfl,?_⟩;walk_at "w";row_lines H x0;walk_at "w";refine ⟨_,_,_,_,_,rfl,s0 _ _ hx,T.kd_Hand.cl,T.na_Hand_held,rfl,?_⟩;walk_at "w";refine ⟨_,_,_,_,_,rfl,s0 _ _ hy,T.kd_Draft.cl,T.na_Draft_threading,rfl,?_⟩;walk_at "w";refine ⟨true,a1,_,e,nV s',rfl,SqT.of (s0 _ _ e1),h1,by simpa using h2,by simp;omega,λ H1 p1 s1 n1 g1=> ?_⟩;walk_at "w";have gp:=s1 _ _ g0;refine ⟨gp,[((.inr "threading":Key), .ref p1)],rfl,by simp,?_⟩;rw [is1];generalize eu:upd H1 p0 _=H3;have s3:=Bo eu n0 (s0.trans s1);have g3:H3 p0=_:=(congrFun eu p0).symm.trans Af;have k3:=DD eu gp;clear eu;rw [<-List.map_set] at g1;walk_at "w";have ok':=Dd.go_ok ok (.th e s') dk;refine ⟨x,B,lp,d,st,p0,_,_,rfl,hA.same s3,ok,ls,g3,Wm (k3 _ _ g1),ok',by show (d.th.set _ _).length=_;simp,rfl,?_⟩;have e:HY d { d with th:=d.th.set (e - 1) s' }=Dd.told d (.th e s'):=by
      unfold HY Dd.told;rw [S9,NF (by omega),show e - 1+1=e by omega]
    rw [e];exact k.same s3
def B4 (c:Cs):Sp:=λ vs H Q _=>∃ x d,vs=[.ref x]/\DrAt c.Draft H x d/\Q (nV d.td.length) H
abbrev Dp:Stmt:=Aw (top 23) 3
theorem HQ:FnScope ["self"] ["self"] (Ah Dp):=⟨rfl,rfl,rfl,by decide +kernel,rfl,by decide +kernel,by decide +kernel⟩
theorem Iq (F:Fun K "picks" "Draft.picks" Dp f fd) (T:Txt K mg c):FnOk P w K mg base CX0 1 f fd ["self"] (B4 c):=by
  refine F.ok HQ (λ vs H Q E h=> ?_) (λ cdv A outer s H vs Q E hr h=> ?_)
  · obtain ⟨x,d,rfl,_⟩:=h;rfl
  · obtain ⟨x,d,rfl,⟨dx,v1,v2,v3,v4,v5,h0,h1,h2,h3,h4,h5⟩,k⟩:=h;obtain ⟨m3,a3,vs3,em3,rfl,e3,l3,b3,el3⟩:=GN h3;rw [Aa1] at l3;refine ⟨_,(Ag (Ak (Am (BA (K:=K)) rfl (T.own _ (by decide)) boot_len (Aa (Az (K:=K) (pv 0) rfl) Ab)))),?_⟩;walk_at "w";refine ⟨_,_,_,_,_,rfl,h0,T.kd_Draft.cl,T.na_Draft_treading,rfl,?_⟩;walk_at "w";refine Hw (SqT.of e3) ?_;rw [l3];exact k
def aTi (H:Hp) (dd:Dd) (ws:List V):Prop:=∃ t l a,dd= .ti t l/\ws=[nV t, .ref a]/\H a=some (.lst (l.map nV))
abbrev Fs:Stmt:=Aw (top 51) 6
theorem Lk:FnScope ["self","treadle","shafts"] ["self","treadle","shafts"] (Ah Fs):=⟨rfl,rfl,rfl,by decide +kernel,rfl,by decide +kernel,by decide +kernel⟩
theorem LS (F:Fun K "tie" "Hand.tie" Fs f fd) (T:Txt K mg c) (c_need_place:CallF P w K mg base "need_place" 3 ["thing","most"] A2) (c_lists_of:CallF P w K mg base "lists_of" 1 ["tuples"] Cq) (d_Hand_alter:AI P w K mg base c.Hand "alter" 9 ["self","changes"] (BI c)) (c_replaced_at:CallF P w K mg base "replaced_at" 1 ["members","place","thing"] (BF K)):FnOk P w K mg base CX0 10 f fd ["self","treadle","shafts"] (Fc c aTi):=by
  refine F.ok Lk (λ vs H Q E h=> ?_) (λ cdv A outer s H vs Q E hr h=> ?_)
  · obtain ⟨x,B,lp,d,st,dd,ws,rfl,⟨t,l,a,rfl,rfl,_⟩,_⟩:=h;rfl
  · obtain ⟨x,B,lp,d,st,dd,ws,rfl,⟨t,l,a,rfl,rfl,ha⟩,hA,ok,dk,ls,k⟩:=h;obtain ⟨h1,h2,h3⟩:=id dk;obtain ⟨dx,y,refs,hx,hl,D0,S0⟩:=hA.ex;have DH:=D0.same hA.sB;obtain ⟨dy,v1,v2,v3,v4,v5,hy,r1,r2,r3,_⟩:=id DH;have t2:=ok.t2;have il:=ok.il;refine ⟨_,(Ac (AD (Ae c_need_place (hr.mono (by decide)) (Aa (pv 1) (Aa (Az (K:=K) (Az (K:=K) (pv 0) rfl) rfl) Ab))))
      (Ag (Ak (AY (pv 0) d_Hand_alter hr (Aa (CH (Bb Aq (Ae c_replaced_at (hr.mono (by decide)) (Aa (Ae c_lists_of (hr.mono (by decide)) (Aa (Az (K:=K) (Az (K:=K) (pv 0) rfl) rfl) Ab)) (Aa (pv 1) (Aa (pv 2) Ab)))) CF) rfl rfl (by simp) (by decide)) Ab))))),?_⟩
    walk_at "w";refine ⟨_,_,_,_,_,rfl,hx,T.kd_Hand.cl,T.na_Hand_held,rfl,?_⟩;walk_at "w";refine ⟨_,_,_,_,_,rfl,hy,T.kd_Draft.cl,T.na_Draft_treadles,rfl,?_⟩;walk_at "w";refine ⟨t,_,rfl,h1,h2,?_⟩;walk_at "w";refine ⟨_,_,_,rfl,hx,rfl,?_⟩;walk_at "w";row_lines H x0;walk_at "w";refine ⟨_,_,_,_,_,rfl,s0 _ _ hx,T.kd_Hand.cl,T.na_Hand_held,rfl,?_⟩;walk_at "w";refine ⟨_,_,_,_,_,rfl,s0 _ _ hy,T.kd_Draft.cl,T.na_Draft_ties,rfl,?_⟩;walk_at "w";refine ⟨_,_,rfl,r2.same s0,λ H1 p1 s1 n1 g1=> ?_⟩;obtain ⟨_,us,ea,gu,lu,_⟩:=LLs.of g1;cases ea;have hu:=lu.len;walk_at "w";refine ⟨false,p1,us,t, .ref a,rfl,SqL.of gu,h1,by omega,by omega,λ H2 p2 s2 n2 g2=> ?_⟩;walk_at "w";have s02:=s0.trans (s1.trans s2);have gp:=s2 _ _ (s1 _ _ g0);refine ⟨gp,[((.inr "ties":Key), .ref p2)],rfl,by simp,?_⟩;rw [is1];have rl:Rp H2 FT 2 (.ref p2) (dLL (d.ti.set (t - 1) l)):=((lu.same s2).set (Be (s02 _ _ ha) trivial (by have:=h3.len;have:=ok.s2;omega)) (t - 1)).rp g2 (by simp;omega) trivial;have ep:upd H2 p0 (HO.dK [((.inr "ties":Key),V.ref p2)]) p0=_:=Af;have s3:Same H (upd H2 p0 (HO.dK [((.inr "ties":Key),V.ref p2)])):=Bo rfl n0 s02;have rl3:Rp (upd H2 p0 (HO.dK [((.inr "ties":Key),V.ref p2)])) FT 2 (.ref p2) (dLL (d.ti.set (t - 1) l)):=MR gp rl;generalize upd H2 p0 (HO.dK [((.inr "ties":Key),V.ref p2)])=H3 at ep s3 rl3 ⊢;walk_at "w";refine ⟨x,B,lp,d,st,p0,_,_,rfl,hA.same s3,ok,ls,ep,Xh rl3,Dd.go_ok ok (.ti t l) dk,rfl,rfl,?_⟩;have e:HY d { d with ti:=d.ti.set (t - 1) l }=Dd.told d (.ti t l):=by
      unfold HY Dd.told;rw [BO];rfl
    rw [e];exact k.same s3
def aTd (H:Hp) (dd:Dd) (ws:List V):Prop:=∃ t l a,dd= .td t l/\ws=[nV t, .ref a]/\H a=some (.lst (l.map nV))
abbrev Ef:Stmt:=Aw (top 51) 7
theorem Jt:FnScope ["self","pick","treadles"] ["self","pick","treadles"] (Ah Ef):=⟨rfl,rfl,rfl,by decide +kernel,rfl,by decide +kernel,by decide +kernel⟩
theorem Jn (F:Fun K "tread" "Hand.tread" Ef f fd) (T:Txt K mg c) (c_need_place:CallF P w K mg base "need_place" 3 ["thing","most"] A2) (d_Draft_picks:AI P w K mg base c.Draft "picks" 1 ["self"] (B4 c)) (c_lists_of:CallF P w K mg base "lists_of" 1 ["tuples"] Cq) (d_Hand_alter:AI P w K mg base c.Hand "alter" 9 ["self","changes"] (BI c)) (c_replaced_at:CallF P w K mg base "replaced_at" 1 ["members","place","thing"] (BF K)):FnOk P w K mg base CX0 10 f fd ["self","pick","treadles"] (Fc c aTd):=by
  refine F.ok Jt (λ vs H Q E h=> ?_) (λ cdv A outer s H vs Q E hr h=> ?_)
  · obtain ⟨x,B,lp,d,st,dd,ws,rfl,⟨t,l,a,rfl,rfl,_⟩,_⟩:=h;rfl
  · obtain ⟨x,B,lp,d,st,dd,ws,rfl,⟨t,l,a,rfl,rfl,ha⟩,hA,ok,dk,ls,k⟩:=h;obtain ⟨h1,h2,h3⟩:=id dk;obtain ⟨dx,y,refs,hx,hl,D0,S0⟩:=hA.ex;have DH:=D0.same hA.sB;obtain ⟨dy,v1,v2,v3,v4,v5,hy,r1,r2,r3,_⟩:=id DH;have p2':=ok.p2;refine ⟨_,(Ac (AD (Ae c_need_place (hr.mono (by decide)) (Aa (pv 1) (Aa (AG (Az (K:=K) (pv 0) rfl) d_Draft_picks (hr.mono (by decide))) Ab))))
      (Ag (Ak (AY (pv 0) d_Hand_alter hr (Aa (CH (Bb Aq (Ae c_replaced_at (hr.mono (by decide)) (Aa (Ae c_lists_of (hr.mono (by decide)) (Aa (Az (K:=K) (Az (K:=K) (pv 0) rfl) rfl) Ab)) (Aa (pv 1) (Aa (pv 2) Ab)))) CF) rfl rfl (by simp) (by decide)) Ab))))),?_⟩
    walk_at "w";refine ⟨_,_,_,_,_,rfl,hx,T.kd_Hand.cl,T.na_Hand_held,rfl,?_⟩;walk_at "w";refine ⟨_,_,_,rfl,hy,rfl,?_⟩;walk_at "w";refine ⟨y,d,rfl,DH,?_⟩;walk_at "w";refine ⟨t,_,rfl,h1,h2,?_⟩;walk_at "w";refine ⟨_,_,_,rfl,hx,rfl,?_⟩;walk_at "w";row_lines H x0;walk_at "w";refine ⟨_,_,_,_,_,rfl,s0 _ _ hx,T.kd_Hand.cl,T.na_Hand_held,rfl,?_⟩;walk_at "w";refine ⟨_,_,_,_,_,rfl,s0 _ _ hy,T.kd_Draft.cl,T.na_Draft_treading,rfl,?_⟩;walk_at "w";refine ⟨_,_,rfl,r3.same s0,λ H1 p1 s1 n1 g1=> ?_⟩;obtain ⟨_,us,ea,gu,lu,_⟩:=LLs.of g1;cases ea;have hu:=lu.len;walk_at "w";refine ⟨false,p1,us,t, .ref a,rfl,SqL.of gu,h1,by omega,by omega,λ H2 p2 s2 n2 g2=> ?_⟩;walk_at "w";have s02:=s0.trans (s1.trans s2);have gp:=s2 _ _ (s1 _ _ g0);refine ⟨gp,[((.inr "treading":Key), .ref p2)],rfl,by simp,?_⟩;rw [is1];have rl:Rp H2 FT 2 (.ref p2) (dLL (d.td.set (t - 1) l)):=((lu.same s2).set (Be (s02 _ _ ha) trivial (by have:=h3.len;have:=ok.t2;omega)) (t - 1)).rp g2 (by simp;omega) trivial;have ep:upd H2 p0 (HO.dK [((.inr "treading":Key),V.ref p2)]) p0=_:=Af;have s3:Same H (upd H2 p0 (HO.dK [((.inr "treading":Key),V.ref p2)])):=Bo rfl n0 s02;have rl3:Rp (upd H2 p0 (HO.dK [((.inr "treading":Key),V.ref p2)])) FT 2 (.ref p2) (dLL (d.td.set (t - 1) l)):=MR gp rl;generalize upd H2 p0 (HO.dK [((.inr "treading":Key),V.ref p2)])=H3 at ep s3 rl3 ⊢;walk_at "w";refine ⟨x,B,lp,d,st,p0,_,_,rfl,hA.same s3,ok,ls,ep,W9 rl3,Dd.go_ok ok (.td t l) dk,rfl,by show (d.td.set _ _).length=_;simp,?_⟩;have e:HY d { d with td:=d.td.set (t - 1) l }=Dd.told d (.td t l):=by
      unfold HY Dd.told;rw [BO];rfl
    rw [e];exact k.same s3
def Es (w:Bool):Str:=if w=true then "weft" else "warp"
def aCo (H:Hp) (dd:Dd) (ws:List V):Prop:=∃ w n z,dd= .co w n z/\ws=[.str (Es w),nV n, .str z]
theorem Sr {d:Dr} {w:Bool} {z:Str}:HY d (Dd.go d (.co w n z))=([],[]):=by
  cases w with
  | true=>exact Prod.ext (BO _) (BO _)
  | false=>exact Prod.ext (BO _) (BO _)
theorem ak {c:Bool} {ta tb:TE} {σ:L2.St} {R:VK} (P:V->Hp->Prop) (h1:∀ v H',P v H'->R v H') (h2:∀ R':VK,(∀ v H',P v H'->R' v H')->if c=true then ta σ H R' else tb σ H R'):if c=true then ta σ H R else tb σ H R:=h2 R h1
theorem VB {d:Dr} {w:Bool} {z:Str} (g:H l=some (.lst (((if w=true then d.we else d.wa).set (n - 1) z).map V.str))):Turns H d [((.inr (Es w):Key), .ref l)] (Dd.go d (.co w n z)):=by
  cases w with
  | true=>exact Uc g
  | false=>exact XE g
theorem O8 {d:Dr} {w:Bool} {z:Str}:(Dd.go d (.co w n z)).th.length=d.th.length:=by cases w <;> rfl
theorem OR {d:Dr} {w:Bool} {z:Str}:(Dd.go d (.co w n z)).td.length=d.td.length:=by cases w <;> rfl
abbrev Dh:Stmt:=Aw (top 51) 8
theorem sc_Hand_colour:FnScope ["self","side","number","colour","colours"] ["self","side","number","colour"] (Ah Dh):=⟨rfl,rfl,rfl,by decide +kernel,rfl,by decide +kernel,by decide +kernel⟩
theorem IW (F:Fun K "colour" "Hand.colour" Dh f fd) (T:Txt K mg c) (c_need_place:CallF P w K mg base "need_place" 3 ["thing","most"] A2) (d_Hand_alter:AI P w K mg base c.Hand "alter" 9 ["self","changes"] (BI c)) (c_replaced_at:CallF P w K mg base "replaced_at" 1 ["members","place","thing"] (BF K)):FnOk P w K mg base CX0 10 f fd ["self","side","number","colour"] (Fc c aCo):=by
  refine F.ok sc_Hand_colour (λ vs H Q E h=> ?_) (λ cdv A outer s H vs Q E hr h=> ?_)
  · obtain ⟨x,B,lp,d,st,dd,ws,rfl,⟨w,n,z,rfl,rfl⟩,_⟩:=h;rfl
  · obtain ⟨x,B,lp,d,st,dd,ws,rfl,⟨w',n,z,rfl,rfl⟩,hA,ok,dk,ls,k⟩:=h;obtain ⟨h1,h2,h3⟩:=id dk;obtain ⟨dx,y,refs,hx,hl,D0,S0⟩:=hA.ex;have DH:=D0.same hA.sB;obtain ⟨dy,v1,v2,v3,v4,v5,hy,r1,r2,r3,r4,r5⟩:=id DH;obtain ⟨a4,rfl,e4,_⟩:=DY r4;obtain ⟨a5,rfl,e5,_⟩:=DY r5;have h2':=ok.h2;have p2':=ok.p2;have wl:=ok.wl;have fl:=ok.fl;refine ⟨_,(Ac (AM (PW.pt (Kd (Ce (Bp (Am (Bx (K:=K)) rfl (T.own _ (by decide)) boot_isinstance (Aa (pv 1) (Aa (BR rfl (T.own _ (by decide)) boot_str) Ab))))) (GK (Au (QE (K:=K)) (pv 1) (AE (Aa (MS T.k_WARP) (Aa (MS T.k_WEFT) Ab))) (by with_unfolding_all rfl))))) (Ag CU) Ay)
      (Ac (Av (i:=4) sc_Hand_colour.nd rfl (Or.inl rfl) (EC (Au Bg (pv 1) (MS T.k_WARP) (AC _)) (Az (K:=K) (Az (K:=K) (pv 0) rfl) rfl) (Az (K:=K) (Az (K:=K) (pv 0) rfl) rfl)))
      (Ac (AD (Ae c_need_place (hr.mono (by decide)) (Aa (pv 2) (Aa (Am (BA (K:=K)) rfl (T.own _ (by decide)) boot_len (Aa (pv 4) Ab)) Ab))))
      (Ag (Ak (AY (pv 0) d_Hand_alter hr (Aa (CH (Bb (pv 1) (Ae c_replaced_at (hr.mono (by decide)) (Aa (pv 4) (Aa (pv 2) (Aa (pv 3) Ab)))) CF) rfl rfl (by simp) (by decide)) Ab))))))),?_⟩
    walk_at "w";refine A1 (.str _) (kb (b:=true) (by decide +kernel)) ?_;walk_at "w";row_lines H x0;walk_at "w";refine ⟨p0,_,rfl, .inr (SqT.of g0),rfl,rfl,?_⟩;have ein:inV (.str (Es w')) [.str "warp", .str "weft"]=true:=by cases w' <;> decide +kernel
    rw [if_pos rfl,ein];walk_at "w";have hx0:=s0 _ _ hx;have hy0:=s0 _ _ hy;refine ak (λ v H'=>v= .ref (if w'=true then a5 else a4)/\H'=H0) ?_ (λ R key=> ?_)
    case refine_2=>
      cases w' with
      | true=>
        rw [show decide (Es true="warp")=false by decide +kernel];refine B2 ?_;walk_at "w";refine ⟨_,_,_,_,_,rfl,hx0,T.kd_Hand.cl,T.na_Hand_held,rfl,?_⟩;walk_at "w";exact ⟨_,_,_,_,_,rfl,hy0,T.kd_Draft.cl,T.na_Draft_weft,rfl,key _ _ ⟨rfl,rfl⟩⟩
      | false=>
        rw [show decide (Es false="warp")=true by decide +kernel];refine DI ?_;walk_at "w";refine ⟨_,_,_,_,_,rfl,hx0,T.kd_Hand.cl,T.na_Hand_held,rfl,?_⟩;walk_at "w";exact ⟨_,_,_,_,_,rfl,hy0,T.kd_Draft.cl,T.na_Draft_warp,rfl,key _ _ ⟨rfl,rfl⟩⟩
    rintro v H' ⟨ev,eH⟩;rw [ev,eH];clear ev eH;obtain ⟨aq,eq,cs,ecs,gq,lq⟩:∃ aq,(if w'=true then a5 else a4)=aq/\∃ cs:List Str,(if w'=true then d.we else d.wa)=cs/\H0 aq=some (.tup (cs.map V.str))/\cs.length=(if w'=true then d.td.length else d.th.length):=by
      cases w' with
      | true=>exact ⟨a5,rfl,d.we,rfl,s0 _ _ e5,fl⟩
      | false=>exact ⟨a4,rfl,d.wa,rfl,s0 _ _ e4,wl⟩
    rw [eq];have lc:cs.length<=60:=by rw [lq];split <;> omega
    walk_at "w";refine Hw (SqT.of gq) ?_;walk_at "w";refine ⟨n,_,rfl,h1,by rw [Aa1,lq];exact h2,?_⟩;walk_at "w";refine ⟨_,_,_,rfl,hx0,rfl,?_⟩;walk_at "w";row_lines H0 x1;walk_at "w";refine ⟨true,aq,_,n, .str z,rfl,SqT.of (s1 _ _ gq),h1,by rw [Aa1,lq];exact h2,by rw [Aa1];omega,λ H2 p2 s2 n2 g2=> ?_⟩;rw [<-List.map_set] at g2;walk_at "w";have gp:=s2 _ _ g1;refine ⟨gp,[((.inr (Es w'):Key), .ref p2)],rfl,by simp,?_⟩;rw [is1];generalize eu:upd H2 p1 _=H3;have s3:=Bo eu (s0.free n1) (s0.trans (s1.trans s2));have g3:H3 p1=_:=(congrFun eu p1).symm.trans Af;have k3:=DD eu gp;clear eu;walk_at "w";subst ecs;refine ⟨x,B,lp,d,st,p1,_,_,rfl,hA.same s3,ok,ls,g3,VB (k3 _ _ g2),Dd.go_ok ok (.co w' n z) dk,O8,OR,?_⟩;rw [Sr];exact k.same s3
theorem Told.other {c:Cs} {H6:Hp} {y' t:Addr} {d d':Dr} {st:List (Dr × Bk)} {r r':Bk} {refs:List V} (k:Told c B H x lp d' (st++[(d,r)]) r' Q) (hA:HandAt c B H x lp d st) (hx:H x=some (.ins c.Hand dx [("held", .ref y),("past", .ref lp)])) (hl:H lp=some (.lst refs)) (D0:DrAt c.Draft B y d) (S0:Ents c B refs st)
    (s:Same H H6) (n':H y'=none) (D':DrAt c.Draft H6 y' d') (nt:H t=none) (ht:H6 t=some (.tup [.ref y, .ref p, .ref q])) (np:H p=none) (hp:H6 p=some (.lst (r.1.map nV))) (nq:H q=none) (hq:H6 q=some (.lst (r.2.map nV))):
    ∀ H9 p7 p8,Same (upd H6 lp (.lst (refs++[.ref t]))) H9->H9 p7=some (.lst (r'.1.map nV))->H9 p8=some (.lst (r'.2.map nV))->Ba c [.ref x, .ref y', .ref p7, .ref p8] H9 Q E0:=by
  intro H9 p7 p8 s9 g7 g8;have nlx:lp≠x:=A3 hl hx (by intro z;cases z);have hx6:upd H6 lp (HO.lst (refs++[.ref t])) x=_:=(Ai nlx.symm).trans (s _ _ hx);refine ⟨x,dx,lp,y,y',p7,p8,r'.1,r'.2,rfl,s9 _ _ hx6,g7,g8,λ H' p l1 l2 np' nl1 nl2 sH hp' hl1 hl2=> ?_⟩;have sx:Same (upd (upd H6 lp (HO.lst (refs++[.ref t]))) x (HO.ins c.Hand dx [("held", .ref y'),("past", .ref lp)])) (upd H9 x (HO.ins c.Hand dx [("held", .ref y'),("past", .ref lp)])):=λ b o e=>by
    by_cases z:b=x
    · rw [z,Af] at e ⊢;exact e
    · rw [Ai z] at e ⊢;exact s9 _ _ e
  have fr:∀ b,H9 b=none->upd (upd H6 lp (HO.lst (refs++[.ref t]))) x (HO.ins c.Hand dx [("held", .ref y'),("past", .ref lp)]) b=none:=λ b e=>by
    have n:b≠x:=λ z=>by rw [z,s9 _ _ hx6] at e;cases e
    rw [Ai n];exact s9.free e
  exact k (Ft B H H6) _ H' p l1 l2 HJ DZ (But2.of s) (hA.push hx hl D0 S0 s n' D' nt ht np hp nq hq) (fr _ np') (fr _ nl1) (fr _ nl2) (sx.trans sH) hp' hl1 hl2
def aPe (H:Hp) (dd:Dd) (ws:List V):Prop:=∃ e s z,dd= .pe e s z/\ws=[nV e,nV s, .str z]
abbrev CS:Stmt:=Aw (top 51) 9
theorem sc_Hand_put_end:FnScope ["self","end","shaft","colour","changes","later"] ["self","end","shaft","colour"] (Ah CS):=⟨rfl,rfl,rfl,by decide +kernel,rfl,by decide +kernel,by decide +kernel⟩
theorem Hf (F:Fun K "put_end" "Hand.put_end" CS f fd) (T:Txt K mg c) (c_need_place:CallF P w K mg base "need_place" 3 ["thing","most"] A2) (d_Draft_ends:AI P w K mg base c.Draft "ends" 1 ["self"] (BK c)) (c_put_at:CallF P w K mg base "put_at" 1 ["members","place","thing"] (Gz K)) (c_changed_draft:CallF P w K mg base "changed_draft" 8 ["draft","changes"] (AT c)) (d_Hand_bring:AI P w K mg base c.Hand "bring" 1 ["self","later","picks","ends"] (Ba c)):FnOk P w K mg base CX0 9 f fd ["self","end","shaft","colour"] (Fc c aPe):=by
  refine F.ok sc_Hand_put_end (λ vs H Q E h=> ?_) (λ cdv A outer s H vs Q E hr h=> ?_)
  · obtain ⟨x,B,lp,d,st,dd,ws,rfl,⟨e,s',z,rfl,rfl⟩,_⟩:=h;rfl
  · obtain ⟨x,B,lp,d,st,dd,ws,rfl,⟨e,s',z,rfl,rfl⟩,hA,ok,dk,ls,k⟩:=h;obtain ⟨h1,h2,h3⟩:=id dk;obtain ⟨dx,y,refs,hx,hl,D0,S0⟩:=hA.ex;have DH:=D0.same hA.sB;obtain ⟨dy,v1,v2,v3,v4,v5,hy,r1,r2,r3,r4,r5⟩:=id DH;obtain ⟨a1,rfl,e1,_⟩:=C4 r1;obtain ⟨a4,rfl,e4,_⟩:=DY r4;have h2':=ok.h2;have wl:=ok.wl;refine ⟨_,(Ac (AD (Ae c_need_place (hr.mono (by decide)) (Aa (pv 1) (Aa (Al AW (AG (Az (K:=K) (pv 0) rfl) d_Draft_ends (hr.mono (by decide))) Ad) Ab))))
      (Ac (Av (i:=4) sc_Hand_put_end.nd rfl (Or.inl rfl) (CH (Bb Aq (Ae c_put_at (hr.mono (by decide)) (Aa (Az (K:=K) (Az (K:=K) (pv 0) rfl) rfl) (Aa (pv 1) (Aa (pv 2) Ab)))) (Bb Aq (Ae c_put_at (hr.mono (by decide)) (Aa (Az (K:=K) (Az (K:=K) (pv 0) rfl) rfl) (Aa (pv 1) (Aa (pv 3) Ab)))) CF)) rfl rfl (by simp) (by decide)))
      (Ac (Av (i:=5) sc_Hand_put_end.nd rfl (Or.inl rfl) (Ae c_changed_draft hr (Aa (Az (K:=K) (pv 0) rfl) (Aa (pv 4) Ab))))
      (Ac (AD (C6 (K:=K) PySem.F.plainAttrs_list PySem.F.slot_list_append PySem.F.type_list_append Bw (Az (K:=K) (pv 0) rfl) (Aa (AE (Aa (Az (K:=K) (pv 0) rfl) (Aa (AB Ab) (Aa (AB Ab) Ab)))) Ab)))
      (Ag (Ak (AY (pv 0) d_Hand_bring (hr.mono (by decide)) (Aa (pv 5) (Aa (AB Ab) (Aa (AB (Aa (pv 1) Ab)) Ab)))))))))),?_⟩
    walk_at "w";refine ⟨_,_,_,_,_,rfl,hx,T.kd_Hand.cl,T.na_Hand_held,rfl,?_⟩;walk_at "w";refine ⟨_,_,_,rfl,hy,rfl,?_⟩;walk_at "w";refine ⟨y,d,rfl,DH,?_⟩;walk_at "w";refine ⟨e,d.th.length+1,rfl,h1,h2,?_⟩;walk_at "w";row_lines H x0;walk_at "w";refine ⟨_,_,_,_,_,rfl,s0 _ _ hx,T.kd_Hand.cl,T.na_Hand_held,rfl,?_⟩;walk_at "w";refine ⟨_,_,_,_,_,rfl,s0 _ _ hy,T.kd_Draft.cl,T.na_Draft_threading,rfl,?_⟩;walk_at "w";refine ⟨true,a1,_,e,nV s',rfl,SqT.of (s0 _ _ e1),h1,by rw [Aa1];exact h2,by rw [Aa1];omega,λ H1 p1 s1 n1 g1=> ?_⟩;rw [Dx (f:=nV)] at g1;have s01:=s0.trans s1;walk_at "w";refine ⟨_,_,_,_,_,rfl,s01 _ _ hx,T.kd_Hand.cl,T.na_Hand_held,rfl,?_⟩;walk_at "w";refine ⟨_,_,_,_,_,rfl,s01 _ _ hy,T.kd_Draft.cl,T.na_Draft_warp,rfl,?_⟩;walk_at "w";refine ⟨true,a4,_,e, .str z,rfl,SqT.of (s01 _ _ e4),h1,by rw [Aa1,wl];exact h2,by rw [Aa1,wl];omega,λ H2 p2 s2 n2 g2=> ?_⟩;rw [Dx (f:=V.str)] at g2;walk_at "w";have gp:=s2 _ _ (s1 _ _ g0);refine ⟨gp,[((.inr "threading":Key), .ref p1),(.inr "warp", .ref p2)],rfl,by simp,?_⟩;rw [RG];generalize eu:upd H2 p0 _=H3;have s3:=Bo eu n0 (s01.trans s2);have g3:H3 p0=_:=(congrFun eu p0).symm.trans Af;have k3:=DD eu gp;clear eu;walk_at "w";refine ⟨_,_,_,_,_,rfl,s3 _ _ hx,T.kd_Hand.cl,T.na_Hand_held,rfl,?_⟩;walk_at "w";refine ⟨y,d,p0,_,_,rfl,DH.same s3,ok,g3,RQ (k3 _ _ (s2 _ _ g1)) (k3 _ _ g2),Dd.go_ok ok (.pe e s' z) dk,λ H4 y' s4 n' D4=> ?_⟩;have s04:=s3.trans s4;walk_at "w";refine ⟨_,_,_,_,_,rfl,s04 _ _ hx,T.kd_Hand.cl,T.na_Hand_past,rfl,?_⟩;refine tyL (SqL.of (s04 _ _ hl)) ?_;walk_at "w";refine ⟨_,_,_,_,_,rfl,s04 _ _ hx,T.kd_Hand.cl,T.na_Hand_held,rfl,?_⟩;walk_at "w";row_lines H4 x5;walk_at "w";row_lines H5 x6;walk_at "w";row_lines H6 x7;have s47:=s5.trans (s6.trans s7);have s07:=s04.trans s47;walk_at "w";refine DW (s07 _ _ hl) (by rw [S0.len];omega) ?_;have nlx:lp≠x:=A3 hl hx (by intro z;cases z);have key:=Told.other k hA hx hl D0 S0 s07 (s3.free n') (D4.same s47) ((s04.trans (s5.trans s6)).free n7) g7 (s04.free n5) (s7 _ _ (s6 _ _ g5)) ((s04.trans s5).free n6) (s7 _ _ g6);have hx8:upd H7 lp (HO.lst (refs++[.ref p7])) x=_:=(Ai nlx.symm).trans (s07 _ _ hx);generalize upd H7 lp (HO.lst (refs++[.ref p7]))=H8 at key hx8 ⊢;walk_at "w";refine ⟨_,_,_,rfl,hx8,rfl,?_⟩;walk_at "w";row_lines H8 x9;walk_at "w";row_lines H9 xA;walk_at "w";exact key _ _ _ (s9.trans sA) (sA _ _ g9) gA
def aPp (H:Hp) (dd:Dd) (ws:List V):Prop:=∃ p l z a,dd= .pp p l z/\ws=[nV p, .ref a, .str z]/\H a=some (.lst (l.map nV))
abbrev CA:Stmt:=Aw (top 51) 10
theorem sc_Hand_put_pick:FnScope ["self","pick","treadles","colour","treading","later"] ["self","pick","treadles","colour"] (Ah CA):=⟨rfl,rfl,rfl,by decide +kernel,rfl,by decide +kernel,by decide +kernel⟩
theorem Gx (F:Fun K "put_pick" "Hand.put_pick" CA f fd) (T:Txt K mg c) (c_need_place:CallF P w K mg base "need_place" 3 ["thing","most"] A2) (d_Draft_picks:AI P w K mg base c.Draft "picks" 1 ["self"] (B4 c)) (c_lists_of:CallF P w K mg base "lists_of" 1 ["tuples"] Cq) (c_put_at:CallF P w K mg base "put_at" 1 ["members","place","thing"] (Gz K)) (c_changed_draft:CallF P w K mg base "changed_draft" 8 ["draft","changes"] (AT c)) (d_Hand_bring:AI P w K mg base c.Hand "bring" 1 ["self","later","picks","ends"] (Ba c)):FnOk P w K mg base CX0 9 f fd ["self","pick","treadles","colour"] (Fc c aPp):=by
  refine F.ok sc_Hand_put_pick (λ vs H Q E h=> ?_) (λ cdv A outer s H vs Q E hr h=> ?_)
  · obtain ⟨x,B,lp,d,st,dd,ws,rfl,⟨e,l,z,a,rfl,rfl,_⟩,_⟩:=h;rfl
  · obtain ⟨x,B,lp,d,st,dd,ws,rfl,⟨e,l,z,a,rfl,rfl,ha⟩,hA,ok,dk,ls,k⟩:=h;obtain ⟨h1,h2,h3,_⟩:=id dk;obtain ⟨dx,y,refs,hx,hl,D0,S0⟩:=hA.ex;have DH:=D0.same hA.sB;obtain ⟨dy,v1,v2,v3,v4,v5,hy,r1,r2,r3,r4,r5⟩:=id DH;obtain ⟨a5,rfl,e5,_⟩:=DY r5;have p2':=ok.p2;have fl:=ok.fl;refine ⟨_,(Ac (AD (Ae c_need_place (hr.mono (by decide)) (Aa (pv 1) (Aa (Al AW (AG (Az (K:=K) (pv 0) rfl) d_Draft_picks (hr.mono (by decide))) Ad) Ab))))
      (Ac (Av (i:=4) sc_Hand_put_pick.nd rfl (Or.inl rfl) (Ae c_put_at (hr.mono (by decide)) (Aa (Ae c_lists_of (hr.mono (by decide)) (Aa (Az (K:=K) (Az (K:=K) (pv 0) rfl) rfl) Ab)) (Aa (pv 1) (Aa (pv 2) Ab)))))
      (Ac (Av (i:=5) sc_Hand_put_pick.nd rfl (Or.inl rfl) (Ae c_changed_draft hr (Aa (Az (K:=K) (pv 0) rfl) (Aa (CH (Bb Aq (pv 4) (Bb Aq (Ae c_put_at (hr.mono (by decide)) (Aa (Az (K:=K) (Az (K:=K) (pv 0) rfl) rfl) (Aa (pv 1) (Aa (pv 3) Ab)))) CF)) rfl rfl (by simp) (by decide)) Ab))))
      (Ac (AD (C6 (K:=K) PySem.F.plainAttrs_list PySem.F.slot_list_append PySem.F.type_list_append Bw (Az (K:=K) (pv 0) rfl) (Aa (AE (Aa (Az (K:=K) (pv 0) rfl) (Aa (AB Ab) (Aa (AB Ab) Ab)))) Ab)))
      (Ag (Ak (AY (pv 0) d_Hand_bring (hr.mono (by decide)) (Aa (pv 5) (Aa (AB (Aa (pv 1) Ab)) (Aa (AB Ab) Ab)))))))))),?_⟩
    walk_at "w";refine ⟨_,_,_,_,_,rfl,hx,T.kd_Hand.cl,T.na_Hand_held,rfl,?_⟩;walk_at "w";refine ⟨_,_,_,rfl,hy,rfl,?_⟩;walk_at "w";refine ⟨y,d,rfl,DH,?_⟩;walk_at "w";refine ⟨e,d.td.length+1,rfl,h1,h2,?_⟩;walk_at "w";refine ⟨_,_,_,_,_,rfl,hx,T.kd_Hand.cl,T.na_Hand_held,rfl,?_⟩;walk_at "w";refine ⟨_,_,_,_,_,rfl,hy,T.kd_Draft.cl,T.na_Draft_treading,rfl,?_⟩;walk_at "w";refine ⟨_,_,rfl,r3,λ H0 p0 s0 n0 g0=> ?_⟩;obtain ⟨_,us,ea,gu,lu,_⟩:=LLs.of g0;cases ea;have hu:=lu.len;walk_at "w";refine ⟨false,p0,us,e, .ref a,rfl,SqL.of gu,h1,by omega,by omega,λ H1 p1 s1 n1 g1=> ?_⟩;have s01:=s0.trans s1;have rl:Rp H1 FT 2 (.ref p1) (dLL (Bs d.td (e - 1) l)):=(((lu.same s1).take (e - 1)).app (.cons (Be (s01 _ _ ha) trivial (by have:=h3.len;have:=ok.t2;omega)) ((lu.same s1).drop (e - 1)))).rp g1 (by have:=EN (xs:=d.td) (k:=e - 1) (v:=l) (by omega);unfold Bs at this;omega) trivial;walk_at "w";refine ⟨_,_,_,_,_,rfl,s01 _ _ hx,T.kd_Hand.cl,T.na_Hand_held,rfl,?_⟩;walk_at "w";row_lines H1 x2;walk_at "w";have s02:=s01.trans s2;refine ⟨_,_,_,_,_,rfl,s02 _ _ hx,T.kd_Hand.cl,T.na_Hand_held,rfl,?_⟩;walk_at "w";refine ⟨_,_,_,_,_,rfl,s02 _ _ hy,T.kd_Draft.cl,T.na_Draft_weft,rfl,?_⟩;walk_at "w";refine ⟨true,a5,_,e, .str z,rfl,SqT.of (s02 _ _ e5),h1,by rw [Aa1,fl];exact h2,by rw [Aa1,fl];omega,λ H2' pw sw nw gw=> ?_⟩;rw [Dx (f:=V.str)] at gw;walk_at "w";have gp:=sw _ _ g2;refine ⟨gp,[((.inr "treading":Key), .ref p1),(.inr "weft", .ref pw)],rfl,by simp,?_⟩;rw [R4];generalize eu:upd H2' p2 _=H3;have s3:=Bo eu (s01.free n2) (s02.trans sw);have g3:H3 p2=_:=(congrFun eu p2).symm.trans Af;have k3:=DD eu gp;have rl3:Rp H3 FT 2 (.ref p1) (dLL (Bs d.td (e - 1) l)):=eu▸MR gp ((rl.same s2).same sw);clear eu;walk_at "w";refine ⟨y,d,p2,_,_,rfl,DH.same s3,ok,g3,RL rl3 (k3 _ _ gw),Dd.go_ok ok (.pp e l z) dk,λ H4 y' s4 n' D4=> ?_⟩;have s04:=s3.trans s4;walk_at "w";refine ⟨_,_,_,_,_,rfl,s04 _ _ hx,T.kd_Hand.cl,T.na_Hand_past,rfl,?_⟩;refine tyL (SqL.of (s04 _ _ hl)) ?_;walk_at "w";refine ⟨_,_,_,_,_,rfl,s04 _ _ hx,T.kd_Hand.cl,T.na_Hand_held,rfl,?_⟩;walk_at "w";row_lines H4 x5;walk_at "w";row_lines H5 x6;walk_at "w";row_lines H6 x7;have s47:=s5.trans (s6.trans s7);have s07:=s04.trans s47;walk_at "w";refine DW (s07 _ _ hl) (by rw [S0.len];omega) ?_;have nlx:lp≠x:=A3 hl hx (by intro z;cases z);have key:=Told.other k hA hx hl D0 S0 s07 (s3.free n') (D4.same s47) ((s04.trans (s5.trans s6)).free n7) g7 (s04.free n5) (s7 _ _ (s6 _ _ g5)) ((s04.trans s5).free n6) (s7 _ _ g6);have hx8:upd H7 lp (HO.lst (refs++[.ref p7])) x=_:=(Ai nlx.symm).trans (s07 _ _ hx);generalize upd H7 lp (HO.lst (refs++[.ref p7]))=H8 at key hx8 ⊢;walk_at "w";refine ⟨_,_,_,rfl,hx8,rfl,?_⟩;walk_at "w";row_lines H8 x9;walk_at "w";row_lines H9 xA;walk_at "w";exact key _ _ _ (s9.trans sA) (sA _ _ g9) gA
theorem CL {α β:Type} {f:α->β} {xs:List α} {k:Nat}:(xs.eraseIdx k).map f=(xs.map f).eraseIdx k:=by
  rw [Af3,Af3,Ae0,List.map_take,List.map_drop]
def aTe (H:Hp) (dd:Dd) (ws:List V):Prop:=∃ e,dd= .te e/\ws=[nV e]
abbrev Cz:Stmt:=Aw (top 51) 11
theorem sc_Hand_take_end:FnScope ["self","end","changes","later"] ["self","end"] (Ah Cz):=⟨rfl,rfl,rfl,by decide +kernel,rfl,by decide +kernel,by decide +kernel⟩
theorem Gr (F:Fun K "take_end" "Hand.take_end" Cz f fd) (T:Txt K mg c) (c_need_place:CallF P w K mg base "need_place" 3 ["thing","most"] A2) (d_Draft_ends:AI P w K mg base c.Draft "ends" 1 ["self"] (BK c)) (c_taken_at:CallF P w K mg base "taken_at" 1 ["members","place"] (EG K)) (c_changed_draft:CallF P w K mg base "changed_draft" 8 ["draft","changes"] (AT c)) (d_Hand_bring:AI P w K mg base c.Hand "bring" 1 ["self","later","picks","ends"] (Ba c)):FnOk P w K mg base CX0 9 f fd ["self","end"] (Fc c aTe):=by
  refine F.ok sc_Hand_take_end (λ vs H Q E h=> ?_) (λ cdv A outer s H vs Q E hr h=> ?_)
  · obtain ⟨x,B,lp,d,st,dd,ws,rfl,⟨e,rfl,rfl⟩,_⟩:=h;rfl
  · obtain ⟨x,B,lp,d,st,dd,ws,rfl,⟨e,rfl,rfl⟩,hA,ok,dk,ls,k⟩:=h;obtain ⟨h1,h2,h3⟩:=id dk;obtain ⟨dx,y,refs,hx,hl,D0,S0⟩:=hA.ex;have DH:=D0.same hA.sB;obtain ⟨dy,v1,v2,v3,v4,v5,hy,r1,r2,r3,r4,r5⟩:=id DH;obtain ⟨a1,rfl,e1,_⟩:=C4 r1;obtain ⟨a4,rfl,e4,_⟩:=DY r4;have h2':=ok.h2;have wl:=ok.wl;refine ⟨_,(Ac (AD (Ae c_need_place (hr.mono (by decide)) (Aa (pv 1) (Aa (AG (Az (K:=K) (pv 0) rfl) d_Draft_ends (hr.mono (by decide))) Ab))))
      (Ac (Av (i:=2) sc_Hand_take_end.nd rfl (Or.inl rfl) (CH (Bb Aq (Ae c_taken_at (hr.mono (by decide)) (Aa (Az (K:=K) (Az (K:=K) (pv 0) rfl) rfl) (Aa (pv 1) Ab))) (Bb Aq (Ae c_taken_at (hr.mono (by decide)) (Aa (Az (K:=K) (Az (K:=K) (pv 0) rfl) rfl) (Aa (pv 1) Ab))) CF)) rfl rfl (by simp) (by decide)))
      (Ac (Av (i:=3) sc_Hand_take_end.nd rfl (Or.inl rfl) (Ae c_changed_draft hr (Aa (Az (K:=K) (pv 0) rfl) (Aa (pv 2) Ab))))
      (Ac (AD (C6 (K:=K) PySem.F.plainAttrs_list PySem.F.slot_list_append PySem.F.type_list_append Bw (Az (K:=K) (pv 0) rfl) (Aa (AE (Aa (Az (K:=K) (pv 0) rfl) (Aa (AB Ab) (Aa (AB (Aa (pv 1) Ab)) Ab)))) Ab)))
      (Ag (Ak (AY (pv 0) d_Hand_bring (hr.mono (by decide)) (Aa (pv 3) (Aa (AB Ab) (Aa (AB Ab) Ab)))))))))),?_⟩
    walk_at "w";refine ⟨_,_,_,_,_,rfl,hx,T.kd_Hand.cl,T.na_Hand_held,rfl,?_⟩;walk_at "w";refine ⟨_,_,_,rfl,hy,rfl,?_⟩;walk_at "w";refine ⟨y,d,rfl,DH,?_⟩;walk_at "w";refine ⟨e,d.th.length,rfl,h1,h2,?_⟩;walk_at "w";row_lines H x0;walk_at "w";refine ⟨_,_,_,_,_,rfl,s0 _ _ hx,T.kd_Hand.cl,T.na_Hand_held,rfl,?_⟩;walk_at "w";refine ⟨_,_,_,_,_,rfl,s0 _ _ hy,T.kd_Draft.cl,T.na_Draft_threading,rfl,?_⟩;walk_at "w";refine ⟨true,a1,_,e,rfl,SqT.of (s0 _ _ e1),h1,by rw [Aa1];exact h2,by rw [Aa1];omega,λ H1 p1 s1 n1 g1=> ?_⟩;rw [<-CL] at g1;have s01:=s0.trans s1;walk_at "w";refine ⟨_,_,_,_,_,rfl,s01 _ _ hx,T.kd_Hand.cl,T.na_Hand_held,rfl,?_⟩;walk_at "w";refine ⟨_,_,_,_,_,rfl,s01 _ _ hy,T.kd_Draft.cl,T.na_Draft_warp,rfl,?_⟩;walk_at "w";refine ⟨true,a4,_,e,rfl,SqT.of (s01 _ _ e4),h1,by rw [Aa1,wl];exact h2,by rw [Aa1,wl];omega,λ H2 p2 s2 n2 g2=> ?_⟩;rw [<-CL] at g2;walk_at "w";have gp:=s2 _ _ (s1 _ _ g0);refine ⟨gp,[((.inr "threading":Key), .ref p1),(.inr "warp", .ref p2)],rfl,by simp,?_⟩;rw [RG];generalize eu:upd H2 p0 _=H3;have s3:=Bo eu n0 (s01.trans s2);have g3:H3 p0=_:=(congrFun eu p0).symm.trans Af;have k3:=DD eu gp;clear eu;walk_at "w";refine ⟨_,_,_,_,_,rfl,s3 _ _ hx,T.kd_Hand.cl,T.na_Hand_held,rfl,?_⟩;walk_at "w";refine ⟨y,d,p0,_,_,rfl,DH.same s3,ok,g3,RQ (k3 _ _ (s2 _ _ g1)) (k3 _ _ g2),Dd.go_ok ok (.te e) dk,λ H4 y' s4 n' D4=> ?_⟩;have s04:=s3.trans s4;walk_at "w";refine ⟨_,_,_,_,_,rfl,s04 _ _ hx,T.kd_Hand.cl,T.na_Hand_past,rfl,?_⟩;refine tyL (SqL.of (s04 _ _ hl)) ?_;walk_at "w";refine ⟨_,_,_,_,_,rfl,s04 _ _ hx,T.kd_Hand.cl,T.na_Hand_held,rfl,?_⟩;walk_at "w";row_lines H4 x5;walk_at "w";row_lines H5 x6;walk_at "w";row_lines H6 x7;have s47:=s5.trans (s6.trans s7);have s07:=s04.trans s47;walk_at "w";refine DW (s07 _ _ hl) (by rw [S0.len];omega) ?_;have nlx:lp≠x:=A3 hl hx (by intro z;cases z);have key:=Told.other k hA hx hl D0 S0 s07 (s3.free n') (D4.same s47) ((s04.trans (s5.trans s6)).free n7) g7 (s04.free n5) (s7 _ _ (s6 _ _ g5)) ((s04.trans s5).free n6) (s7 _ _ g6);have hx8:upd H7 lp (HO.lst (refs++[.ref p7])) x=_:=(Ai nlx.symm).trans (s07 _ _ hx);generalize upd H7 lp (HO.lst (refs++[.ref p7]))=H8 at key hx8 ⊢;walk_at "w";refine ⟨_,_,_,rfl,hx8,rfl,?_⟩;walk_at "w";row_lines H8 x9;walk_at "w";row_lines H9 xA;walk_at "w";exact key _ _ _ (s9.trans sA) (sA _ _ g9) gA
def aTp (H:Hp) (dd:Dd) (ws:List V):Prop:=∃ p,dd= .tp p/\ws=[nV p]
abbrev Cf:Stmt:=Aw (top 51) 12
theorem sc_Hand_take_pick:FnScope ["self","pick","treading","later"] ["self","pick"] (Ah Cf):=⟨rfl,rfl,rfl,by decide +kernel,rfl,by decide +kernel,by decide +kernel⟩
theorem Ga (F:Fun K "take_pick" "Hand.take_pick" Cf f fd) (T:Txt K mg c) (c_need_place:CallF P w K mg base "need_place" 3 ["thing","most"] A2) (d_Draft_picks:AI P w K mg base c.Draft "picks" 1 ["self"] (B4 c)) (c_lists_of:CallF P w K mg base "lists_of" 1 ["tuples"] Cq) (c_taken_at:CallF P w K mg base "taken_at" 1 ["members","place"] (EG K)) (c_changed_draft:CallF P w K mg base "changed_draft" 8 ["draft","changes"] (AT c)) (d_Hand_bring:AI P w K mg base c.Hand "bring" 1 ["self","later","picks","ends"] (Ba c)):FnOk P w K mg base CX0 9 f fd ["self","pick"] (Fc c aTp):=by
  refine F.ok sc_Hand_take_pick (λ vs H Q E h=> ?_) (λ cdv A outer s H vs Q E hr h=> ?_)
  · obtain ⟨x,B,lp,d,st,dd,ws,rfl,⟨e,rfl,rfl⟩,_⟩:=h;rfl
  · obtain ⟨x,B,lp,d,st,dd,ws,rfl,⟨e,rfl,rfl⟩,hA,ok,dk,ls,k⟩:=h;obtain ⟨h1,h2,h3⟩:=id dk;obtain ⟨dx,y,refs,hx,hl,D0,S0⟩:=hA.ex;have DH:=D0.same hA.sB;obtain ⟨dy,v1,v2,v3,v4,v5,hy,r1,r2,r3,r4,r5⟩:=id DH;obtain ⟨a5,rfl,e5,_⟩:=DY r5;have p2':=ok.p2;have fl:=ok.fl;refine ⟨_,(Ac (AD (Ae c_need_place (hr.mono (by decide)) (Aa (pv 1) (Aa (AG (Az (K:=K) (pv 0) rfl) d_Draft_picks (hr.mono (by decide))) Ab))))
      (Ac (Av (i:=2) sc_Hand_take_pick.nd rfl (Or.inl rfl) (Ae c_taken_at (hr.mono (by decide)) (Aa (Ae c_lists_of (hr.mono (by decide)) (Aa (Az (K:=K) (Az (K:=K) (pv 0) rfl) rfl) Ab)) (Aa (pv 1) Ab))))
      (Ac (Av (i:=3) sc_Hand_take_pick.nd rfl (Or.inl rfl) (Ae c_changed_draft hr (Aa (Az (K:=K) (pv 0) rfl) (Aa (CH (Bb Aq (pv 2) (Bb Aq (Ae c_taken_at (hr.mono (by decide)) (Aa (Az (K:=K) (Az (K:=K) (pv 0) rfl) rfl) (Aa (pv 1) Ab))) CF)) rfl rfl (by simp) (by decide)) Ab))))
      (Ac (AD (C6 (K:=K) PySem.F.plainAttrs_list PySem.F.slot_list_append PySem.F.type_list_append Bw (Az (K:=K) (pv 0) rfl) (Aa (AE (Aa (Az (K:=K) (pv 0) rfl) (Aa (AB (Aa (pv 1) Ab)) (Aa (AB Ab) Ab)))) Ab)))
      (Ag (Ak (AY (pv 0) d_Hand_bring (hr.mono (by decide)) (Aa (pv 3) (Aa (AB Ab) (Aa (AB Ab) Ab)))))))))),?_⟩
    walk_at "w";refine ⟨_,_,_,_,_,rfl,hx,T.kd_Hand.cl,T.na_Hand_held,rfl,?_⟩;walk_at "w";refine ⟨_,_,_,rfl,hy,rfl,?_⟩;walk_at "w";refine ⟨y,d,rfl,DH,?_⟩;walk_at "w";refine ⟨e,d.td.length,rfl,h1,h2,?_⟩;walk_at "w";refine ⟨_,_,_,_,_,rfl,hx,T.kd_Hand.cl,T.na_Hand_held,rfl,?_⟩;walk_at "w";refine ⟨_,_,_,_,_,rfl,hy,T.kd_Draft.cl,T.na_Draft_treading,rfl,?_⟩;walk_at "w";refine ⟨_,_,rfl,r3,λ H0 p0 s0 n0 g0=> ?_⟩;obtain ⟨_,us,ea,gu,lu,_⟩:=LLs.of g0;cases ea;have hu:=lu.len;walk_at "w";refine ⟨false,p0,us,e,rfl,SqL.of gu,h1,by omega,by omega,λ H1 p1 s1 n1 g1=> ?_⟩;have s01:=s0.trans s1;have rl:Rp H1 FT 2 (.ref p1) (dLL (d.td.eraseIdx (e - 1))):=((lu.same s1).erase (e - 1)).rp g1 (by rw [Ag4,if_pos (by omega)];omega) trivial;walk_at "w";refine ⟨_,_,_,_,_,rfl,s01 _ _ hx,T.kd_Hand.cl,T.na_Hand_held,rfl,?_⟩;walk_at "w";row_lines H1 x2;walk_at "w";have s02:=s01.trans s2;refine ⟨_,_,_,_,_,rfl,s02 _ _ hx,T.kd_Hand.cl,T.na_Hand_held,rfl,?_⟩;walk_at "w";refine ⟨_,_,_,_,_,rfl,s02 _ _ hy,T.kd_Draft.cl,T.na_Draft_weft,rfl,?_⟩;walk_at "w";refine ⟨true,a5,_,e,rfl,SqT.of (s02 _ _ e5),h1,by rw [Aa1,fl];exact h2,by rw [Aa1,fl];omega,λ H2' pw sw nw gw=> ?_⟩;rw [<-CL] at gw;walk_at "w";have gp:=sw _ _ g2;refine ⟨gp,[((.inr "treading":Key), .ref p1),(.inr "weft", .ref pw)],rfl,by simp,?_⟩;rw [R4];generalize eu:upd H2' p2 _=H3;have s3:=Bo eu (s01.free n2) (s02.trans sw);have g3:H3 p2=_:=(congrFun eu p2).symm.trans Af;have k3:=DD eu gp;have rl3:Rp H3 FT 2 (.ref p1) (dLL (d.td.eraseIdx (e - 1))):=eu▸MR gp ((rl.same s2).same sw);clear eu;walk_at "w";refine ⟨y,d,p2,_,_,rfl,DH.same s3,ok,g3,RL rl3 (k3 _ _ gw),Dd.go_ok ok (.tp e) dk,λ H4 y' s4 n' D4=> ?_⟩;have s04:=s3.trans s4;walk_at "w";refine ⟨_,_,_,_,_,rfl,s04 _ _ hx,T.kd_Hand.cl,T.na_Hand_past,rfl,?_⟩;refine tyL (SqL.of (s04 _ _ hl)) ?_;walk_at "w";refine ⟨_,_,_,_,_,rfl,s04 _ _ hx,T.kd_Hand.cl,T.na_Hand_held,rfl,?_⟩;walk_at "w";row_lines H4 x5;walk_at "w";row_lines H5 x6;walk_at "w";row_lines H6 x7;have s47:=s5.trans (s6.trans s7);have s07:=s04.trans s47;walk_at "w";refine DW (s07 _ _ hl) (by rw [S0.len];omega) ?_;have nlx:lp≠x:=A3 hl hx (by intro z;cases z);have key:=Told.other k hA hx hl D0 S0 s07 (s3.free n') (D4.same s47) ((s04.trans (s5.trans s6)).free n7) g7 (s04.free n5) (s7 _ _ (s6 _ _ g5)) ((s04.trans s5).free n6) (s7 _ _ g6);have hx8:upd H7 lp (HO.lst (refs++[.ref p7])) x=_:=(Ai nlx.symm).trans (s07 _ _ hx);generalize upd H7 lp (HO.lst (refs++[.ref p7]))=H8 at key hx8 ⊢;walk_at "w";refine ⟨_,_,_,rfl,hx8,rfl,?_⟩;walk_at "w";row_lines H8 x9;walk_at "w";row_lines H9 xA;walk_at "w";exact key _ _ _ (s9.trans sA) (sA _ _ g9) gA
def FY (c:Cs):Sp:=λ vs H Q _=>∃ x B lp d st d0 r,vs=[.ref x]/\HandAt c B H x lp d (st++[(d0,r)])/\Told c B H x lp d0 st r Q
abbrev Ex:Stmt:=Aw (top 51) 13
theorem sc_Hand_undo:FnScope ["self","deed"] ["self"] (Ah Ex):=⟨rfl,rfl,rfl,by decide +kernel,rfl,by decide +kernel,by decide +kernel⟩
theorem Kr (F:Fun K "undo" "Hand.undo" Ex f fd) (T:Txt K mg c) (d_Hand_bring:AI P w K mg base c.Hand "bring" 1 ["self","later","picks","ends"] (Ba c)):FnOk P w K mg base CX0 2 f fd ["self"] (FY c):=by
  refine F.ok sc_Hand_undo (λ vs H Q E h=> ?_) (λ cdv A outer s H vs Q E hr h=> ?_)
  · obtain ⟨x,B,lp,d,st,d0,r,rfl,_⟩:=h;rfl
  · obtain ⟨x,B,lp,d,st,d0,r,rfl,hA,k⟩:=h;obtain ⟨dx,y,refs,hx,hl,D0,S0⟩:=hA.ex;obtain ⟨us,u,rfl,S1,t,y0,p,q,rfl,ht,Dt,hp,hq⟩:=S0.last;refine ⟨_,(Ac (AM (Au Bg (Am (BA (K:=K)) rfl (T.own _ (by decide)) boot_len (Aa (Az (K:=K) (pv 0) rfl) Ab)) Ad (AC _)) (Ag CU) Ay)
      (Ac (Av (i:=1) sc_Hand_undo.nd rfl (Or.inl rfl) (MG (K:=K) PySem.F.plainAttrs_list PySem.F.slot_list_pop PySem.F.type_list_pop PN (Az (K:=K) (pv 0) rfl)))
      (Ag (Ak (AY (pv 0) d_Hand_bring hr (Aa (Ar (AN (K:=K)) (pv 1) Ad (λ _ _=>rfl)) (Aa (Ar (AN (K:=K)) (pv 1) Ad (λ _ _=>rfl)) (Aa (Ar (AN (K:=K)) (pv 1) Ad (λ _ _=>rfl)) Ab)))))))),?_⟩
    walk_at "w";refine ⟨_,_,_,_,_,rfl,hx,T.kd_Hand.cl,T.na_Hand_past,rfl,?_⟩;walk_at "w";refine A9 (SqL.of hl) ?_;walk_at "w";refine ED (λ z=>absurd z (by simp;omega)) (λ _=> ?_);walk_at "w";refine ⟨_,_,_,_,_,rfl,hx,T.kd_Hand.cl,T.na_Hand_past,rfl,?_⟩;refine tyL (SqL.of hl) ?_;refine ⟨lp,_, .ref t,rfl,rfl,hl,by simp,?_⟩;rw [List.dropLast_concat];have nlx:lp≠x:=A3 hl hx (by intro z;cases z);have sB1:Same B (upd H lp (HO.lst us)):=λ b o e=>by
      have n:b≠lp:=λ z=>by rw [z,hA.bl] at e;cases e
      rw [Ai n];exact hA.sB _ _ e
    have hx1:upd H lp (HO.lst us) x=_:=(Ai nlx.symm).trans hx;have hl1:upd H lp (HO.lst us) lp=_:=Af;have bt:∀ b o,H b=some o->b≠lp->upd H lp (HO.lst us) b=some o:=λ b o e n=>by rw [Ai n];exact e
    generalize upd H lp (HO.lst us)=H1 at sB1 hx1 hl1 bt ⊢;walk_at "w";refine ⟨_,_,_,rfl,hx1,rfl,?_⟩;walk_at "w";refine Ao (SqT.of (sB1 _ _ ht)) (show atI _ 0=_ from rfl) ?_;walk_at "w";refine Ao (SqT.of (sB1 _ _ ht)) (show atI _ 1=_ from rfl) ?_;walk_at "w";refine Ao (SqT.of (sB1 _ _ ht)) (show atI _ 2=_ from rfl) ?_;walk_at "w";refine ⟨x,dx,lp,y,y0,p,q,_,_,rfl,hx1,sB1 _ _ hp,sB1 _ _ hq,λ H' p' l1 l2 np nl1 nl2 sH hp' hl1' hl2'=> ?_⟩;have fr:∀ b,H1 b=none->upd H1 x (HO.ins c.Hand dx [("held", .ref y0),("past", .ref lp)]) b=none:=λ b e=>by
      have n:b≠x:=λ z=>by rw [z,hx1] at e;cases e
      rw [Ai n];exact e
    refine k B _ H' p' l1 l2 (Same.refl _) Out.refl (λ b o e n1 n2=>by rw [Ai n1];exact bt _ _ e n2) ⟨⟨dx,y0,us,Af,by rw [Ai nlx];exact hl1,Dt,S1⟩,λ b o e=> ?_,hA.bx,hA.bl⟩ (fr _ np) (fr _ nl1) (fr _ nl2) sH hp' hl1' hl2';have n:b≠x:=λ z=>by rw [z,hA.bx] at e;cases e
    rw [Ai n];exact sB1 _ _ e
def dPl (d:Dr):Dt:= .lst [dN d.sh,dN d.tr,dL d.th,dLL d.ti,dLL d.td,dS d.wa,dS d.we]
theorem Ck {d:Dr} (r:Rp H F n v (dPl d)):∃ m a a2 v3 v4 a5 a6,n=m+1/\v= .ref a/\F a/\H a=some (.lst [nV d.sh,nV d.tr, .ref a2,v3,v4, .ref a5, .ref a6])/\H a2=some (.lst (d.th.map nV))/\F a2/\Rp H F m v3 (dLL d.ti)/\Rp H F m v4 (dLL d.td)/\H a5=some (.lst (d.wa.map V.str))/\F a5/\H a6=some (.lst (d.we.map V.str))/\F a6:=by
  cases r with
  | @lst m a vs _ h f b l e=>
    replace l:vs.length=7:=l;obtain ⟨v0,w0,rfl,l0⟩:=AQ l;obtain ⟨v1,w1,rfl,l1⟩:=AQ l0;obtain ⟨v2,w2,rfl,l2⟩:=AQ l1;obtain ⟨v3,w3,rfl,l3⟩:=AQ l2;obtain ⟨v4,w4,rfl,l4⟩:=AQ l3;obtain ⟨v5,w5,rfl,l5⟩:=AQ l4;obtain ⟨v6,w6,rfl,l6⟩:=AQ l5;have e6:w6=[]:=List.length_eq_zero_iff.mp l6;subst e6;have q0:=e 0 _ _ rfl rfl;have q1:=e 1 _ _ rfl rfl;obtain ⟨b2,rfl,g2,f2,_⟩:=B9 (e 2 _ _ rfl rfl);obtain ⟨b5,rfl,g5,f5,_⟩:=GW (e 5 _ _ rfl rfl);obtain ⟨b6,rfl,g6,f6,_⟩:=GW (e 6 _ _ rfl rfl);cases q0;cases q1;exact ⟨m,a,b2,v3,v4,b5,b6,rfl,rfl,f,h,g2,f2,e 3 _ _ rfl rfl,e 4 _ _ rfl rfl,g5,f5,g6,f6⟩
theorem Nk {v1 v2 v3 v4 v5 v6:V} {d3 d4 d5 d6:Dt} (h:H a=some (.lst [v0,v1,v2,v3,v4,v5,v6])) (f:F a) (r0:Rp H F n v0 d0) (r1:Rp H F n v1 d1) (r2:Rp H F n v2 d2) (r3:Rp H F n v3 d3) (r4:Rp H F n v4 d4) (r5:Rp H F n v5 d5) (r6:Rp H F n v6 d6):
    Rp H F (n+1) (.ref a) (.lst [d0,d1,d2,d3,d4,d5,d6]):=by
  refine .lst h f (by simp) rfl λ i v u h1 h2=> ?_
  match i with
  | 0=>cases h1;cases h2;exact r0
  | 1=>cases h1;cases h2;exact r1
  | 2=>cases h1;cases h2;exact r2
  | 3=>cases h1;cases h2;exact r3
  | 4=>cases h1;cases h2;exact r4
  | 5=>cases h1;cases h2;exact r5
  | 6=>cases h1;cases h2;exact r6
  | i+7=>cases h1
def FS (c:Cs):Sp:=λ vs H Q _=>∃ v d F,vs=[v]/\Rp H F 3 v (dPl d)/\DrOk d/\∀ H' x,Same H H'->H x=none->DrAt c.Draft H' x d->Q (.ref x) H'
abbrev EY:Stmt:=top 60
theorem sc__law_made:FnScope ["_law_parts","_law_shafts","_law_treadles","_law_threading","_law_ties","_law_treading","_law_warp","_law_weft"] ["_law_parts"] (Ah EY):=⟨rfl,rfl,rfl,by decide +kernel,rfl,by decide +kernel,by decide +kernel⟩
theorem KJ (F:Fun K "_law_made" "_law_made" EY f fd) (T:Txt K mg c) (m_Draft:GX P w K mg base "Draft" c.Draft 6 ["self","shafts","treadles","threading","ties","treading","warp","weft"] (Bz c)):FnOk P w K mg base CX0 8 f fd ["_law_parts"] (FS c):=by
  refine F.ok sc__law_made (λ vs H Q E h=> ?_) (λ cdv A outer s H vs Q E hr h=> ?_)
  · obtain ⟨v,d,F,rfl,_⟩:=h;rfl
  · obtain ⟨v,d,F,rfl,rv,ok,k⟩:=h;obtain ⟨m,a,a2,v3,v4,a5,a6,em,rfl,_,ha,e2,_,q3,q4,e5,_,e6,_⟩:=Ck rv;cases em;refine ⟨_,(Ac (Gk (pv 0) (Sv (K:=K) rfl (A7 (AV (i:=1) sc__law_made.nd rfl (Or.inl rfl)) (A7 (AV (i:=2) sc__law_made.nd rfl (Or.inl rfl)) (A7 (AV (i:=3) sc__law_made.nd rfl (Or.inl rfl)) (A7 (AV (i:=4) sc__law_made.nd rfl (Or.inl rfl)) (A7 (AV (i:=5) sc__law_made.nd rfl (Or.inl rfl)) (A7 (AV (i:=6) sc__law_made.nd rfl (Or.inl rfl)) (A7 (AV (i:=7) sc__law_made.nd rfl (Or.inl rfl)) F4)))))))))
      (Ag (Ak (EA m_Draft hr (Aa (pv 1) (Aa (pv 2) (Aa (pv 3) (Aa (pv 4) (Aa (pv 5) (Aa (pv 6) (Aa (pv 7) Ab))))))))))),?_⟩
    walk_at "w";refine Ow (SqL.of ha) rfl ?_;walk_at "w";exact MO ⟨_,_,_,_,_,rfl,e2,q3.any,q4.any,e5,e6⟩ ok λ H2 x s2 hx D2=>k H2 x s2 hx D2
theorem HZ:∀ {xs ys:List Nat},xs.Pairwise (· < ·)->ys.Pairwise (· < ·)->(∀ a,a∈xs↔a∈ys)->xs=ys
  | [],[],_,_,_=>rfl
  | [],y::ys,_,_,h=>absurd ((h y).mpr Ad1) (by simp)
  | x::xs,[],_,_,h=>absurd ((h x).mp Ad1) (by simp)
  | x::xs,y::ys,px,py,h=>by
    rw [List.pairwise_cons] at px py;have e:x=y:=by
      rcases Ab2.mp ((h x).mp Ad1) with z | z
      · exact z
      · rcases Ab2.mp ((h y).mpr Ad1) with q | q
        · exact q.symm
        · have:=px.1 y q;have:=py.1 x z;omega
    subst e;rw [HZ px.2 py.2 λ a=> ?_];constructor
    · intro ha;rcases Ab2.mp ((h a).mp (Ac9 _ ha)) with z | z
      · have:=px.1 a ha;omega
      · exact z
    · intro ha;rcases Ab2.mp ((h a).mpr (Ac9 _ ha)) with z | z
      · have:=py.1 a ha;omega
      · exact z
theorem IJ (ns:List Int):(HT.metK ns).Nodup:=by
  have:∀ (ns ks:List Int),ks.Nodup->(ns.foldl HT.addK ks).Nodup:=by
    intro ns
    induction ns with
    | nil=>intro ks h;exact h
    | cons n ns ih=>
      intro ks h;refine ih _ ?_;unfold HT.addK;split
      · exact h
      · rename_i q
        rw [List.nodup_append];exact ⟨h,by simp,λ a ha b hb e=>by
          rw [List.mem_singleton] at hb;exact q (hb▸e▸ha)⟩
  exact this ns [] List.nodup_nil
theorem Gw:∀ (n:Nat) (l:List Int),l.Nodup->(∀ i∈l,1<=i/\i<=n)->l.length<=n
  | 0,l,_,h=>by
    cases l with
    | nil=>exact Aa7 _
    | cons a l=>have:=h a Ad1;omega
  | n+1,l,hd,h=>by
    by_cases q:((n+1:Nat):Int)∈l
    · have h1:=Gw n (l.erase ((n+1:Nat):Int)) (hd.erase _) λ i hi=>by
        obtain ⟨n1,n2⟩:=(hd.mem_erase_iff).mp hi;have:=h i n2;omega
      rw [List.length_erase_of_mem q] at h1;omega
    · have:=Gw n l hd λ i hi=>by
        have h1:=h i hi;have:i≠((n+1:Nat):Int):=λ e=>q (e▸hi);omega
      omega
def lft (d:Dr) (p:Nat):List Nat:=(Aa9 (d.sh+1)).filter (isL d p)
def EM (d:Dr):List (List Nat):=(Aa9 d.td.length).map (lft d)
theorem SS {d:Dr} (ok:DrOk d) {p:Nat} (hp:p<d.td.length) {ms:List Int} (hn:∀ s,s∈ns↔isL d p s=true) (pm:ms.Perm (HT.metK (ns.map λ n:Nat=>(n:Int)))) (pw:ms.Pairwise (· <= ·)):ms.map V.int=(lft d p).map nV:=by
  have nd:ms.Nodup:=pm.nodup_iff.mpr (IJ _);have mem:∀ i:Int,i∈ms↔i∈ns.map λ (l:Nat)=>(l:Int):=λ i=>by rw [pm.mem_iff,HT.metK_mem]
  have bd:∀ s,isL d p s=true->s<=d.sh:=λ s h=>by
    unfold isL at h;obtain ⟨k,hk,hs⟩:=List.any_eq_true.mp h;have hm:=(ok.pr _ (getD_mem (y:=[]) hp)).le k hk;have hk':k - 1<d.ti.length:=by have:=ok.il;omega
    exact ((ok.ir _ (getD_mem (y:=[]) hk')).le s (of_decide_eq_true hs)).2
  have e:ms=(ms.map Int.toNat).map λ (l:Nat)=>(l:Int):=by
    rw [Ae1]
    conv=>lhs;rw [<-List.map_id ms]
    refine List.map_congr_left λ i hi=> ?_;obtain ⟨l,_,rfl⟩:=Ac3.mp ((mem i).mp hi);simp
  have pl:(ms.map Int.toNat).Pairwise (· < ·):=by
    rw [List.pairwise_map];have:=List.Pairwise.and pw nd;refine this.imp_of_mem λ {a b} ha hb h=> ?_;obtain ⟨l,_,rfl⟩:=Ac3.mp ((mem a).mp ha);obtain ⟨l',_,rfl⟩:=Ac3.mp ((mem b).mp hb);have:=h.1;have:=h.2;simp only [Ac2];omega
  have el:ms.map Int.toNat=lft d p:=by
    refine HZ pl (List.pairwise_lt_range.filter _) λ a=> ?_;unfold lft;rw [Ag0,Ae9];constructor
    · intro h;obtain ⟨i,hi,rfl⟩:=Ac3.mp h;obtain ⟨l,hl',rfl⟩:=Ac3.mp ((mem i).mp hi);have:=(hn l).mp hl';simp only [Ac2];exact ⟨by have:=bd l this;omega,this⟩
    · intro h;exact Ac3.mpr ⟨(a:Int),(mem _).mpr (Ac3.mpr ⟨a,(hn a).mpr h.2,rfl⟩),by simp⟩
  rw [e,el,Ae1];rfl
def Du:Sp:=λ vs H Q _=>∃ v d F,vs=[v]/\Rp H F 3 v (dPl d)/\DrOk d/\∀ H' q,Same H H'->H q=none->Rp H' (FN H) 2 (.ref q) (dLL (EM d))->Q (.ref q) H'
theorem OP (s:Same H H'):Same (bar l H) (bar l H'):=λ b o e=>by
  unfold bar at e ⊢;split at e
  · cases e
  · rename_i n
    rw [if_neg n];exact s b o e
theorem Tt:bar l (upd H l o)=bar l H:=by
  funext b;unfold bar;by_cases z:b=l
  · rw [if_pos z,if_pos z]
  · rw [if_neg z,if_neg z,Ai z]
theorem Iv (h:H b=some o) (n:b≠l):bar l H b=some o:=by
  unfold bar;rw [if_neg n];exact h
def Jk (d:Dr) (p j:Nat):List Nat:=((d.td.getD p []).take j).flatMap λ k=>d.ti.getD (k - 1) []
theorem J2 {d:Dr} {p:Nat} (h:j<(d.td.getD p []).length):Jk d p (j+1)=Jk d p j++d.ti.getD ((d.td.getD p []).getD j 0 - 1) []:=by
  unfold Jk;rw [List.take_succ,List.flatMap_append,Aa4 h,Aa2 (i:=j),Aa4 h];simp
theorem OU {d:Dr} {p s:Nat}:s∈Jk d p (d.td.getD p []).length↔isL d p s=true:=by
  unfold Jk isL;rw [List.take_length,List.mem_flatMap,List.any_eq_true];simp
theorem Ir {d:Dr} (ok:DrOk d) {p:Nat} (hp:p<d.td.length):∀ j,j<=(d.td.getD p []).length->(Jk d p j).length<=16*j
  | 0,_=>by simp [Jk]
  | j+1,h=>by
    have i:=Ir ok hp j (by omega);rw [J2 (by omega),Ac0];have hm:=(ok.pr _ (getD_mem (y:=[]) hp)).le _ (getD_mem (y:=0) (show j<(d.td.getD p []).length by omega));have hk:(d.td.getD p []).getD j 0 - 1<d.ti.length:=by have:=ok.il;omega
    have:=(ok.ir _ (getD_mem (y:=[]) hk)).len;have:=ok.s2;omega
abbrev DP:Stmt:=top 61
theorem sc__law_lifts:FnScope ["_law_parts","_law_found","_law_feet","_law_shafts","_law_treadle"] ["_law_parts"] (Ah DP):=⟨rfl,rfl,rfl,by decide +kernel,rfl,by decide +kernel,by decide +kernel⟩
theorem Jf (F:Fun K "_law_lifts" "_law_lifts" DP f fd) (T:Txt K mg c):FnOk P w K mg base CX0 1 f fd ["_law_parts"] Du:=by
  refine F.ok sc__law_lifts (λ vs H Q E h=> ?_) (λ cdv A outer s H vs Q E hr h=> ?_)
  · obtain ⟨v,d,F,rfl,_⟩:=h;rfl
  · obtain ⟨v,d,F',rfl,rv,ok,k⟩:=h;obtain ⟨m,a,a2,v3,v4,a5,a6,em,rfl,_,ha,e2,_,q3,q4,e5,_,e6,_⟩:=Ck rv;obtain ⟨a3,vs3,rfl,e3,l3,b3,el3⟩:=IA q3;obtain ⟨a4,vs4,rfl,e4,l4,b4,el4⟩:=IA q4;have p2:=ok.p2;refine ⟨_,(Ac (Av (i:=1) sc__law_lifts.nd rfl (Or.inl rfl) (AB Ab))
      (Ac (EL PassesOwn.never rfl (BJ (K:=K) (Ar (A6 (K:=K)) (pv 0) Ad (λ _ _=>rfl))) (AV (i:=2) sc__law_lifts.nd rfl (Or.inl rfl)) (Ac (Av (i:=3) sc__law_lifts.nd rfl (Or.inl rfl) (AB Ab))
      (Ac (EL PassesOwn.never rfl (BJ (K:=K) (pv 2)) (AV (i:=4) sc__law_lifts.nd rfl (Or.inl rfl)) (Ag (Av (i:=3) sc__law_lifts.nd rfl (Or.inl rfl) (Al (IE (K:=K)) (pv 3) (Ar (A6 (K:=K)) (Ar (A6 (K:=K)) (pv 0) Ad (λ _ _=>rfl)) (Al BH (pv 4) Ad) (λ _ _=>rfl))))))
      (Ag (AD (C6 (K:=K) PySem.F.plainAttrs_list PySem.F.slot_list_append PySem.F.type_list_append Bw (pv 1) (Aa (Am (NG rfl) rfl (T.own _ (by decide)) KF (Aa (As (Ta rfl) rfl (T.own _ (by decide)) PyProof.Rows.boot_set (Aa (pv 3) Ab)) Ab)) Ab)))))))
      (Ag (Ak (pv 1))))),?_⟩
    walk_at "w";intro q hq;have s0:=Aj (o:=HO.lst []) hq;walk_at "w";refine AF (v:= .ref a4) (SqL.of (s0 _ _ ha)) (AH (j:=4) rfl) ?_;refine ⟨a4,rfl,⟨_,SqL.of (s0 _ _ e4)⟩,FL (H0:=H) (E8 (SqL.of e4)) (λ i σ H3=>∃ x2 x3 x4 ys,σ=[some (.ref a),some (.ref q),x2,x3,x4]/\Same H H3/\H3 q=some (.lst ys)/\LLs (bar q H3) (FN H) ys ((Aa9 i).map (lft d))) ⟨_,_,_,[],rfl,Ci (Same.refl _) hq,Af, .nil⟩ (λ i σ H3 ⟨_,_,_,_,_,s,_⟩=>s) ?_ ?_⟩
    · rintro i σ G H3 hi ⟨x2,x3,x4,ys,rfl,sG,gq,ly⟩ s3;have hi':i<d.td.length:=by omega
      obtain ⟨b,eb,hb⟩:=el4 i hi';rw [eb];have sH:=sG.trans s3;have gq3:=s3 _ _ gq;replace ly:=ly.same (OP (l:=q) s3);have ll:=ly.len;rw [Aa1,Ad6] at ll;walk_at "w";row_lines H3 x4;have s04:=sH.trans s4;walk_at "w";refine ⟨b,rfl,⟨_,SqL.of (s04 _ _ hb)⟩,Hx (E8 (SqL.of (s04 _ _ hb))) (λ j σ H5=>∃ x4 l,σ=[some (.ref a),some (.ref q),some (.ref b),some (.ref l),x4]/\Same H4 H5/\H5 l=some (.lst ((Jk d i j).map nV))) ⟨_,p4,rfl,Same.refl _,g4⟩ (λ j σ H5 ⟨_,_,_,s,_⟩=>s) ?_ ?_⟩
      · rintro j σ G H5 hj ⟨x4',l,rfl,sG',gl⟩ s5;have hj':j<(d.td.getD i []).length:=by simpa using hj
        have s45:=sG'.trans s5;have s05:=s04.trans s45;have hm:=(ok.pr _ (getD_mem (y:=[]) hi')).le _ (getD_mem (y:=0) hj');have hk:(d.td.getD i []).getD j 0 - 1<d.ti.length:=by have:=ok.il;omega
        obtain ⟨b',eb',hb'⟩:=el3 _ hk;rw [BC hj];walk_at "w";refine AF (v:= .ref a3) (SqL.of (s05 _ _ ha)) (AH (j:=3) rfl) ?_;walk_at "w";refine AF (SqL.of (s05 _ _ e3)) (EQ (j:=(d.td.getD i []).getD j 0 - 1) (by omega) (by omega)) ?_;rw [eb'];have c1:=Ir ok hi' j (by omega);have c2:=(ok.ir _ (getD_mem (y:=[]) hk)).len;have c3:=(ok.pr _ (getD_mem (y:=[]) hi')).len;have:=ok.s2;have:=ok.t2;refine FC (SqL.of (s5 _ _ gl)) (SqL.of (s05 _ _ hb')) (by rw [Aa1,Aa1];omega) λ p6 n6=> ?_;walk_at "w";refine ⟨_,p6,rfl,s45.trans (Aj n6),?_⟩;rw [Af,J2 hj',Ae0]
      · rintro σ H5 ⟨x4',l,rfl,s45,gl⟩;rw [Aa1] at gl;walk_at "w";refine tyL (SqL.of (s45 _ _ (s4 _ _ gq3))) ?_;walk_at "w";have c1:=Ir ok hi' _ (Aa7 _);have c3:=(ok.pr _ (getD_mem (y:=[]) hi')).len;have t2:=ok.t2;have s2:=ok.s2;refine Rj rfl (ns:=(Jk d i (d.td.getD i []).length).map λ n:Nat=>(n:Int)) (by rw [Ae1];exact SqL.of gl) (by rw [Aa1];omega) λ p6 n6=> ?_;wrow_has H5 x6;walk_at "w";have mk:(HT.metK ((Jk d i (d.td.getD i []).length).map λ n:Nat=>(n:Int))).length<=16:=Gw 16 _ (IJ _) λ z hz=>by
          rw [HT.metK_mem] at hz;obtain ⟨n,hn,rfl⟩:=Ac3.mp hz;obtain ⟨k',hk',hs⟩:=List.mem_flatMap.mp hn;have hm:=(ok.pr _ (getD_mem (y:=[]) hi')).le k' (List.mem_of_mem_take hk');have hk:k' - 1<d.ti.length:=by have:=ok.il;omega
          have:=(ok.ir _ (getD_mem (y:=[]) hk)).le n hs;omega
        refine PK g6 (Nat.lt_of_le_of_lt mk (by decide)) λ p7 ms n7 pm pw=> ?_;rw [SS ok hi' (λ s=>OU) pm pw];wrow_has H6 x7;walk_at "w";have gq7:=s7 _ _ (s6 _ _ (s45 _ _ (s4 _ _ gq3)));have n7q:p7≠q:=λ z=>by
          rw [z,s6 _ _ (s45 _ _ (s4 _ _ gq3))] at n7;cases n7
        refine DW gq7 (by omega) ?_;walk_at "w";refine ⟨_,_,_,_,rfl,Ci (((s04.trans s45).trans s6).trans s7) hq,Af,?_⟩;rw [Tt,Ag2,Ae0];refine (ly.same (OP (s4.trans (s45.trans (s6.trans s7))))).app (.cons (Be (Iv g7 n7q) (((s04.trans s45).trans s6).free n7) ?_) .nil);unfold lft;exact Ac5 (Af9 _ _) (by rw [Ad6];omega)
    · rintro σ H3 ⟨x2,x3,x4,ys,rfl,sH,gq,ly⟩;walk_at "w";refine k H3 q sH hq ?_;rw [l4] at ly;exact (ly.same IQ).rp gq (by rw [Aa1,Ad6];omega) hq
def Do:Sp:=λ vs H Q _=>∃ v d F,vs=[v]/\Rp H F 3 v (dPl d)/\DrOk d/\∀ H' q,Same H H'->H q=none->H' q=some (.lst ((BV d).map nV))->Q (.ref q) H'
theorem Qo {d:Dr} (ok:DrOk d) {p:Nat} (hp:p<d.td.length):(((Aa9 d.th.length).filter λ e=>decide (d.th.getD e 0∈lft d p)).map λ e=>((2 ^ e:Nat):Int)).sum=(((BV d).getD p 0:Nat):Int):=by
  have l:(BV d).length=d.td.length:=by unfold BV;rw [Aa1]
  obtain ⟨_,_,_,_,hr⟩:=OJ ok;have e:(BV d).getD p 0=MM.ofB (λ e=>decide (d.th.getD e 0∈lft d p)) d.th.length:=by
    refine MM.eq_ofB (hr _ (getD_mem (by omega))) λ e he=> ?_;rw [Q6 ok hp he];have hs:=ok.hs _ (getD_mem (y:=0) he);unfold lft;rw [Ad0,decide_eq_true_eq,Ag0,Ae9];exact ⟨λ h=>⟨by omega,h⟩,λ h=>h.2⟩
  rw [e, <-MM.sum_bits, <-Mh (λ e=>decide (d.th.getD e 0∈lft d p)) (λ i=>2 ^ i), <-KZ,Ae1];rfl
theorem Te (r:Rp H F n v (dLL ls)):∃ a vs,v= .ref a/\H a=some (.lst vs)/\vs.length=ls.length/\vs.length<=100000/\∀ i,i<ls.length->∃ b,vs.getD i .non= .ref b/\H b=some (.lst ((ls.getD i []).map nV))/\F b:=by
  obtain ⟨m,a,vs,_,rfl,h,_,l,b,el⟩:=Dn r;rw [Aa1] at l;refine ⟨a,vs,rfl,h,l,b,λ i hi=> ?_⟩;have r:=el i (by simpa using hi);rw [AU dL ls i .non [] hi] at r;obtain ⟨b,eb,hb,f,_⟩:=B9 r;exact ⟨b,eb,hb,f⟩
abbrev Ea:Stmt:=top 62
theorem sc__law_woven:FnScope ["_law_parts","_law_rows","_law_shafts"] ["_law_parts"] (Ah Ea):=⟨rfl,rfl,rfl,by decide +kernel,rfl,by decide +kernel,by decide +kernel⟩
theorem Jp (F:Fun K "_law_woven" "_law_woven" Ea f fd) (T:Txt K mg c) (c__law_lifts:CallF P w K mg base "_law_lifts" 1 ["_law_parts"] Du):FnOk P w K mg base CX0 2 f fd ["_law_parts"] Do:=by
  refine F.ok sc__law_woven (λ vs H Q E h=> ?_) (λ cdv A outer s H vs Q E hr h=> ?_)
  · obtain ⟨v,d,F,rfl,_⟩:=h;rfl
  · obtain ⟨v,d,F',rfl,rv,ok,k⟩:=h;obtain ⟨m,a,a2,v3,v4,a5,a6,em,rfl,_,ha,e2,_,q3,q4,e5,_,e6,_⟩:=Ck rv;have p2:=ok.p2;have h2':=ok.h2;refine ⟨_,(Ac (Av (i:=1) sc__law_woven.nd rfl (Or.inl rfl) (AB Ab))
      (Ac (EL PassesOwn.never rfl (BJ (K:=K) (Ae c__law_lifts hr (Aa (pv 0) Ab))) (AV (i:=2) sc__law_woven.nd rfl (Or.inr rfl)) (Ag (AD (C6 (K:=K) PySem.F.plainAttrs_list PySem.F.slot_list_append PySem.F.type_list_append Bw (pv 1) (Aa (Am (RA (K:=K)) rfl (T.own _ (by decide)) boot_sum (Aa (EI (K:=K) (MY (K:=K) rfl (T.own _ (by decide)) (Aa (Ar (A6 (K:=K)) (pv 0) Ad (λ _ _=>rfl)) Ab)) (λ _ _ _ _=>(E3 (Au (SL (K:=K)) (pv 1) (pv 2) (by with_unfolding_all rfl)))) (λ _ _ _ _=>(Al FF Ad (pv 0)))) Ab)) Ab)))))
      (Ag (Ak (pv 1))))),?_⟩
    walk_at "w";intro q hq;have s0:=Aj (o:=HO.lst []) hq;have gq0:upd H q (HO.lst []) q=_:=Af;generalize upd H q (HO.lst [])=H0 at s0 gq0 ⊢;walk_at "w";refine ⟨_,d,F',rfl,rv.same s0,ok,λ H1 q1 s1 n1 r1=> ?_⟩;obtain ⟨_,vs1,ev,g1,l1,b1,el1⟩:=Te r1;cases ev;have ln:(EM d).length=d.td.length:=by unfold EM;rw [Aa1,Ad6]
    have nq:q1≠q:=λ z=>by rw [z,gq0] at n1;cases n1
    refine ⟨q1,rfl,⟨_,SqL.of g1⟩,FL (H0:=bar q H1) (E8 (SqL.of (Iv g1 nq))) (λ i σ H3=>∃ x2,σ=[some (.ref a),some (.ref q),x2]/\Same (bar q H1) H3/\H3 q=some (.lst (((Aa9 i).map λ p=>(BV d).getD p 0).map nV))) ⟨_,rfl,IQ,s1 _ _ gq0⟩ (λ i σ H3 ⟨_,_,s,_⟩=>s) ?_ ?_⟩
    · rintro i σ G H3 hi ⟨x2,rfl,sG,gq⟩ s3;have hi':i<d.td.length:=by omega
      obtain ⟨b,eb,hb,fb⟩:=el1 i (by omega);have eg:(EM d).getD i []=lft d i:=by
        unfold EM;rw [CK (lft d) hi']
      rw [eg] at hb;rw [eb];have sH:=sG.trans s3;have gq3:=s3 _ _ gq;have nb:b≠q:=λ z=>by
        have fb:H0 b=none:=fb;rw [z,gq0] at fb;cases fb
      have hb3:=sH _ _ (Iv hb nb);have sH0:Same H H3:=λ b o e=>sH _ _ (Iv (s1 _ _ (s0 _ _ e)) (Ax e hq));walk_at "w";refine tyL (SqL.of gq3) ?_;walk_at "w";refine AF (v:= .ref a2) (SqL.of (sH0 _ _ ha)) (AH (j:=2) rfl) ?_;walk_at "w";refine ⟨a2,rfl,⟨_,SqL.of (sH0 _ _ e2)⟩,λ D hD=> ?_⟩;refine Cc (p:=λ e=>decide (d.th.getD e 0∈lft d i)) (G:=λ e=>((2 ^ e:Nat):Int)) (Lp (SqL.of (sH0 _ _ e2)) rfl rfl) hD (by rw [Aa1];omega) ?_ ?_ ?_
      · intro e H' R he s kk;rw [BC he];walk_at "w";refine Sy (tp:=false) (SqL.of (s _ _ hb3)) ?_;walk_at "w";exact kk H' (Same.refl _)
      · intro e H' R he hp s kk;rw [Aa1] at he;walk_at "w";refine AK ⟨by omega,by omega,by decide⟩ ?_;rw [Ac2,ES];exact kk H' (Same.refl _)
      · intro H4 s4 hl;walk_at "w";refine Ph (SqL.of hl) ?_;rw [Aa1,Qo ok hi'];walk_at "w";refine DW (s4 _ _ gq3) (by rw [Aa1,Aa1,Ad6];omega) ?_;walk_at "w";refine ⟨_,rfl,TL (sH.trans s4) λ b o n e=>by rw [Ai n];exact e,?_⟩;rw [Af,Ag2,Ae0,Ae0];rfl
    · rintro σ H3 ⟨x2,rfl,sH,gq⟩;walk_at "w";refine k H3 q (λ b o e=>sH _ _ (Iv (s1 _ _ (s0 _ _ e)) (Ax e hq))) hq ?_;rw [gq,l1,ln];congr 3;have l:(BV d).length=d.td.length:=by unfold BV;rw [Aa1]
      rw [<-l];exact (Bl id (BV d) 0).trans (List.map_id _)
def dDd:Option Dd->Dt
  | some (.th e s)=> .tup [.str "thread",dN e,dN s]
  | some (.ti t l)=> .tup [.str "tie",dN t,dL l]
  | some (.td p l)=> .tup [.str "tread",dN p,dL l]
  | some (.co w n z)=> .tup [.str "colour", .str (Es w),dN n, .str z]
  | some (.pe e s z)=> .tup [.str "put_end",dN e,dN s, .str z]
  | some (.pp p l z)=> .tup [.str "put_pick",dN p,dL l, .str z]
  | some (.te e)=> .tup [.str "take_end",dN e]
  | some (.tp p)=> .tup [.str "take_pick",dN p]
  | none=> .tup [.str "undo"]
theorem Vn (h:H a=some (.tup [v0])) (r0:Rp H F n v0 d0):Rp H F (n+1) (.ref a) (.tup [d0]):=by
  refine .tup h (by simp) rfl λ i v u h1 h2=> ?_
  match i with
  | 0=>cases h1;cases h2;exact r0
  | i+1=>cases h1
theorem B8 {v1:V} (h:H a=some (.tup [v0,v1])) (r0:Rp H F n v0 d0) (r1:Rp H F n v1 d1):Rp H F (n+1) (.ref a) (.tup [d0,d1]):=by
  refine .tup h (by simp) rfl λ i v u h1 h2=> ?_
  match i with
  | 0=>cases h1;cases h2;exact r0
  | 1=>cases h1;cases h2;exact r1
  | i+2=>cases h1
theorem Il {v1 v2:V} (h:H a=some (.tup [v0,v1,v2])) (r0:Rp H F n v0 d0) (r1:Rp H F n v1 d1) (r2:Rp H F n v2 d2):Rp H F (n+1) (.ref a) (.tup [d0,d1,d2]):=by
  refine .tup h (by simp) rfl λ i v u h1 h2=> ?_
  match i with
  | 0=>cases h1;cases h2;exact r0
  | 1=>cases h1;cases h2;exact r1
  | 2=>cases h1;cases h2;exact r2
  | i+3=>cases h1
theorem M8 {v1 v2 v3:V} {d3:Dt} (h:H a=some (.tup [v0,v1,v2,v3])) (r0:Rp H F n v0 d0) (r1:Rp H F n v1 d1) (r2:Rp H F n v2 d2) (r3:Rp H F n v3 d3):Rp H F (n+1) (.ref a) (.tup [d0,d1,d2,d3]):=by
  refine .tup h (by simp) rfl λ i v u h1 h2=> ?_
  match i with
  | 0=>cases h1;cases h2;exact r0
  | 1=>cases h1;cases h2;exact r1
  | 2=>cases h1;cases h2;exact r2
  | 3=>cases h1;cases h2;exact r3
  | i+4=>cases h1
theorem P8 {M:Int} (h:1<=n):∃ e:Nat,1+M%(n:Nat)=(e:Nat)/\1<=e/\e<=n:=by
  have h0:=Ae4 M (show ((n:Nat):Int)≠0 by omega);have h1:=Ae5 M (show (0:Int)<(n:Nat) by omega);exact ⟨(1+M%(n:Nat)).toNat,by omega,by omega,by omega⟩
def Gd:Sp:=λ vs H Q _=>∃ v d F,∃ x:Int,vs=[v, .int x]/\Rp H F 3 v (dPl d)/\DrOk d/\∀ H' p dd,Same H H'->H p=none->Rp H' (FN H) 2 (.ref p) (dDd dd)->(∀ e,dd=some e->e.ok d)->Q (.ref p) H'
abbrev EK:Stmt:=top 63
theorem sc__law_deed:FnScope ["_law_parts","_law_cell","_law_shafts","_law_treadles","_law_kind","_law_more","_law_end","_law_pick","_law_shaft","_law_feet","_law_colour"] ["_law_parts","_law_cell"] (Ah EK):=⟨rfl,rfl,rfl,by decide +kernel,rfl,by decide +kernel,by decide +kernel⟩
theorem KQ (F:Fun K "_law_deed" "_law_deed" EK f fd) (T:Txt K mg c) (c__law_numbers:CallF P w K mg base "_law_numbers" 1 ["_law_mask","_law_most"] Cw):FnOk P w K mg base CX0 2 f fd ["_law_parts","_law_cell"] Gd:=by
  refine F.ok sc__law_deed (λ vs H Q E h=> ?_) (λ cdv A outer s H vs Q E hr h=> ?_)
  · obtain ⟨v,d,F,x,rfl,_⟩:=h;rfl
  · obtain ⟨v,d,F',x,rfl,rv,ok,k⟩:=h;obtain ⟨m,a,a2,v3,v4,a5,a6,em,rfl,_,ha,e2,_,q3,q4,e5,_,e6,_⟩:=Ck rv;obtain ⟨a4,vs4,rfl,e4,l4,b4,el4⟩:=IA q4;have s2:=ok.s2;have t2:=ok.t2;have s1':=ok.s1;have t1':=ok.t1;have h2':=ok.h2;have h1':=ok.h1;have p2':=ok.p2;have p1':=ok.p1;refine ⟨_,(Ac (Tx (i:=2) (j:=3) rfl sc__law_deed.nd rfl rfl (by decide) rfl rfl (Aa (Ar (A6 (K:=K)) (pv 0) Ad (λ _ _=>rfl)) (Aa (Ar (A6 (K:=K)) (pv 0) Ad (λ _ _=>rfl)) Ab)) rfl)
      (Ac (Av (i:=4) sc__law_deed.nd rfl (Or.inl rfl) (Al AZ (pv 1) Ad))
      (Ac (Av (i:=5) sc__law_deed.nd rfl (Or.inl rfl) (Al BB (pv 1) Ad))
      (Ac (Av (i:=6) sc__law_deed.nd rfl (Or.inl rfl) (Al AW Ad (Al AZ (pv 5) (Am (BA (K:=K)) rfl (T.own _ (by decide)) boot_len (Aa (Ar (A6 (K:=K)) (pv 0) Ad (λ _ _=>rfl)) Ab)))))
      (Ac (Av (i:=7) sc__law_deed.nd rfl (Or.inl rfl) (Al AW Ad (Al AZ (pv 5) (Am (BA (K:=K)) rfl (T.own _ (by decide)) boot_len (Aa (Ar (A6 (K:=K)) (pv 0) Ad (λ _ _=>rfl)) Ab)))))
      (Ac (Av (i:=8) sc__law_deed.nd rfl (Or.inl rfl) (Al AZ (Al BB (pv 5) Ad) (Al AW (pv 2) Ad)))
      (Ac (Av (i:=9) sc__law_deed.nd rfl (Or.inl rfl) (Ae c__law_numbers hr (Aa (Al AZ (Al BB (pv 5) Ad) (Al FF Ad (pv 3))) (Aa (pv 3) Ab))))
      (Ac (Av (i:=10) sc__law_deed.nd rfl (Or.inl rfl) (Ar Mf Aq (Al AZ (Al BB (pv 5) Ad) Ad) (λ _ _=>rfl)))
      (Ac (AM (Au Lz (pv 4) Ad (AC _)) (Ag (Ak (AE (Aa Aq (Aa (pv 6) (Aa (pv 8) Ab)))))) Ay)
      (Ac (AM (Au Lz (pv 4) Ad (AC _)) (Ag (Ak (AE (Aa Aq (Aa (Al AW Ad (Al AZ (pv 5) (pv 3))) (Aa (Ae c__law_numbers hr (Aa (Al AZ (Al BB (pv 5) Ad) (Al FF Ad (pv 2))) (Aa (pv 2) Ab))) Ab)))))) Ay)
      (Ac (AM (Au Lz (pv 4) Ad (AC _)) (Ag (Ak (AE (Aa Aq (Aa (pv 7) (Aa (pv 9) Ab)))))) Ay)
      (Ac (AM (PW.pt (HR (Au Bg (pv 4) Ad (AC _)) (F5 (Au Lz (Am (BA (K:=K)) rfl (T.own _ (by decide)) boot_len (Aa (Ar (A6 (K:=K)) (pv 0) Ad (λ _ _=>rfl)) Ab)) Ad (AC _))))) (Ag (Ak (AE (Aa Aq (Aa (Al AW Ad (Al AZ (pv 5) (Al AW (Am (BA (K:=K)) rfl (T.own _ (by decide)) boot_len (Aa (Ar (A6 (K:=K)) (pv 0) Ad (λ _ _=>rfl)) Ab)) Ad))) (Aa (pv 8) (Aa (pv 10) Ab))))))) Ay)
      (Ac (AM (PW.pt (HR (Au Bg (pv 4) Ad (AC _)) (F5 (Au Lz (Am (BA (K:=K)) rfl (T.own _ (by decide)) boot_len (Aa (Ar (A6 (K:=K)) (pv 0) Ad (λ _ _=>rfl)) Ab)) Ad (AC _))))) (Ag (Ak (AE (Aa Aq (Aa (Al AW Ad (Al AZ (pv 5) (Al AW (Am (BA (K:=K)) rfl (T.own _ (by decide)) boot_len (Aa (Ar (A6 (K:=K)) (pv 0) Ad (λ _ _=>rfl)) Ab)) Ad))) (Aa (pv 9) (Aa (pv 10) Ab))))))) Ay)
      (Ac (AM (PW.pt (HR (Au Bg (pv 4) Ad (AC _)) (F5 (Au RS (Am (BA (K:=K)) rfl (T.own _ (by decide)) boot_len (Aa (Ar (A6 (K:=K)) (pv 0) Ad (λ _ _=>rfl)) Ab)) Ad (AC _))))) (Ag (Ak (AE (Aa Aq (Aa (pv 6) Ab))))) Ay)
      (Ac (AM (PW.pt (HR (Au Bg (pv 4) Ad (AC _)) (F5 (Au RS (Am (BA (K:=K)) rfl (T.own _ (by decide)) boot_len (Aa (Ar (A6 (K:=K)) (pv 0) Ad (λ _ _=>rfl)) Ab)) Ad (AC _))))) (Ag (Ak (AE (Aa Aq (Aa (pv 7) Ab))))) Ay)
      (Ac (AM (Au Bg (pv 4) Ad (AC _)) (Ag (Ak (AE (Aa Aq (Aa (Ar (A6 (K:=K)) (AB (Aa Aq (Aa Aq Ab))) (Al AZ (Al BB (pv 5) Ad) Ad) (λ _ _=>rfl)) (Aa (Ar (A6 (K:=K)) (AB (Aa (pv 6) (Aa (pv 7) Ab))) (Al AZ (Al BB (pv 5) Ad) Ad) (λ _ _=>rfl)) (Aa (pv 10) Ab))))))) Ay)
      (Ag (Ak (AE (Aa Aq Ab)))))))))))))))))))),?_⟩
    walk_at "w";refine AF (v:=nV d.sh) (SqL.of ha) (AH (j:=0) rfl) ?_;walk_at "w";refine AF (v:=nV d.tr) (SqL.of ha) (AH (j:=1) rfl) ?_;walk_at "w";refine AK (by decide) ?_;walk_at "w";refine AK ⟨by decide,by decide⟩ ?_;have k0:=Ae4 x (show (12:Int)≠0 by decide);have k1:=Ae5 x (show (0:Int)<12 by decide);generalize x%12=kd at k0 k1 ⊢;generalize x / 12=M;walk_at "w";refine AF (v:= .ref a2) (SqL.of ha) (AH (j:=2) rfl) ?_;walk_at "w";refine A9 (SqL.of e2) ?_;rw [Aa1];walk_at "w";refine AK (by show (0:Int)<(d.th.length:Nat);omega) ?_;walk_at "w";obtain ⟨en,een,en1,en2⟩:=P8 (M:=M) h1';rw [een];refine AF (v:= .ref a4) (SqL.of ha) (AH (j:=4) rfl) ?_;walk_at "w";refine A9 (SqL.of e4) ?_;rw [l4];walk_at "w";refine AK (by show (0:Int)<(d.td.length:Nat);omega) ?_;walk_at "w";obtain ⟨pn,epn,pn1,pn2⟩:=P8 (M:=M) p1';rw [epn];refine AK ⟨by decide,by decide⟩ ?_;walk_at "w";refine AK (by show (0:Int)<(d.sh:Nat)+1;omega) ?_;obtain ⟨sn,esn,sn2⟩:∃ s:Nat,M / 61%(((d.sh:Nat):Int)+1)=(s:Nat)/\s<=d.sh:=by
      have h0:=Ae4 (M / 61) (show ((d.sh:Nat):Int)+1≠0 by omega);have h1:=Ae5 (M / 61) (show (0:Int)<((d.sh:Nat):Int)+1 by omega);exact ⟨(M / 61%(((d.sh:Nat):Int)+1)).toNat,by omega,by omega⟩
    rw [esn];walk_at "w";refine AK ⟨by decide,by decide⟩ ?_;walk_at "w";refine AK ⟨by omega,by omega,by decide⟩ ?_;walk_at "w";refine AK (F8 d.tr) ?_;walk_at "w";rw [Hy];refine ⟨_,d.tr,rfl,by omega,λ H1 p1 s1 n1 g1=> ?_⟩;have fr:Rise d.tr (EX (M / 61%(2 ^ d.tr:Nat)).toNat d.tr):=C3 _ d.tr;generalize EX (M / 61%(2 ^ d.tr:Nat)).toNat d.tr=feet at g1 fr;walk_at "w";refine AK ⟨by decide,by decide⟩ ?_;walk_at "w";refine AK (by decide) ?_;have c0:=Ae4 (M / 3) (show (26:Int)≠0 by decide);have c1:=Ae5 (M / 3) (show (0:Int)<26 by decide);refine Ma (by decide) (Km c0 c1) ?_;have cz:=Mm c0 c1;have ez:(⟨#[97+(M / 3%26).toNat]⟩:Str)=PR (M / 3%26):=rfl
    try rw [ez]
    generalize PR (M / 3%26)=col at cz ⊢;walk_at "w";have rf:∀ H2,Same H1 H2->Rp H2 (FN H) 1 (.ref p1) (dL feet):=λ H2 s=>Be (s _ _ g1) n1 (by have:=fr.len;omega);refine ED (λ _=> ?_) (λ z2=> ?_)
    · walk_at "w";intro p np;exact k _ p (some (.th en sn)) (s1.trans (Aj np)) (s1.free np) (Il Af (.str _) (.int _) (.int _)) λ e h=>by cases h;exact ⟨en1,en2,sn2⟩
    walk_at "w";refine ED (λ _=> ?_) (λ z4=> ?_)
    · walk_at "w";refine AK (by show (0:Int)<(d.tr:Nat);omega) ?_;walk_at "w";obtain ⟨tn,etn,tn1,tn2⟩:=P8 (M:=M) t1';rw [etn];refine AK ⟨by decide,by decide⟩ ?_;walk_at "w";refine AK ⟨by omega,by omega,by decide⟩ ?_;walk_at "w";refine AK (F8 d.sh) ?_;walk_at "w";rw [Hy];refine ⟨_,d.sh,rfl,by omega,λ H2 p2 s2' n2 g2=> ?_⟩;have fs:Rise d.sh (EX (M / 61%(2 ^ d.sh:Nat)).toNat d.sh):=C3 _ d.sh;generalize EX (M / 61%(2 ^ d.sh:Nat)).toNat d.sh=sl at g2 fs;walk_at "w";intro p np;have s02:=s1.trans s2';exact k _ p (some (.ti tn sl)) (s02.trans (Aj np)) (s02.free np) (Il Af (.str _) (.int _) (Be (Aj np _ _ g2) (s1.free n2) (by have:=fs.len;omega))) λ e h=>by cases h;exact ⟨tn1,tn2,fs⟩
    walk_at "w";refine ED (λ _=> ?_) (λ z6=> ?_)
    · walk_at "w";intro p np;exact k _ p (some (.td pn feet)) (s1.trans (Aj np)) (s1.free np) (Il Af (.str _) (.int _) (rf _ (Aj np))) λ e h=>by cases h;exact ⟨pn1,pn2,fr⟩
    walk_at "v";refine ifJ (λ σ' G=>σ'=[some (.ref a),some (.int x),some (nV d.sh),some (nV d.tr),some (.int kd),some (.int M),some (nV en),some (nV pn),some (nV sn),some (.ref p1),some (.str col)]/\G=H1) ?_ (λ key=> ?_)
    case refine_2=>
      walk_at "w";refine ED (λ _=> ?_) (λ _=>B2 (BM (key _ _ ⟨rfl,rfl⟩)));walk_at "w";refine AF (v:= .ref a2) (SqL.of (s1 _ _ ha)) (AH (j:=2) rfl) ?_;walk_at "w";refine A9 (SqL.of (s1 _ _ e2)) ?_;rw [Aa1];walk_at "w";refine ED (λ l60=> ?_) (λ _=>BM (key _ _ ⟨rfl,rfl⟩));walk_at "w";refine AF (v:= .ref a2) (SqL.of (s1 _ _ ha)) (AH (j:=2) rfl) ?_;walk_at "w";refine A9 (SqL.of (s1 _ _ e2)) ?_;rw [Aa1];walk_at "w";refine AK (by show (0:Int)<(d.th.length:Nat)+1;omega) ?_;obtain ⟨e',ee',e1',e2'⟩:=P8 (M:=M) (n:=d.th.length+1) (by omega);rw [show (((d.th.length:Nat):Int)+1)=((d.th.length+1:Nat):Int) by omega];walk_at "w";rw [ee'];intro p np;exact k _ p (some (.pe e' sn col)) (s1.trans (Aj np)) (s1.free np) (M8 Af (.str _) (.int _) (.int _) (.str _)) λ e h=>by cases h;exact ⟨e1',e2',sn2,cz,by omega⟩
    rintro _ G ⟨rfl,eG⟩;rw [eG];clear eG;walk_at "v";refine ifJ (λ σ' G=>σ'=[some (.ref a),some (.int x),some (nV d.sh),some (nV d.tr),some (.int kd),some (.int M),some (nV en),some (nV pn),some (nV sn),some (.ref p1),some (.str col)]/\G=H1) ?_ (λ key=> ?_)
    case refine_2=>
      walk_at "w";refine ED (λ _=> ?_) (λ _=>B2 (BM (key _ _ ⟨rfl,rfl⟩)));walk_at "w";refine AF (v:= .ref a4) (SqL.of (s1 _ _ ha)) (AH (j:=4) rfl) ?_;walk_at "w";refine A9 (SqL.of (s1 _ _ e4)) ?_;rw [l4];walk_at "w";refine ED (λ l60=> ?_) (λ _=>BM (key _ _ ⟨rfl,rfl⟩));walk_at "w";refine AF (v:= .ref a4) (SqL.of (s1 _ _ ha)) (AH (j:=4) rfl) ?_;walk_at "w";refine A9 (SqL.of (s1 _ _ e4)) ?_;rw [l4];walk_at "w";refine AK (by show (0:Int)<(d.td.length:Nat)+1;omega) ?_;obtain ⟨e',ee',e1',e2'⟩:=P8 (M:=M) (n:=d.td.length+1) (by omega);rw [show (((d.td.length:Nat):Int)+1)=((d.td.length+1:Nat):Int) by omega];walk_at "w";rw [ee'];intro p np;exact k _ p (some (.pp e' feet col)) (s1.trans (Aj np)) (s1.free np) (M8 Af (.str _) (.int _) (rf _ (Aj np)) (.str _)) λ e h=>by cases h;exact ⟨e1',e2',fr,cz,by omega⟩
    rintro _ G ⟨rfl,eG⟩;rw [eG];clear eG;walk_at "v";refine ifJ (λ σ' G=>σ'=[some (.ref a),some (.int x),some (nV d.sh),some (nV d.tr),some (.int kd),some (.int M),some (nV en),some (nV pn),some (nV sn),some (.ref p1),some (.str col)]/\G=H1) ?_ (λ key=> ?_)
    case refine_2=>
      walk_at "w";refine ED (λ _=> ?_) (λ _=>B2 (BM (key _ _ ⟨rfl,rfl⟩)));walk_at "w";refine AF (v:= .ref a2) (SqL.of (s1 _ _ ha)) (AH (j:=2) rfl) ?_;walk_at "w";refine A9 (SqL.of (s1 _ _ e2)) ?_;rw [Aa1];walk_at "w";refine ED (λ l1=> ?_) (λ _=>BM (key _ _ ⟨rfl,rfl⟩));walk_at "w";intro p np;exact k _ p (some (.te en)) (s1.trans (Aj np)) (s1.free np) (B8 Af (.str _) (.int _)) λ e h=>by cases h;exact ⟨en1,en2,by omega⟩
    rintro _ G ⟨rfl,eG⟩;rw [eG];clear eG;walk_at "v";refine ifJ (λ σ' G=>σ'=[some (.ref a),some (.int x),some (nV d.sh),some (nV d.tr),some (.int kd),some (.int M),some (nV en),some (nV pn),some (nV sn),some (.ref p1),some (.str col)]/\G=H1) ?_ (λ key=> ?_)
    case refine_2=>
      walk_at "w";refine ED (λ _=> ?_) (λ _=>B2 (BM (key _ _ ⟨rfl,rfl⟩)));walk_at "w";refine AF (v:= .ref a4) (SqL.of (s1 _ _ ha)) (AH (j:=4) rfl) ?_;walk_at "w";refine A9 (SqL.of (s1 _ _ e4)) ?_;rw [l4];walk_at "w";refine ED (λ l1=> ?_) (λ _=>BM (key _ _ ⟨rfl,rfl⟩));walk_at "w";intro p np;exact k _ p (some (.tp pn)) (s1.trans (Aj np)) (s1.free np) (B8 Af (.str _) (.int _)) λ e h=>by cases h;exact ⟨pn1,pn2,by omega⟩
    rintro _ G ⟨rfl,eG⟩;rw [eG];clear eG;walk_at "w";refine ED (λ _=> ?_) (λ _=> ?_)
    · walk_at "w";row_lines H1 x2;walk_at "w";refine AK ⟨by decide,by decide⟩ ?_;walk_at "w";refine AK (by decide) ?_;obtain ⟨w',ew⟩:∃ w':Bool,M / 2%2=if w'=true then 1 else 0:=by
        rcases (show M / 2%2=0\/M / 2%2=1 by omega) with z | z
        · exact ⟨false,z⟩
        · exact ⟨true,z⟩
      rw [ew];refine AF (v:= .str (Es w')) (SqL.of g2) (by cases w' <;> rfl) ?_;walk_at "w";row_lines H2 x3;walk_at "w";refine AK ⟨by decide,by decide⟩ ?_;walk_at "w";refine AK (by decide) ?_;rw [ew];refine AF (v:=nV (if w'=true then pn else en)) (SqL.of g3) (by cases w' <;> rfl) ?_;walk_at "w";intro p np;have s03:=s1.trans (s2.trans s3);exact k _ p (some (.co w' (if w'=true then pn else en) col)) (s03.trans (Aj np)) (s03.free np) (M8 Af (.str _) (.str _) (.int _) (.str _)) λ e h=>by
        cases h;cases w' with
        | true=>exact ⟨pn1,pn2,cz⟩
        | false=>exact ⟨en1,en2,cz⟩
    · walk_at "w";intro p np;exact k _ p none (s1.trans (Aj np)) (s1.free np) (Vn Af (.str _)) λ e h=>by cases h
theorem PY {d:Dt} (r:Rp H F n v d):Rp H (λ a=>F a/\H a≠none) n v d:=by
  induction r with
  | non=>exact .non
  | bl b=>exact .bl b
  | int i=>exact .int i
  | str z=>exact .str z
  | lst h f b l e ih=>exact .lst h ⟨f,by rw [h];simp⟩ b l ih
  | tup h b l e ih=>exact .tup h b l ih
theorem P9 {σ0:L2.St} {st:Nat->L2.St} {te:TE} (S:SrcOk J g σ0 H n st) (hD:H D=none) (hn:n<=100000)
    (he:∀ i H' (R:VK),i<n->Same H H'->(∀ H3 y,Same H' H3->Rp H3 (FN H') m y (ds.getD i .non)->R y H3)->te (st i) H' R)
    (hd:∀ H' ys (L:Nat->Addr->Prop),Same H H'->H' D=some (.lst ys)->ys.length=n->(∀ i j a,L i a->L j a->i=j)->(∀ j a,L j a->H a=none/\a≠D)->(∀ j,j<n->Rp H' (L j) m (ys.getD j .non) (ds.getD j .non))->Q (.ref D) H'):
    EV J σ0 g LX te Q H D:=by
  refine ⟨λ i k ys H'=>k=n - i/\i<=n/\Same H H'/\H' D=some (.lst ys)/\ys.length=i/\∃ L:Nat->Addr->Prop,(∀ i j a,L i a->L j a->i=j)/\(∀ j a,L j a->H a=none/\a≠D/\H' a≠none)/\∀ j,j<i->Rp H' (L j) m (ys.getD j .non) (ds.getD j .non),
    ⟨_,rfl,Ad3 _,Ci (Same.refl _) hD,Af,rfl,λ _ _=>False,λ _ _ _ h=>h.elim,λ _ _ h=>h.elim,λ j h=>absurd h (Nat.not_lt_zero _)⟩,?_⟩
  rintro i k ys H1 ⟨rfl,hi,s1,hl,len,L,dj,ins,el⟩;by_cases hlt:i<n
  · refine .inr ⟨S.go i H1 hlt s1,λ ys' H'=>Same H H'/\H' D=some (.lst ys')/\ys'.length=i+1/\∃ L:Nat->Addr->Prop,(∀ i j a,L i a->L j a->i=j)/\(∀ j a,L j a->H a=none/\a≠D/\H' a≠none)/\∀ j,j<i+1->Rp H' (L j) m (ys'.getD j .non) (ds.getD j .non),λ ys' H' q=>⟨n - (i+1),by omega,rfl,hlt,q⟩,λ x H2 yy=> ?_⟩;refine S.yld i H1 x H2 _ hlt s1 yy λ H3 s3=>⟨S.kp i hlt,?_⟩;unfold LX;refine DI ?_;have hl3:H3 D=some (.lst ys):=s3 _ _ hl;refine he i H3 _ hlt (s1.trans s3) λ H5 y s5 ry=> ?_;have hl5:=s5 _ _ hl3;have out:∀ j a,L j a->H3 a≠none:=λ j a h z=>by
      have:=(ins j a h).2.2;cases e:H1 a with
      | none=>exact this e
      | some o=>rw [s3 _ _ e] at z;cases z
    refine ⟨hl5,Nat.lt_of_le_of_lt (by omega:ys.length<=100000) (by decide),Ci (s1.trans (s3.trans s5)) hD,Af,by rw [Ac0,len];rfl,λ j a=>(j<i/\L j a)\/(j=i/\H3 a=none/\H5 a≠none),?_,?_,?_⟩
    · rintro p q a (⟨h1,h2⟩ | ⟨h1,h2,h3⟩) (⟨g1,g2⟩ | ⟨g1,g2,g3⟩)
      · exact dj p q a h2 g2
      · exact absurd g2 (out p a h2)
      · exact absurd h2 (out q a g2)
      · omega
    · rintro j a (⟨h1,h2⟩ | ⟨h1,h2,h3⟩)
      · obtain ⟨q1,q2,q3⟩:=ins j a h2;refine ⟨q1,q2,?_⟩;rw [Ai q2];intro z;cases e:H1 a with
        | none=>exact q3 e
        | some o=>rw [s5 _ _ (s3 _ _ e)] at z;cases z
      · have nD:a≠D:=λ z=>by rw [z,hl3] at h2;cases h2
        exact ⟨s1.free (s3.free h2),nD,by rw [Ai nD];exact h3⟩
    · intro j hj;rcases Ah4 j i with z | z
      · rw [show (ys++[y]).getD j .non=ys.getD j .non by rw [Aa2,Aa2,Af0 (by omega)]];exact (((el j z).same (s3.trans s5)).mono (λ _ _ e _=>e) λ a h=> .inl ⟨z,h⟩).off hl5 (by
          rintro (⟨_,h⟩ | ⟨h,_⟩)
          · exact (ins _ _ h).2.1 rfl
          · omega)
      · have ej:j=i:=by omega
        subst ej;rw [show (ys++[y]).getD j .non=y by rw [Aa2,Ae8 (by omega),len,Nat.sub_self];rfl];exact ((PY ry).mono (λ _ _ e _=>e) λ a h=> .inr ⟨rfl,h.1,h.2⟩).off hl5 (by
          rintro (⟨h,_⟩ | ⟨_,h,_⟩)
          · omega
          · rw [hl3] at h;cases h)
  · have e:i=n:=by omega
    subst e;exact .inl ⟨S.stop H1 s1,hd H1 ys L s1 hl len dj (λ j a h=>⟨(ins j a h).1,(ins j a h).2.1⟩) el⟩
def dBk (r:Bk):Dt:= .tup [dL r.1,dL r.2]
def dBh (d:Dr) (dd:Dd):Dt:= .tup [dPl (dd.go d),dBk (dd.told d),dBk (dd.back d)]
structure Cp (H H1:Hp) (L:Nat->Addr->Prop) (d:Dr) (D b2 a3 a4 b5 b6:Addr) (u3 u4:List V):Prop where
  dj:∀ i j a,L i a->L j a->i=j
  fr:∀ j a,L j a->H a=none/\a≠D
  hD:H1 D=some (.lst [nV d.sh,nV d.tr, .ref b2, .ref a3, .ref a4, .ref b5, .ref b6])
  h2:H1 b2=some (.lst (d.th.map nV))
  h3:H1 a3=some (.lst u3)
  h4:H1 a4=some (.lst u4)
  h5:H1 b5=some (.lst (d.wa.map V.str))
  h6:H1 b6=some (.lst (d.we.map V.str))
  l2:L 2 b2
  l3:L 3 a3
  l4:L 4 a4
  l5:L 5 b5
  l6:L 6 b6
  r3:LLs H1 (λ a=>L 3 a/\a≠a3) u3 d.ti
  r4:LLs H1 (λ a=>L 4 a/\a≠a4) u4 d.td
theorem LLs.at (h:LLs H F vs ls):∀ v∈vs,∃ b,∃ l:List Nat,v= .ref b/\H b=some (.lst (l.map nV)):=by
  induction h with
  | nil=>intro v hv;cases hv
  | cons h t ih=>
    intro v hv;rcases Ab2.mp hv with z | z
    · obtain ⟨b,e,g,_,_⟩:=B9 h;exact ⟨b,_,z.trans e,g⟩
    · exact ih v z
theorem LLs.but {us:List V} (h:LLs H F vs ls) (g:H a=some (.lst us)) (sub:∀ v∈vs,v∈us) (r:∀ v∈us,∃ b,v= .ref b):LLs H (λ q=>F q/\q≠a) vs ls:=by
  induction h with
  | nil=>exact .nil
  | cons h t ih=>
    refine .cons ?_ (ih λ v hv=>sub v (Ac9 _ hv));obtain ⟨b,e,gb,fb,lb⟩:=B9 h;subst e;refine Be gb ⟨fb,λ z=> ?_⟩ lb;have m:=sub _ Ad1;rw [z] at gb m;rw [g] at gb;injection gb with gb;injection gb with gb;rw [gb] at m;obtain ⟨n,_,e⟩:=Ac3.mp m;cases e
theorem LLs.ofF (r:Rp H F n v (dLL ls)):∃ a vs,v= .ref a/\H a=some (.lst vs)/\F a/\LLs H (λ q=>F q/\q≠a) vs ls:=by
  obtain ⟨m,a,vs,em,rfl,h,f,l,b,el⟩:=Dn r;have L:LLs H F vs ls:=by
    clear h b r
    induction ls generalizing vs with
    | nil=>
      cases vs with
      | nil=>exact .nil
      | cons v vs=>simp at l
    | cons x ls ih=>
      cases vs with
      | nil=>simp at l
      | cons v vs=>
        have r0:Rp H F m v (dL x):=el 0 (by simp);obtain ⟨q,e,g,fq,lq⟩:=B9 r0;exact .cons (e▸Be g fq lq) (ih vs (by simpa using l) λ i hi=>el (i+1) (by simpa using hi))
  exact ⟨a,vs,rfl,h,f,L.but h (λ v hv=>hv) λ v hv=>let ⟨b,_,e,_⟩:=L.at v hv;⟨b,e⟩⟩
theorem W3 {L:Nat->Addr->Prop} {d:Dr} (hD:H1 D=some (.lst ys)) (l:ys.length=7) (dj:∀ i j a,L i a->L j a->i=j) (fr:∀ j a,L j a->H a=none/\a≠D)
    (el:∀ j,j<7->Rp H1 (L j) 3 (ys.getD j .non) (([dN d.sh,dN d.tr,dL d.th,dLL d.ti,dLL d.td,dS d.wa,dS d.we]:List Dt).getD j .non)):∃ b2 a3 a4 b5 b6 u3 u4,Cp H H1 L d D b2 a3 a4 b5 b6 u3 u4:=by
  obtain ⟨v0,w0,rfl,l0⟩:=AQ l;obtain ⟨v1,w1,rfl,l1⟩:=AQ l0;obtain ⟨v2,w2,rfl,l2⟩:=AQ l1;obtain ⟨v3,w3,rfl,l3⟩:=AQ l2;obtain ⟨v4,w4,rfl,l4⟩:=AQ l3;obtain ⟨v5,w5,rfl,l5⟩:=AQ l4;obtain ⟨v6,w6,rfl,l6⟩:=AQ l5;have e6:w6=[]:=List.length_eq_zero_iff.mp l6;subst e6;have q0:Rp H1 (L 0) 3 v0 (dN d.sh):=el 0 (by decide);have q1:Rp H1 (L 1) 3 v1 (dN d.tr):=el 1 (by decide);obtain ⟨b2,e2,g2,f2,_⟩:=B9 (show Rp H1 (L 2) 3 v2 (dL d.th) from el 2 (by decide));obtain ⟨a3,u3,e3,g3,f3,k3⟩:=LLs.ofF (show Rp H1 (L 3) 3 v3 (dLL d.ti) from el 3 (by decide));obtain ⟨a4,u4,e4,g4,f4,k4⟩:=LLs.ofF (show Rp H1 (L 4) 3 v4 (dLL d.td) from el 4 (by decide));obtain ⟨b5,e5,g5,f5,_⟩:=GW (show Rp H1 (L 5) 3 v5 (dS d.wa) from el 5 (by decide));obtain ⟨b6,e6,g6,f6,_⟩:=GW (show Rp H1 (L 6) 3 v6 (dS d.we) from el 6 (by decide));cases q0;cases q1;subst e2 e3 e4 e5 e6;exact ⟨b2,a3,a4,b5,b6,u3,u4,dj,fr,hD,g2,g3,g4,g5,g6,f2,f3,f4,f5,f6,k3,k4⟩
theorem LLs.mono (h:LLs H F vs ls) (k:∀ a o,H a=some o->F a->H' a=some o) (f:∀ a,F a->F' a):LLs H' F' vs ls:=by
  induction h with
  | nil=>exact .nil
  | cons h t ih=>
    obtain ⟨b,rfl,g,fb,lb⟩:=B9 h;exact .cons (Be (k _ _ g fb) (f _ fb) lb) ih
theorem Cp.parts {L:Nat->Addr->Prop} {d d':Dr} {b2 a3 a4 b5 b6:Addr} {u3 u4 w3 w4:List V} (C:Cp H H1 L d D b2 a3 a4 b5 b6 u3 u4) (hH:H D=none) (ok:DrOk d') (es:d'.sh=d.sh) (et:d'.tr=d.tr)
    (kD:H2 D=some (.lst [nV d.sh,nV d.tr, .ref b2, .ref a3, .ref a4, .ref b5, .ref b6])) (g2:H2 b2=some (.lst (d'.th.map nV))) (g3:H2 a3=some (.lst w3)) (k3:LLs H2 (FN H) w3 d'.ti) (g4:H2 a4=some (.lst w4)) (k4:LLs H2 (FN H) w4 d'.td) (g5:H2 b5=some (.lst (d'.wa.map V.str))) (g6:H2 b6=some (.lst (d'.we.map V.str))):
    Rp H2 (FN H) 3 (.ref D) (dPl d'):=by
  have:=ok.h2;have:=ok.p2;have:=ok.wl;have:=ok.fl;have:=ok.il;have:=ok.t2;unfold dPl;rw [es,et];exact Nk kD hH (.int _) (.int _) (Be g2 (C.fr _ _ C.l2).1 (by omega)) (k3.rp g3 (by omega) (C.fr _ _ C.l3).1) (k4.rp g4 (by omega) (C.fr _ _ C.l4).1) (Ji g5 (C.fr _ _ C.l5).1 (by omega)) (Ji g6 (C.fr _ _ C.l6).1 (by omega))
theorem Cp.ne {L:Nat->Addr->Prop} {d:Dr} {b2 a3 a4 b5 b6:Addr} {u3 u4:List V} (C:Cp H H1 L d D b2 a3 a4 b5 b6 u3 u4) (ha:L i a) (hb:L j b) (n:i≠j):a≠b:=λ z=>n (C.dj i j a ha (z▸hb))
inductive RpL (H:Hp) (F:Addr->Prop) (n:Nat):List V->List Dt->Prop where
  | nil:RpL H F n [] []
  | cons {v:V} {vs:List V} {d:Dt} {ds:List Dt} (h:Rp H F n v d) (t:RpL H F n vs ds):RpL H F n (v::vs) (d::ds)
theorem RpL.inv {d:Dt} (r:RpL H F n vs (d::ds)):∃ v us,vs=v::us/\Rp H F n v d/\RpL H F n us ds:=by
  cases r with
  | cons h t=>exact ⟨_,_,rfl,h,t⟩
theorem RpL.inv0 (r:RpL H F n vs []):vs=[]:=by
  cases r;rfl
theorem Oo {H:Hp} {F:Addr->Prop} {n:Nat}:∀ {vs:List V} {ds:List Dt},vs.length=ds.length->(∀ (i:Nat) (v:V) (d:Dt),vs[i]?=some v->ds[i]?=some d->Rp H F n v d)->RpL H F n vs ds
  | [],[],_,_=> .nil
  | [],_::_,l,_=>by simp at l
  | _::_,[],l,_=>by simp at l
  | v::vs,d::ds,l,e=> .cons (e 0 v d rfl rfl) (Oo (by simpa using l) λ i v d h1 h2=>e (i+1) v d h1 h2)
theorem HI (r:Rp H F (n+1) v (.tup ds)):∃ a vs,v= .ref a/\H a=some (.tup vs)/\RpL H F n vs ds:=by
  cases r with
  | tup h b l e=>exact ⟨_,_,rfl,h,Oo l e⟩
def Q8 (H:Hp) (F:Addr->Prop) (t:Addr):Option Dd->Prop
  | some (.th e s)=>H t=some (.tup [.str "thread",nV e,nV s])
  | some (.ti k l)=>∃ a,F a/\H a=some (.lst (l.map nV))/\l.length<=100000/\H t=some (.tup [.str "tie",nV k, .ref a])
  | some (.td k l)=>∃ a,F a/\H a=some (.lst (l.map nV))/\l.length<=100000/\H t=some (.tup [.str "tread",nV k, .ref a])
  | some (.co w n z)=>H t=some (.tup [.str "colour", .str (Es w),nV n, .str z])
  | some (.pe e s z)=>H t=some (.tup [.str "put_end",nV e,nV s, .str z])
  | some (.pp k l z)=>∃ a,F a/\H a=some (.lst (l.map nV))/\l.length<=100000/\H t=some (.tup [.str "put_pick",nV k, .ref a, .str z])
  | some (.te e)=>H t=some (.tup [.str "take_end",nV e])
  | some (.tp p)=>H t=some (.tup [.str "take_pick",nV p])
  | none=>H t=some (.tup [.str "undo"])
theorem M5 {u:V} {dd:Option Dd} (r:Rp H F (n+1) u (dDd dd)):∃ t,u= .ref t/\Q8 H F t dd:=by
  cases dd with
  | none=>
    obtain ⟨t,vs,rfl,h,q⟩:=HI r;obtain ⟨v0,_,rfl,r0,q⟩:=q.inv;cases q.inv0;cases r0;exact ⟨t,rfl,h⟩
  | some dd=>
    cases dd
    all_goals
      obtain ⟨t,vs,rfl,h,q0⟩:=HI r;obtain ⟨v0,_,rfl,r0,q1⟩:=q0.inv;obtain ⟨v1,_,rfl,r1,q2⟩:=q1.inv;cases r0;cases r1;refine ⟨t,rfl,?_⟩
    all_goals try (cases q2.inv0;exact h)
    all_goals obtain ⟨v2,_,rfl,r2,q3⟩:=q2.inv
    all_goals try (cases q3.inv0;cases r2;exact h)
    all_goals try (cases q3.inv0;obtain ⟨a,rfl,g,f,b⟩:=B9 r2;exact ⟨a,f,g,b,h⟩)
    all_goals obtain ⟨v3,_,rfl,r3,q4⟩:=q3.inv
    all_goals cases q4.inv0
    all_goals cases r3
    all_goals first | (cases r2;exact h) | (obtain ⟨a,rfl,g,f,b⟩:=B9 r2;exact ⟨a,f,g,b,h⟩)
theorem B3 {K:PySem.W.Frag} {z a b:Str} {r:Bool} (g:H p=some (.tup [.str a, .str b])) (e:inV (.str z) [.str a, .str b]=r) (h:Q (.bl r) H):rIn K false (.str z) (.ref p) H Q:=⟨p,_,rfl, .inr (SqT.of g),rfl,rfl,by rw [e];exact h⟩
theorem IS:AR [] [((.inr "thread":Key),V.int 2),(.inr "tie", .int 3),(.inr "tread", .int 4)]=[((.inr "thread":Key),V.int 2),(.inr "tie", .int 3),(.inr "tread", .int 4)]:=by kernel_rfl
theorem Hz {e:Nat} (h1:1<=e) (h2:e<=n):ixN n (((e:Nat):Int) - 1)=some (e - 1):=by
  rw [show ((e:Nat):Int) - 1=((e - 1:Nat):Int) by omega];exact SA (by omega)
theorem Qv {e:Nat} (h1:1<=e) (h2:e<=ns.length):atI (ns.map nV) (((e:Nat):Int) - 1)=some (nV (ns.getD (e - 1) 0)):=by
  rw [show ((e:Nat):Int) - 1=((e - 1:Nat):Int) by omega];refine AH ?_;rw [Ac4,Aa4 (by omega),Aa2,Aa4 (by omega)];rfl
theorem Kt {d:Dr} {e s:Nat}:(Dd.told d (.th e s)).2=if d.th.getD (e - 1) 0=s then [] else [e]:=rfl
theorem Tq {d:Dr} {e s:Nat}:(Ab5 (if (!decide (((d.th.getD (e - 1) 0:Nat):Int)=(s:Nat)))=true then (1:Int) else 0).toNat [nV e]).flatten=(Dd.told d (.th e s)).2.map nV:=by
  rw [Kt];by_cases z:d.th.getD (e - 1) 0=s
  · rw [if_pos z,z,decide_eq_true rfl];rfl
  · rw [if_neg z,decide_eq_false (by omega)];rfl
theorem Nc {α:Type} (l:List α) (G:α->Nat):(l.map λ i=>((G i:Nat):Int)).map V.int=(l.map G).map nV:=by rw [Ae1,Ae1];rfl
theorem OE {K:PySem.W.Frag} {as bs:List Nat} (c:H l=some (.lst (as.map nV))) (d:H p=some (.lst (bs.map nV))) (h:Q (.bl (!decide (as=bs))) H):LT K true (.ref l) (.ref p) H Q:=by
  have e:∀ ns:List Nat,ns.map nV=(ns.map λ n:Nat=>(n:Int)).map V.int:=λ ns=>by rw [Ae1];rfl
  rw [e] at c d;refine QY (SqL.of c) (SqL.of d) ?_;have q:decide (as.map (λ n:Nat=>(n:Int))=bs.map λ n:Nat=>(n:Int))=decide (as=bs):=by
    rw [decide_eq_decide];constructor
    · intro z;exact List.map_inj_right (λ a b h=>by omega) |>.mp z
    · intro z;rw [z]
  rw [q];exact h
theorem GG (ms ns:List Nat):(CC ms ns).length<=ms.length:=by
  unfold CC;rw [Aa1];exact Ac5 (Af9 _ _) (by simp)
theorem LG {d d':Dr} (ok:DrOk d) (ok':DrOk d') (es:d'.sh=d.sh) (el:d'.td.length=d.td.length):((Aa9 d.td.length).filter λ i=> !decide (lft d i=lft d' i)).map (· + 1)=CC (GR d) (GR d'):=by
  unfold CC;rw [Aa1];congr 1;refine List.filter_congr λ i hi=> ?_;have hi:=Ae9.mp hi;rw [AU (CQ d.ti) d.td i 0 [] hi,AU (CQ d'.ti) d'.td i 0 [] (by omega)];congr 1;rw [decide_eq_decide];constructor
  · intro e;refine Nat.eq_of_testBit_eq λ s=> ?_;rw [CY ok hi,CY ok' (by omega)];have m:∀ d:Dr,s+1∈lft d i↔(s+1<d.sh+1/\isL d i (s+1)=true):=λ d=>by unfold lft;rw [Ag0,Ae9]
    have m1:=m d;have m2:=m d';rw [e] at m1;rcases Ah4 s d.sh with z | z
    · rw [Ad0];exact ⟨λ h=>(m2.mp (m1.mpr ⟨by omega,h⟩)).2,λ h=>(m1.mp (m2.mpr ⟨by omega,h⟩)).2⟩
    · rw [<-CY ok hi, <-CY ok' (by omega:i<d'.td.length),Ae6 (Ab3 (EJ ok _) (Ae7 (by decide) z)),Ae6 (Ab3 (EJ ok' _) (Ae7 (by decide) (by omega)))]
  · intro e;unfold lft;rw [es];refine List.filter_congr λ s _=> ?_;cases s with
    | zero=>rw [Ib ok hi,Ib ok' (by omega)]
    | succ s=>rw [<-CY ok hi, <-CY ok' (by omega),e]
theorem Gb {H8 HA HB HC HE HF HG:Hp} {pA pB pC pE pF pG pI:Addr} {d:Dr} {dd:Dd} {r1 r2 q1 q2:List Nat} (k:∀ H' p,Same H H'->H p=none->Rp H' (FN H) 4 (.ref p) (dBh d dd)->Q (.ref p) H') (e1:dd.told d=(r1,r2)) (e2:dd.back d=(q1,q2)) (s08:Same H H8) (rD:Rp H8 (FN H) 3 (.ref D) (dPl (dd.go d)))
    (sA:Same H8 HA) (gA:HA pA=some (.lst (r1.map nV))) (nA:H8 pA=none) (sB:Same HA HB) (gB:HB pB=some (.lst (r2.map nV))) (nB:HA pB=none) (sC:Same HB HC) (gC:HC pC=some (.tup [.ref pA, .ref pB])) (sE:Same HC HE) (gE:HE pE=some (.lst (q1.map nV))) (nE:HC pE=none) (sF:Same HE HF) (gF:HF pF=some (.lst (q2.map nV))) (nF:HE pF=none) (sG:Same HF HG) (gG:HG pG=some (.tup [.ref pE, .ref pF])) (nI:HG pI=none)
    (l1:r1.length<=100000:=by simp) (l2:r2.length<=100000:=by simp) (l3:q1.length<=100000:=by simp) (l4:q2.length<=100000:=by simp):Q (.ref pI) (upd HG pI (.tup [.ref D, .ref pC, .ref pG])):=by
  have sI:=Aj (o:=HO.tup [.ref D, .ref pC, .ref pG]) nI;have s8G:=sA.trans (sB.trans (sC.trans (sE.trans (sF.trans sG))));have s0G:=s08.trans s8G;refine k _ pI (s0G.trans sI) (s0G.free nI) ?_;unfold dBh dBk;rw [e1,e2];exact Il Af ((rD.same s8G).same sI) (B8 (sI _ _ ((sE.trans (sF.trans sG)) _ _ gC)) (Be (sI _ _ ((sB.trans (sC.trans (sE.trans (sF.trans sG)))) _ _ gA)) (s08.free nA) l1) (Be (sI _ _ ((sC.trans (sE.trans (sF.trans sG))) _ _ gB)) ((s08.trans sA).free nB) l2)) (B8 (sI _ _ gG) (Be (sI _ _ ((sF.trans sG) _ _ gE)) ((s08.trans (sA.trans (sB.trans sC))).free nE) l3) (Be (sI _ _ (sG _ _ gF)) ((s08.trans (sA.trans (sB.trans (sC.trans sE)))).free nF) l4))
theorem Ht {e:Nat} (h1:1<=e) (h2:e<=n):seqIndex? (((e:Nat):Int) - 1) n=some (e - 1):=by
  unfold seqIndex?;rw [show ((e:Nat):Int) - 1=((e - 1:Nat):Int) by omega];simp;omega
theorem Qe (h:i<ns.length):(ns.map nV)[i]?=some (nV (ns.getD i 0)):=by
  rw [Ac4,Aa4 h,Aa2,Aa4 h];rfl
theorem MJ {ns:List Str} {z:Str} (h:i<ns.length):(ns.map V.str)[i]?=some (.str (ns.getD i z)):=by
  rw [Ac4,Aa4 h,Aa2,Aa4 h];rfl
theorem Qs {ns:List V} (h:i<ns.length):ns[i]?=some (ns.getD i .non):=by
  rw [Aa2,Aa4 h];rfl
def EZ:Sp:=λ vs H Q _=>∃ v u d dd F,vs=[v,u]/\Rp H F 3 v (dPl d)/\DrOk d/\Rp H FT 2 u (dDd (some dd))/\dd.ok d/\∀ H' p,Same H H'->H p=none->Rp H' (FN H) 4 (.ref p) (dBh d dd)->Q (.ref p) H'
abbrev Dv:Stmt:=top 64
theorem sc__law_behind:FnScope ["_law_parts","_law_deed_here","_law_after","_law_word","_law_which","_law_ends","_law_old","_law_new","_law_picks"] ["_law_parts","_law_deed_here"] (Ah Dv):=⟨rfl,rfl,rfl,by decide +kernel,rfl,by decide +kernel,by decide +kernel⟩
theorem Im (F:Fun K "_law_behind" "_law_behind" Dv f fd) (T:Txt K mg c) (c__law_copied:CallF P w K mg base "_law_copied" (4+1) ["_law_thing"] (BE 4)) (c__law_lifts:CallF P w K mg base "_law_lifts" 1 ["_law_parts"] Du):FnOk P w K mg base CX0 6 f fd ["_law_parts","_law_deed_here"] EZ:=by
  refine F.ok sc__law_behind (λ vs H Q E h=> ?_) (λ cdv A outer s H vs Q E hr h=> ?_)
  · obtain ⟨v,u,d,dd,F,rfl,_⟩:=h;rfl
  · obtain ⟨v,u,d,dd,F',rfl,rv,ok,ru,dk,k⟩:=h;obtain ⟨m,a,a2,v3,v4,a5,a6,em,rfl,_,ha,e2,_,q3,q4,e5,_,e6,_⟩:=Ck rv;cases em;obtain ⟨t,rfl,dt⟩:=M5 ru;have ok':=Dd.go_ok ok dd dk;have hu:=hr.units0;have hu1:=hr.units1;have h2':=ok.h2;have p2':=ok.p2;refine ⟨_,(Ac (CM (i:=2) sc__law_behind.nd rfl (Or.inl rfl) (BJ (K:=K) (pv 0)) (λ _ _ _ _=>AL) (λ _ _ _ _=>(Ae c__law_copied hr (Aa (pv 0) Ab))))
      (Ac (Av (i:=3) sc__law_behind.nd rfl (Or.inl rfl) (Ar (AN (K:=K)) (pv 1) Ad (λ _ _=>rfl)))
      (Ac (AM (Au (SL (K:=K)) (pv 3) (AE (Aa Aq (Aa Aq Ab))) (by with_unfolding_all rfl)) (Ac (Av (i:=4) sc__law_behind.nd rfl (Or.inl rfl) (EC (Au Bg (pv 3) Aq (AC _)) Ad Ad))
      (Ac (AD (C6 (K:=K) PySem.F.plainAttrs_list PySem.F.slot_list_insert PySem.F.type_list_insert J4 (Ar (A6 (K:=K)) (pv 2) (pv 4) (λ _ _=>rfl)) (Aa (Al BH (Ar (AN (K:=K)) (pv 1) Ad (λ _ _=>rfl)) Ad) (Aa (Ae c__law_copied hr (Aa (Ar (AN (K:=K)) (pv 1) Ad (λ _ _=>rfl)) Ab)) Ab))))
      (Ac (AD (C6 (K:=K) PySem.F.plainAttrs_list PySem.F.slot_list_insert PySem.F.type_list_insert J4 (Ar (A6 (K:=K)) (pv 2) (Al AW Ad (Al BB (pv 4) Ad)) (λ _ _=>rfl)) (Aa (Al BH (Ar (AN (K:=K)) (pv 1) Ad (λ _ _=>rfl)) Ad) (Aa (Ar (AN (K:=K)) (pv 1) Ad (λ _ _=>rfl)) Ab))))
      (Ag (Ak (AE (Aa (pv 2) (Aa (EC (Au Bg (pv 4) Ad (AC _)) (AE (Aa (AB Ab) (Aa (AB (Aa (Ar (AN (K:=K)) (pv 1) Ad (λ _ _=>rfl)) Ab)) Ab))) (AE (Aa (AB (Aa (Ar (AN (K:=K)) (pv 1) Ad (λ _ _=>rfl)) Ab)) (Aa (AB Ab) Ab)))) (Aa (AE (Aa (AB Ab) (Aa (AB Ab) Ab))) Ab))))))))) Ay)
      (Ac (AM (Au (SL (K:=K)) (pv 3) (AE (Aa Aq (Aa Aq Ab))) (by with_unfolding_all rfl)) (Ac (Av (i:=4) sc__law_behind.nd rfl (Or.inl rfl) (EC (Au Bg (pv 3) Aq (AC _)) Ad Ad))
      (Ac (AD (C6 (K:=K) PySem.F.plainAttrs_list PySem.F.slot_list_pop PySem.F.type_list_pop LR (Ar (A6 (K:=K)) (pv 2) (pv 4) (λ _ _=>rfl)) (Aa (Al BH (Ar (AN (K:=K)) (pv 1) Ad (λ _ _=>rfl)) Ad) Ab)))
      (Ac (AD (C6 (K:=K) PySem.F.plainAttrs_list PySem.F.slot_list_pop PySem.F.type_list_pop LR (Ar (A6 (K:=K)) (pv 2) (Al AW Ad (Al BB (pv 4) Ad)) (λ _ _=>rfl)) (Aa (Al BH (Ar (AN (K:=K)) (pv 1) Ad (λ _ _=>rfl)) Ad) Ab)))
      (Ag (Ak (AE (Aa (pv 2) (Aa (AE (Aa (AB Ab) (Aa (AB Ab) Ab))) (Aa (EC (Au Bg (pv 4) Ad (AC _)) (AE (Aa (AB Ab) (Aa (AB (Aa (Ar (AN (K:=K)) (pv 1) Ad (λ _ _=>rfl)) Ab)) Ab))) (AE (Aa (AB (Aa (Ar (AN (K:=K)) (pv 1) Ad (λ _ _=>rfl)) Ab)) (Aa (AB Ab) Ab)))) Ab))))))))) Ay)
      (Ac (AM (Au Bg (pv 3) Aq (AC _)) (Ac (Gk (Ar (AN (K:=K)) (pv 1) Ad (λ _ _=>rfl)) (OY (Ar (A6 (K:=K)) (pv 2) (Al AW Ad (As Mn rfl (T.own _ (by decide)) boot_int (Aa (CI Bg (Ar (AN (K:=K)) (pv 1) Ad (λ _ _=>rfl)) Aq (AC _)) Ab))) (λ _ _=>rfl)) (Al BH (Ar (AN (K:=K)) (pv 1) Ad (λ _ _=>rfl)) Ad) Lv))
      (Ag (Ak (AE (Aa (pv 2) (Aa (AE (Aa (AB Ab) (Aa (AB Ab) Ab))) (Aa (AE (Aa (AB Ab) (Aa (AB Ab) Ab))) Ab))))))) Ay)
      (Ac (Av (i:=4) sc__law_behind.nd rfl (Or.inl rfl) (De hu1 (CH (Bb Aq Ad (Bb Aq Ad (Bb Aq Ad CF))) rfl rfl (by simp) (by decide)) (pv 3) (λ _ _=>rfl)))
      (Ac (Gk (Ae c__law_copied hr (Aa (Ar (AN (K:=K)) (pv 1) Ad (λ _ _=>rfl)) Ab)) (OY (Ar (A6 (K:=K)) (pv 2) (pv 4) (λ _ _=>rfl)) (Al BH (Ar (AN (K:=K)) (pv 1) Ad (λ _ _=>rfl)) Ad) Lv))
      (Ac (AM (Au Bg (pv 3) Aq (AC _)) (Ac (Av (i:=5) sc__law_behind.nd rfl (Or.inl rfl) (Al Pd (AB (Aa (Ar (AN (K:=K)) (pv 1) Ad (λ _ _=>rfl)) Ab)) (As Mn rfl (T.own _ (by decide)) boot_int (Aa (CI Lg (Ar (A6 (K:=K)) (Ar (A6 (K:=K)) (pv 0) Ad (λ _ _=>rfl)) (Al BH (Ar (AN (K:=K)) (pv 1) Ad (λ _ _=>rfl)) Ad) (λ _ _=>rfl)) (Ar (AN (K:=K)) (pv 1) Ad (λ _ _=>rfl)) (AC _)) Ab))))
      (Ag (Ak (AE (Aa (pv 2) (Aa (AE (Aa (AB Ab) (Aa (pv 5) Ab))) (Aa (AE (Aa (AB Ab) (Aa (pv 5) Ab))) Ab))))))) Ay)
      (Ac (Gk (AE (Aa (Ae c__law_lifts (hr.mono (by decide)) (Aa (pv 0) Ab)) (Aa (Ae c__law_lifts (hr.mono (by decide)) (Aa (pv 2) Ab)) Ab))) (Mi (K:=K) rfl (A7 (AV (i:=6) sc__law_behind.nd rfl (Or.inr rfl)) (A7 (AV (i:=7) sc__law_behind.nd rfl (Or.inr rfl)) F4))))
      (Ac (CM (i:=8) sc__law_behind.nd rfl (Or.inl rfl) (Gm rfl (T.own _ (by decide)) (Aa (Am (BA (K:=K)) rfl (T.own _ (by decide)) boot_len (Aa (pv 6) Ab)) Ab)) (λ _ _ _ _=>(E3 (Au (W7 hu (K:=K)) (Ar (A6 (K:=K)) (pv 2) (pv 0) (λ _ _=>rfl)) (Ar (A6 (K:=K)) (pv 1) (pv 0) (λ _ _=>rfl)) (AC _)))) (λ _ _ _ _=>(Al AW (pv 0) Ad)))
      (Ag (Ak (AE (Aa (pv 2) (Aa (AE (Aa (pv 8) (Aa (AB Ab) Ab))) (Aa (AE (Aa (pv 8) (Aa (AB Ab) Ab))) Ab)))))))))))))))),?_⟩
    walk_at "w";refine ⟨a,rfl,⟨_,SqL.of ha⟩,λ D hD=> ?_⟩;refine P9 (m:=3) (ds:=[dN d.sh,dN d.tr,dL d.th,dLL d.ti,dLL d.td,dS d.wa,dS d.we]) (Bf (SqL.of ha) rfl) hD (by simp) ?_ ?_
    · intro i H' R hi s kk;obtain ⟨m',a',xs,em,ea,hx,_,l,b,el⟩:=Dn rv;cases ea;cases em;rw [ha] at hx;cases hx;have r:=el i hi;walk_at "w";exact ⟨_,_,rfl,((r.any).same s).up (by decide),λ H3 y s3 r3=>kk H3 y s3 r3⟩
    intro H1 ys L s1 gD ly dj fr el;obtain ⟨b2,a3,a4,b5,b6,u3,u4,C⟩:=W3 gD ly dj fr el;clear gD ly dj fr el;walk_at "w";cases dd with
    | th e s'=>
      have ht:=s1 _ _ dt;refine Ao (SqT.of ht) (show atI _ 0=_ from rfl) ?_;walk_at "w";row_lines H1 x2;walk_at "w";refine B3 (r:=false) g2 (by decide +kernel) ?_;walk_at "w";row_lines H2 x3;walk_at "w";refine B3 (r:=false) g3 (by decide +kernel) ?_;walk_at "w";rw [show decide (("thread":Str)="colour")=false by decide +kernel];refine B2 ?_;walk_at "w";row_lines H3 x4;walk_at "w";refine ⟨g4,[((.inr "thread":Key), .int 2),(.inr "tie", .int 3),(.inr "tread", .int 4)],rfl,by simp,?_⟩;rw [IS];have s5:Same H3 (upd H4 p4 (HO.dK [((.inr "thread":Key), .int 2),(.inr "tie", .int 3),(.inr "tread", .int 4)])):=Bo rfl n4 s4;have g5:upd H4 p4 (HO.dK [((.inr "thread":Key), .int 2),(.inr "tie", .int 3),(.inr "tread", .int 4)]) p4=_:=Af;generalize upd H4 p4 (HO.dK [((.inr "thread":Key), .int 2),(.inr "tie", .int 3),(.inr "tread", .int 4)])=H5 at s5 g5 ⊢;have s15:=s2.trans (s3.trans s5);walk_at "w";refine Kj (v:= .int 2) g5 (by kernel_rfl) ?_;walk_at "w";refine Ao (SqT.of (s15 _ _ ht)) (show atI _ 2=_ from rfl) ?_;walk_at "w";refine ⟨_,_,rfl,(.int _:Rp H5 FT 3 _ _),λ H6 y s6 r6=> ?_⟩;cases r6;have s16:=s15.trans s6;walk_at "w";refine Hv ?_;walk_at "w";refine AF (v:= .ref b2) (SqL.of (s16 _ _ C.hD)) (AH (j:=2) rfl) ?_;walk_at "w";refine Ao (SqT.of (s16 _ _ ht)) (show atI _ 1=_ from rfl) ?_;walk_at "w";obtain ⟨k1,k2,k3⟩:=id dk;refine ⟨b2,_,_,e - 1,rfl,rfl,s16 _ _ C.h2,Hz k1 (by rw [Aa1];exact k2),?_⟩;rw [<-List.map_set];have g7:upd H6 b2 (HO.lst ((d.th.set (e - 1) s').map nV)) b2=_:=Af;have kp:∀ b o,H1 b=some o->b≠b2->upd H6 b2 (HO.lst ((d.th.set (e - 1) s').map nV)) b=some o:=λ b o q n=>by rw [Ai n];exact s16 _ _ q
      generalize upd H6 b2 (HO.lst ((d.th.set (e - 1) s').map nV))=H7 at g7 kp ⊢;walk_at "w";rw [show decide (("thread":Str)="thread")=true by decide +kernel];refine DI ?_;have nt:t≠b2:=λ z=>by have:=(C.fr _ _ C.l2).1;rw [<-z,dt] at this;cases this
      have na:∀ q o,H q=some o->q≠b2:=λ q o e z=>by have:=(C.fr _ _ C.l2).1;rw [<-z,e] at this;cases this
      have ht7:=kp _ _ ht nt;walk_at "w";refine Ao (SqT.of ht7) (show atI _ 1=_ from rfl) ?_;walk_at "w";row_lines H7 x8;walk_at "w";refine AF (v:= .ref a2) (SqL.of (s8 _ _ (kp _ _ (s1 _ _ ha) (na _ _ ha)))) (AH (j:=2) rfl) ?_;walk_at "w";refine Ao (SqT.of (s8 _ _ ht7)) (show atI _ 1=_ from rfl) ?_;walk_at "w";refine AF (v:=nV (d.th.getD (e - 1) 0)) (SqL.of (s8 _ _ (kp _ _ (s1 _ _ e2) (na _ _ e2)))) (Qv k1 k2) ?_;walk_at "w";refine Ao (SqT.of (s8 _ _ ht7)) (show atI _ 2=_ from rfl) ?_;walk_at "w";refine ⟨_,rfl,?_⟩;refine O3 g8 (by split <;> omega) (by split <;> omega) (show 1<=100 by decide) λ p9 n9=> ?_;rw [Tq];wrow_has H8 x9;have lt:((Dd.told d (.th e s')).2).length<=1:=by rw [Kt];split <;> simp
      walk_at "w";row_lines H9 xA;walk_at "w";row_lines HA xB;walk_at "w";row_lines HB xC;walk_at "w";row_lines HC xE;walk_at "w";intro pF nF;have s9E:=sA.trans (sB.trans (sC.trans sE));have s7E:=(s8.trans s9).trans s9E;have sF:=Aj (o:=HO.tup [.ref D, .ref pB, .ref pE]) nF;have s7F:=s7E.trans sF;have kF:∀ b o,H1 b=some o->b≠b2->upd HE pF (HO.tup [.ref D, .ref pB, .ref pE]) b=some o:=λ b o q n=>s7F _ _ (kp _ _ q n);have s0F:Same H (upd HE pF (HO.tup [.ref D, .ref pB, .ref pE])):=λ b o q=>kF _ _ (s1 _ _ q) (na _ _ q);have f:∀ q,H7 q=none->H q=none:=λ q z=>by
        cases eq:H q with
        | none=>rfl
        | some o=>rw [kp _ _ (s1 _ _ eq) (na _ _ eq)] at z;cases z
      have r9:∀ n,Rp (upd HE pF (HO.tup [.ref D, .ref pB, .ref pE])) (FN H) (n+1) (.ref p9) (dL (Dd.told d (.th e s')).2):=λ n=>Be (sF _ _ (s9E _ _ g9)) (f _ (s8.free n9)) (by omega);refine k _ pF s0F (f _ (s7E.free nF)) (Il Af (C.parts hD ok' rfl rfl (kF _ _ C.hD (C.fr _ _ C.l2).2.symm) (s7F _ _ g7) (kF _ _ C.h3 (C.ne C.l3 C.l2 (by decide))) (C.r3.mono (λ q o z l=>kF _ _ z (C.ne l.1 C.l2 (by decide))) λ q l=>(C.fr _ _ l.1).1) (kF _ _ C.h4 (C.ne C.l4 C.l2 (by decide))) (C.r4.mono (λ q o z l=>kF _ _ z (C.ne l.1 C.l2 (by decide))) λ q l=>(C.fr _ _ l.1).1) (kF _ _ C.h5 (C.ne C.l5 C.l2 (by decide))) (kF _ _ C.h6 (C.ne C.l6 C.l2 (by decide)))) (B8 (sF _ _ ((sC.trans sE) _ _ gB)) (Be (ns:=[]) (sF _ _ ((sB.trans (sC.trans sE)) _ _ gA)) (f _ ((s8.trans s9).free nA)) (by simp)) (r9 _)) (B8 (sF _ _ gE) (Be (ns:=[]) (sF _ _ (sE _ _ gC)) (f _ (((s8.trans s9).trans (sA.trans sB)).free nC)) (by simp)) (r9 _)))
    | ti e l=>
      obtain ⟨al,_,gal,bal,dt⟩:=dt;have ht:=s1 _ _ dt;refine Ao (SqT.of ht) (show atI _ 0=_ from rfl) ?_;walk_at "w";row_lines H1 x2;walk_at "w";refine B3 (r:=false) g2 (by decide +kernel) ?_;walk_at "w";row_lines H2 x3;walk_at "w";refine B3 (r:=false) g3 (by decide +kernel) ?_;walk_at "w";rw [show decide (("tie":Str)="colour")=false by decide +kernel];refine B2 ?_;walk_at "w";row_lines H3 x4;walk_at "w";refine ⟨g4,[((.inr "thread":Key), .int 2),(.inr "tie", .int 3),(.inr "tread", .int 4)],rfl,by simp,?_⟩;rw [IS];have s5:Same H3 (upd H4 p4 (HO.dK [((.inr "thread":Key), .int 2),(.inr "tie", .int 3),(.inr "tread", .int 4)])):=Bo rfl n4 s4;have g5:upd H4 p4 (HO.dK [((.inr "thread":Key), .int 2),(.inr "tie", .int 3),(.inr "tread", .int 4)]) p4=_:=Af;generalize upd H4 p4 (HO.dK [((.inr "thread":Key), .int 2),(.inr "tie", .int 3),(.inr "tread", .int 4)])=H5 at s5 g5 ⊢;have s15:=s2.trans (s3.trans s5);walk_at "w";refine Kj (v:= .int 3) g5 (by kernel_rfl) ?_;walk_at "w";refine Ao (SqT.of (s15 _ _ ht)) (show atI _ 2=_ from rfl) ?_;walk_at "w";refine ⟨_,_,rfl,(Be (s15 _ _ (s1 _ _ gal)) trivial bal:Rp H5 FT 3 _ _),λ H6 y s6 r6=> ?_⟩;obtain ⟨c6,rfl,g6,f6,_⟩:=B9 r6;have s16:=s15.trans s6;walk_at "w";refine Hv ?_;walk_at "w";refine AF (v:= .ref a3) (SqL.of (s16 _ _ C.hD)) (AH (j:=3) rfl) ?_;walk_at "w";refine Ao (SqT.of (s16 _ _ ht)) (show atI _ 1=_ from rfl) ?_;walk_at "w";obtain ⟨k1,k2,k3⟩:=id dk;refine ⟨a3,_,_,e - 1,rfl,rfl,s16 _ _ C.h3,Hz k1 (by rw [C.r3.len];have:=ok.il;omega),?_⟩;have nc:c6≠a3:=λ z=>by rw [z] at f6;have f6:H5 a3=none:=f6;rw [s15 _ _ C.h3] at f6;cases f6
      have g7:upd H6 a3 (HO.lst (u3.set (e - 1) (.ref c6))) a3=_:=Af;have gc:upd H6 a3 (HO.lst (u3.set (e - 1) (.ref c6))) c6=_:=(Ai nc).trans g6;have kp:∀ b o,H1 b=some o->b≠a3->upd H6 a3 (HO.lst (u3.set (e - 1) (.ref c6))) b=some o:=λ b o q n=>by rw [Ai n];exact s16 _ _ q
      generalize upd H6 a3 (HO.lst (u3.set (e - 1) (.ref c6)))=H7 at g7 gc kp ⊢;walk_at "w";rw [show decide (("tie":Str)="thread")=false by decide +kernel];refine B2 ?_;have na:∀ q o,H q=some o->q≠a3:=λ q o e z=>by have:=(C.fr _ _ C.l3).1;rw [<-z,e] at this;cases this
      have s07:Same H H7:=λ b o q=>kp _ _ (s1 _ _ q) (na _ _ q);have fc:FN H c6:=(s1.trans s15).free f6;have lr:LLs H7 (FN H) (u3.set (e - 1) (.ref c6)) (d.ti.set (e - 1) l):=(C.r3.mono (λ q o z l=>kp _ _ z l.2) λ q l=>(C.fr _ _ l.1).1).set (Be gc fc bal) (e - 1);have rD:Rp H7 (FN H) 3 (.ref D) (dPl (Dd.go d (.ti e l))):=C.parts hD ok' rfl rfl (kp _ _ C.hD (C.fr _ _ C.l3).2.symm) (kp _ _ C.h2 (C.ne C.l2 C.l3 (by decide))) g7 lr (kp _ _ C.h4 (C.ne C.l4 C.l3 (by decide))) (C.r4.mono (λ q o z l=>kp _ _ z (C.ne l.1 C.l3 (by decide))) λ q l=>(C.fr _ _ l.1).1) (kp _ _ C.h5 (C.ne C.l5 C.l3 (by decide))) (kp _ _ C.h6 (C.ne C.l6 C.l3 (by decide)));walk_at "w";refine ⟨_,d,F',rfl,rv.same s07,ok,λ H8 p8 s8 n8 r8=> ?_⟩;walk_at "w";refine ⟨_,_,_,rfl,rD.same s8,ok',λ H9 p9 s9 n9 r9=> ?_⟩;walk_at "w";row_lines H9 xA;have s7A:=s8.trans (s9.trans sA);refine HH (SqT.of gA) rfl ?_;walk_at "w";obtain ⟨_,w8,ev,g8,l8,b8,el8⟩:=IA (r8.same (s9.trans sA));cases ev;obtain ⟨_,w9,ev,g9,l9,b9,el9⟩:=IA (r9.same sA);cases ev;have ln:(EM d).length=d.td.length:=by unfold EM;rw [Aa1,Ad6]
      have ln':(EM (Dd.go d (.ti e l))).length=d.td.length:=by unfold EM;rw [Aa1,Ad6];rfl
      refine A9 (SqL.of g8) ?_;walk_at "w";refine ⟨_,rfl,by omega,by omega,λ DB nB=> ?_⟩;rw [Ac2,l8,ln];refine Cc (p:=λ i=> !decide (lft d i=lft (Dd.go d (.ti e l)) i)) (G:=λ i=>((i+1:Nat):Int)) (DU rfl) nB (by omega) ?_ ?_ ?_
      · intro i H' R hi s kk;obtain ⟨q8,e8,h8⟩:=el8 i (by omega);obtain ⟨q9,e9,h9⟩:=el9 i (by omega);rw [show (EM d).getD i []=lft d i from CK (lft d) hi] at h8;rw [show (EM (Dd.go d (.ti e l))).getD i []=lft (Dd.go d (.ti e l)) i from CK (lft _) (by exact hi)] at h9;walk_at "w";refine AF (SqL.of (s _ _ g8)) (EQ (j:=i) rfl (by omega)) ?_;rw [e8];walk_at "w";refine AF (SqL.of (s _ _ g9)) (EQ (j:=i) rfl (by omega)) ?_;rw [e9];refine OE (s _ _ h8) (s _ _ h9) ?_;walk_at "w";exact kk H' (Same.refl _)
      · intro i H' R hi hp s kk;walk_at "w";exact kk H' (Same.refl _)
      intro HB sB gB;rw [Nc,show ((Aa9 d.td.length).filter λ i=> !decide (lft d i=lft (Dd.go d (.ti e l)) i)).map (· + 1)=(Dd.told d (.ti e l)).1 from LG ok ok' rfl rfl] at gB;have tl:((Dd.told d (.ti e l)).1).length<=60:=by
        refine Ac5 (GG _ _) ?_;rw [Aa1];exact p2'
      walk_at "w";row_lines HB xC;walk_at "w";row_lines HC xE;walk_at "w";row_lines HE xF;walk_at "w";row_lines HF xG;walk_at "w";intro pI nI;have sI:=Aj (o:=HO.tup [.ref D, .ref pE, .ref pG]) nI;have s0B:=(s07.trans s7A).trans sB;have sBG:=sC.trans (sE.trans (sF.trans sG));have s0G:=s0B.trans sBG;have rB:∀ n,Rp (upd HG pI (HO.tup [.ref D, .ref pE, .ref pG])) (FN H) (n+1) (.ref DB) (dL (Dd.told d (.ti e l)).1):=λ n=>Be (sI _ _ (sBG _ _ gB)) ((s07.trans s7A).free nB) (by omega);exact k _ pI (s0G.trans sI) (s0G.free nI) (Il Af ((rD.same (s7A.trans (sB.trans sBG))).same sI) (B8 (sI _ _ ((sF.trans sG) _ _ gE)) (rB _) (Be (ns:=[]) (sI _ _ ((sE.trans (sF.trans sG)) _ _ gC)) (s0B.free nC) (by simp))) (B8 (sI _ _ gG) (rB _) (Be (ns:=[]) (sI _ _ (sG _ _ gF)) ((s0B.trans (sC.trans sE)).free nF) (by simp))))
    | td e l=>
      obtain ⟨al,_,gal,bal,dt⟩:=dt;have ht:=s1 _ _ dt;refine Ao (SqT.of ht) (show atI _ 0=_ from rfl) ?_;walk_at "w";row_lines H1 x2;walk_at "w";refine B3 (r:=false) g2 (by decide +kernel) ?_;walk_at "w";row_lines H2 x3;walk_at "w";refine B3 (r:=false) g3 (by decide +kernel) ?_;walk_at "w";rw [show decide (("tread":Str)="colour")=false by decide +kernel];refine B2 ?_;walk_at "w";row_lines H3 x4;walk_at "w";refine ⟨g4,[((.inr "thread":Key), .int 2),(.inr "tie", .int 3),(.inr "tread", .int 4)],rfl,by simp,?_⟩;rw [IS];have s5:Same H3 (upd H4 p4 (HO.dK [((.inr "thread":Key), .int 2),(.inr "tie", .int 3),(.inr "tread", .int 4)])):=Bo rfl n4 s4;have g5:upd H4 p4 (HO.dK [((.inr "thread":Key), .int 2),(.inr "tie", .int 3),(.inr "tread", .int 4)]) p4=_:=Af;generalize upd H4 p4 (HO.dK [((.inr "thread":Key), .int 2),(.inr "tie", .int 3),(.inr "tread", .int 4)])=H5 at s5 g5 ⊢;have s15:=s2.trans (s3.trans s5);walk_at "w";refine Kj (v:= .int 4) g5 (by kernel_rfl) ?_;walk_at "w";refine Ao (SqT.of (s15 _ _ ht)) (show atI _ 2=_ from rfl) ?_;walk_at "w";refine ⟨_,_,rfl,(Be (s15 _ _ (s1 _ _ gal)) trivial bal:Rp H5 FT 3 _ _),λ H6 y s6 r6=> ?_⟩;obtain ⟨c6,rfl,g6,f6,_⟩:=B9 r6;have s16:=s15.trans s6;walk_at "w";refine Hv ?_;walk_at "w";refine AF (v:= .ref a4) (SqL.of (s16 _ _ C.hD)) (AH (j:=4) rfl) ?_;walk_at "w";refine Ao (SqT.of (s16 _ _ ht)) (show atI _ 1=_ from rfl) ?_;walk_at "w";obtain ⟨k1,k2,k3⟩:=id dk;refine ⟨a4,_,_,e - 1,rfl,rfl,s16 _ _ C.h4,Hz k1 (by rw [C.r4.len];exact k2),?_⟩;have nc:c6≠a4:=λ z=>by rw [z] at f6;have f6:H5 a4=none:=f6;rw [s15 _ _ C.h4] at f6;cases f6
      have g7:upd H6 a4 (HO.lst (u4.set (e - 1) (.ref c6))) a4=_:=Af;have gc:upd H6 a4 (HO.lst (u4.set (e - 1) (.ref c6))) c6=_:=(Ai nc).trans g6;have kp:∀ b o,H1 b=some o->b≠a4->upd H6 a4 (HO.lst (u4.set (e - 1) (.ref c6))) b=some o:=λ b o q n=>by rw [Ai n];exact s16 _ _ q
      generalize upd H6 a4 (HO.lst (u4.set (e - 1) (.ref c6)))=H7 at g7 gc kp ⊢;walk_at "w";rw [show decide (("tread":Str)="thread")=false by decide +kernel];refine B2 ?_;have na:∀ q o,H q=some o->q≠a4:=λ q o e z=>by have:=(C.fr _ _ C.l4).1;rw [<-z,e] at this;cases this
      have s07:Same H H7:=λ b o q=>kp _ _ (s1 _ _ q) (na _ _ q);have fc:FN H c6:=(s1.trans s15).free f6;have lr:LLs H7 (FN H) (u4.set (e - 1) (.ref c6)) (d.td.set (e - 1) l):=(C.r4.mono (λ q o z l=>kp _ _ z l.2) λ q l=>(C.fr _ _ l.1).1).set (Be gc fc bal) (e - 1);have rD:Rp H7 (FN H) 3 (.ref D) (dPl (Dd.go d (.td e l))):=C.parts hD ok' rfl rfl (kp _ _ C.hD (C.fr _ _ C.l4).2.symm) (kp _ _ C.h2 (C.ne C.l2 C.l4 (by decide))) (kp _ _ C.h3 (C.ne C.l3 C.l4 (by decide))) (C.r3.mono (λ q o z l=>kp _ _ z (C.ne l.1 C.l4 (by decide))) λ q l=>(C.fr _ _ l.1).1) g7 lr (kp _ _ C.h5 (C.ne C.l5 C.l4 (by decide))) (kp _ _ C.h6 (C.ne C.l6 C.l4 (by decide)));walk_at "w";refine ⟨_,d,F',rfl,rv.same s07,ok,λ H8 p8 s8 n8 r8=> ?_⟩;walk_at "w";refine ⟨_,_,_,rfl,rD.same s8,ok',λ H9 p9 s9 n9 r9=> ?_⟩;walk_at "w";row_lines H9 xA;have s7A:=s8.trans (s9.trans sA);refine HH (SqT.of gA) rfl ?_;walk_at "w";obtain ⟨_,w8,ev,g8,l8,b8,el8⟩:=IA (r8.same (s9.trans sA));cases ev;obtain ⟨_,w9,ev,g9,l9,b9,el9⟩:=IA (r9.same sA);cases ev;have ln:(EM d).length=d.td.length:=by unfold EM;rw [Aa1,Ad6]
      have ln':(EM (Dd.go d (.td e l))).length=d.td.length:=by unfold EM;rw [Aa1,Ad6];exact List.length_set
      refine A9 (SqL.of g8) ?_;walk_at "w";refine ⟨_,rfl,by omega,by omega,λ DB nB=> ?_⟩;rw [Ac2,l8,ln];refine Cc (p:=λ i=> !decide (lft d i=lft (Dd.go d (.td e l)) i)) (G:=λ i=>((i+1:Nat):Int)) (DU rfl) nB (by omega) ?_ ?_ ?_
      · intro i H' R hi s kk;obtain ⟨q8,e8,h8⟩:=el8 i (by omega);obtain ⟨q9,e9,h9⟩:=el9 i (by omega);rw [show (EM d).getD i []=lft d i from CK (lft d) hi] at h8;rw [show (EM (Dd.go d (.td e l))).getD i []=lft (Dd.go d (.td e l)) i from CK (lft _) (by show i<(d.td.set _ _).length;rw [List.length_set];exact hi)] at h9;walk_at "w";refine AF (SqL.of (s _ _ g8)) (EQ (j:=i) rfl (by omega)) ?_;rw [e8];walk_at "w";refine AF (SqL.of (s _ _ g9)) (EQ (j:=i) rfl (by omega)) ?_;rw [e9];refine OE (s _ _ h8) (s _ _ h9) ?_;walk_at "w";exact kk H' (Same.refl _)
      · intro i H' R hi hp s kk;walk_at "w";exact kk H' (Same.refl _)
      intro HB sB gB;rw [Nc,show ((Aa9 d.td.length).filter λ i=> !decide (lft d i=lft (Dd.go d (.td e l)) i)).map (· + 1)=(Dd.told d (.td e l)).1 from LG ok ok' rfl List.length_set] at gB;have tl:((Dd.told d (.td e l)).1).length<=60:=by
        refine Ac5 (GG _ _) ?_;rw [Aa1];exact p2'
      walk_at "w";row_lines HB xC;walk_at "w";row_lines HC xE;walk_at "w";row_lines HE xF;walk_at "w";row_lines HF xG;walk_at "w";intro pI nI;have sI:=Aj (o:=HO.tup [.ref D, .ref pE, .ref pG]) nI;have s0B:=(s07.trans s7A).trans sB;have sBG:=sC.trans (sE.trans (sF.trans sG));have s0G:=s0B.trans sBG;have rB:∀ n,Rp (upd HG pI (HO.tup [.ref D, .ref pE, .ref pG])) (FN H) (n+1) (.ref DB) (dL (Dd.told d (.td e l)).1):=λ n=>Be (sI _ _ (sBG _ _ gB)) ((s07.trans s7A).free nB) (by omega);exact k _ pI (s0G.trans sI) (s0G.free nI) (Il Af ((rD.same (s7A.trans (sB.trans sBG))).same sI) (B8 (sI _ _ ((sF.trans sG) _ _ gE)) (rB _) (Be (ns:=[]) (sI _ _ ((sE.trans (sF.trans sG)) _ _ gC)) (s0B.free nC) (by simp))) (B8 (sI _ _ gG) (rB _) (Be (ns:=[]) (sI _ _ (sG _ _ gF)) ((s0B.trans (sC.trans sE)).free nF) (by simp))))
    | pe e s' z'=>
      have ht:=s1 _ _ dt;refine Ao (SqT.of ht) (show atI _ 0=_ from rfl) ?_;walk_at "w";row_lines H1 x2;walk_at "w";refine B3 (r:=true) g2 (by decide +kernel) ?_;walk_at "w";rw [show decide (("put_end":Str)="put_end")=true by decide +kernel];refine DI ?_;walk_at "w";refine AF (v:= .ref b2) (SqL.of (s2 _ _ C.hD)) (AH (j:=2) rfl) ?_;refine tyL (SqL.of (s2 _ _ C.h2)) ?_;walk_at "w";refine Ao (SqT.of (s2 _ _ ht)) (show atI _ 1=_ from rfl) ?_;walk_at "w";refine Ao (SqT.of (s2 _ _ ht)) (show atI _ 2=_ from rfl) ?_;walk_at "w";refine ⟨_,_,rfl,(.int _:Rp H2 FT 3 _ _),λ H6 y s6 r6=> ?_⟩;cases r6;have s16:=s2.trans s6;obtain ⟨k1,k2,k3,k4,k5⟩:=id dk;walk_at "w";refine ⟨b2,_,_,_,rfl,rfl,s16 _ _ C.h2,by omega,by rw [Aa1];omega,by rw [Aa1];omega,?_⟩;rw [show (((e:Nat):Int) - 1).toNat=e - 1 by omega,show ((d.th.map nV).take (e - 1)++V.int (s':Nat)::(d.th.map nV).drop (e - 1))=(Bs d.th (e - 1) s').map nV from Dx (f:=nV)];have g7:upd H6 b2 (HO.lst ((Bs d.th (e - 1) s').map nV)) b2=_:=Af;have kp:∀ b o,H1 b=some o->b≠b2->upd H6 b2 (HO.lst ((Bs d.th (e - 1) s').map nV)) b=some o:=λ b o q n=>by rw [Ai n];exact s16 _ _ q
      generalize upd H6 b2 (HO.lst ((Bs d.th (e - 1) s').map nV))=H7 at g7 kp ⊢;have na:∀ j b q o,L j b->H q=some o->q≠b:=λ j b q o l e z=>by have:=(C.fr j b l).1;rw [<-z,e] at this;cases this
      have ht7:=kp _ _ ht (na _ _ _ _ C.l2 dt);have hD7:=kp _ _ C.hD (C.fr _ _ C.l2).2.symm;have h57:=kp _ _ C.h5 (C.ne C.l5 C.l2 (by decide));walk_at "w";refine AK ⟨by decide,by decide⟩ ?_;walk_at "w";refine AF (v:= .ref b5) (SqL.of hD7) (by rfl) ?_;refine tyL (SqL.of h57) ?_;walk_at "w";refine Ao (SqT.of ht7) (show atI _ 1=_ from rfl) ?_;walk_at "w";refine Ao (SqT.of ht7) (show atI _ 3=_ from rfl) ?_;walk_at "w";have wl:=ok.wl;refine ⟨b5,_,_,_,rfl,rfl,h57,by omega,by rw [Aa1];omega,by rw [Aa1];omega,?_⟩;rw [show (((e:Nat):Int) - 1).toNat=e - 1 by omega,show ((d.wa.map V.str).take (e - 1)++V.str z'::(d.wa.map V.str).drop (e - 1))=(Bs d.wa (e - 1) z').map V.str from Dx (f:=V.str)];have g8:upd H7 b5 (HO.lst ((Bs d.wa (e - 1) z').map V.str)) b5=_:=Af;have g78:upd H7 b5 (HO.lst ((Bs d.wa (e - 1) z').map V.str)) b2=_:=(Ai (C.ne C.l2 C.l5 (by decide))).trans g7;have kp2:∀ b o,H1 b=some o->b≠b2->b≠b5->upd H7 b5 (HO.lst ((Bs d.wa (e - 1) z').map V.str)) b=some o:=λ b o q n n5=>by rw [Ai n5];exact kp _ _ q n
      generalize upd H7 b5 (HO.lst ((Bs d.wa (e - 1) z').map V.str))=H8 at g8 g78 kp2 ⊢;have s08:Same H H8:=λ b o q=>kp2 _ _ (s1 _ _ q) (na _ _ _ _ C.l2 q) (na _ _ _ _ C.l5 q);have rD:Rp H8 (FN H) 3 (.ref D) (dPl (Dd.go d (.pe e s' z'))):=C.parts hD ok' rfl rfl (kp2 _ _ C.hD (C.fr _ _ C.l2).2.symm (C.fr _ _ C.l5).2.symm) g78 (kp2 _ _ C.h3 (C.ne C.l3 C.l2 (by decide)) (C.ne C.l3 C.l5 (by decide))) (C.r3.mono (λ q o z l=>kp2 _ _ z (C.ne l.1 C.l2 (by decide)) (C.ne l.1 C.l5 (by decide))) λ q l=>(C.fr _ _ l.1).1) (kp2 _ _ C.h4 (C.ne C.l4 C.l2 (by decide)) (C.ne C.l4 C.l5 (by decide))) (C.r4.mono (λ q o z l=>kp2 _ _ z (C.ne l.1 C.l2 (by decide)) (C.ne l.1 C.l5 (by decide))) λ q l=>(C.fr _ _ l.1).1) g8 (kp2 _ _ C.h6 (C.ne C.l6 C.l2 (by decide)) (C.ne C.l6 C.l5 (by decide)));walk_at "w";rw [show decide ((2:Int)=2)=true from rfl];refine DI ?_;walk_at "w";row_lines H8 xA;walk_at "w";refine Ao (SqT.of (sA _ _ (s08 _ _ dt))) (show atI _ 1=_ from rfl) ?_;walk_at "w";row_lines HA xB;walk_at "w";row_lines HB xC;walk_at "w";row_lines HC xE;walk_at "w";row_lines HE xF;walk_at "w";row_lines HF xG;walk_at "w";intro pI nI;exact Gb (dd:= .pe e s' z') (r1:=[]) (r2:=[e]) (q1:=[]) (q2:=[]) k rfl rfl s08 rD sA gA nA sB gB nB sC gC sE gE nE sF gF nF sG gG nI
    | pp e l z'=>
      obtain ⟨al,_,gal,bal,dt⟩:=dt;have ht:=s1 _ _ dt;refine Ao (SqT.of ht) (show atI _ 0=_ from rfl) ?_;walk_at "w";row_lines H1 x2;walk_at "w";refine B3 (r:=true) g2 (by decide +kernel) ?_;walk_at "w";rw [show decide (("put_pick":Str)="put_end")=false by decide +kernel];refine B2 ?_;walk_at "w";refine AF (v:= .ref a4) (SqL.of (s2 _ _ C.hD)) (AH (j:=4) rfl) ?_;refine tyL (SqL.of (s2 _ _ C.h4)) ?_;walk_at "w";refine Ao (SqT.of (s2 _ _ ht)) (show atI _ 1=_ from rfl) ?_;walk_at "w";refine Ao (SqT.of (s2 _ _ ht)) (show atI _ 2=_ from rfl) ?_;walk_at "w";refine ⟨_,_,rfl,(Be (s2 _ _ (s1 _ _ gal)) trivial bal:Rp H2 FT 3 _ _),λ H6 y s6 r6=> ?_⟩;obtain ⟨c6,rfl,g6,f6,_⟩:=B9 r6;have nc:c6≠a4:=λ z=>by rw [z] at f6;have f6:H2 a4=none:=f6;rw [s2 _ _ C.h4] at f6;cases f6
      have s16:=s2.trans s6;obtain ⟨k1,k2,k3,k4,k5⟩:=id dk;walk_at "w";have l4:=C.r4.len;refine ⟨a4,_,_,_,rfl,rfl,s16 _ _ C.h4,by omega,by omega,by omega,?_⟩;rw [show (((e:Nat):Int) - 1).toNat=e - 1 by omega];have g7:upd H6 a4 (HO.lst (u4.take (e - 1)++ .ref c6::u4.drop (e - 1))) a4=_:=Af;have gc:upd H6 a4 (HO.lst (u4.take (e - 1)++ .ref c6::u4.drop (e - 1))) c6=_:=(Ai nc).trans g6;have kp:∀ b o,H1 b=some o->b≠a4->upd H6 a4 (HO.lst (u4.take (e - 1)++ .ref c6::u4.drop (e - 1))) b=some o:=λ b o q n=>by rw [Ai n];exact s16 _ _ q
      generalize upd H6 a4 (HO.lst (u4.take (e - 1)++ .ref c6::u4.drop (e - 1)))=H7 at g7 gc kp ⊢;have na:∀ j b q o,L j b->H q=some o->q≠b:=λ j b q o l e z=>by have:=(C.fr j b l).1;rw [<-z,e] at this;cases this
      have ht7:=kp _ _ ht (na _ _ _ _ C.l4 dt);have hD7:=kp _ _ C.hD (C.fr _ _ C.l4).2.symm;have h67:=kp _ _ C.h6 (C.ne C.l6 C.l4 (by decide));walk_at "w";refine AK ⟨by decide,by decide⟩ ?_;walk_at "w";refine AF (v:= .ref b6) (SqL.of hD7) (by rfl) ?_;refine tyL (SqL.of h67) ?_;walk_at "w";refine Ao (SqT.of ht7) (show atI _ 1=_ from rfl) ?_;walk_at "w";refine Ao (SqT.of ht7) (show atI _ 3=_ from rfl) ?_;walk_at "w";have fl:=ok.fl;refine ⟨b6,_,_,_,rfl,rfl,h67,by omega,by rw [Aa1];omega,by rw [Aa1];omega,?_⟩;rw [show (((e:Nat):Int) - 1).toNat=e - 1 by omega,show ((d.we.map V.str).take (e - 1)++V.str z'::(d.we.map V.str).drop (e - 1))=(Bs d.we (e - 1) z').map V.str from Dx (f:=V.str)];have g8:upd H7 b6 (HO.lst ((Bs d.we (e - 1) z').map V.str)) b6=_:=Af;have g78:upd H7 b6 (HO.lst ((Bs d.we (e - 1) z').map V.str)) a4=_:=(Ai (C.ne C.l4 C.l6 (by decide))).trans g7;have kp2:∀ b o,H1 b=some o->b≠a4->b≠b6->upd H7 b6 (HO.lst ((Bs d.we (e - 1) z').map V.str)) b=some o:=λ b o q n n5=>by rw [Ai n5];exact kp _ _ q n
      have gc8:c6≠b6->upd H7 b6 (HO.lst ((Bs d.we (e - 1) z').map V.str)) c6=_:=λ n=>(Ai n).trans gc;generalize upd H7 b6 (HO.lst ((Bs d.we (e - 1) z').map V.str))=H8 at g8 g78 gc8 kp2 ⊢;have s08:Same H H8:=λ b o q=>kp2 _ _ (s1 _ _ q) (na _ _ _ _ C.l4 q) (na _ _ _ _ C.l6 q);have n6c:c6≠b6:=λ z=>by rw [z] at f6;have f6:H2 b6=none:=f6;rw [s2 _ _ C.h6] at f6;cases f6
      have lr:LLs H8 (FN H) (u4.take (e - 1)++ .ref c6::u4.drop (e - 1)) (Bs d.td (e - 1) l):=by
        have L0:=C.r4.mono (H':=H8) (F':=FN H) (λ q o z l=>kp2 _ _ z l.2 (C.ne l.1 C.l6 (by decide))) λ q l=>(C.fr _ _ l.1).1;exact (L0.take _).app (.cons (Be (gc8 n6c) ((s1.trans s2).free f6) bal) (L0.drop _))
      have rD:Rp H8 (FN H) 3 (.ref D) (dPl (Dd.go d (.pp e l z'))):=C.parts hD ok' rfl rfl (kp2 _ _ C.hD (C.fr _ _ C.l4).2.symm (C.fr _ _ C.l6).2.symm) (kp2 _ _ C.h2 (C.ne C.l2 C.l4 (by decide)) (C.ne C.l2 C.l6 (by decide))) (kp2 _ _ C.h3 (C.ne C.l3 C.l4 (by decide)) (C.ne C.l3 C.l6 (by decide))) (C.r3.mono (λ q o z l=>kp2 _ _ z (C.ne l.1 C.l4 (by decide)) (C.ne l.1 C.l6 (by decide))) λ q l=>(C.fr _ _ l.1).1) g78 lr (kp2 _ _ C.h5 (C.ne C.l5 C.l4 (by decide)) (C.ne C.l5 C.l6 (by decide))) g8;walk_at "w";rw [show decide ((4:Int)=2)=false from rfl];refine B2 ?_;walk_at "w";refine Ao (SqT.of (s08 _ _ dt)) (show atI _ 1=_ from rfl) ?_;walk_at "w";row_lines H8 xA;walk_at "w";row_lines HA xB;walk_at "w";row_lines HB xC;walk_at "w";row_lines HC xE;walk_at "w";row_lines HE xF;walk_at "w";row_lines HF xG;walk_at "w";intro pI nI;exact Gb (dd:= .pp e l z') (r1:=[e]) (r2:=[]) (q1:=[]) (q2:=[]) k rfl rfl s08 rD sA gA nA sB gB nB sC gC sE gE nE sF gF nF sG gG nI
    | te e=>
      have ht:=s1 _ _ dt;refine Ao (SqT.of ht) (show atI _ 0=_ from rfl) ?_;walk_at "w";row_lines H1 x2;walk_at "w";refine B3 (r:=false) g2 (by decide +kernel) ?_;walk_at "w";row_lines H2 x3;walk_at "w";refine B3 (r:=true) g3 (by decide +kernel) ?_;have s16:=s2.trans s3;walk_at "w";rw [show decide (("take_end":Str)="take_end")=true by decide +kernel];refine DI ?_;walk_at "w";refine AF (v:= .ref b2) (SqL.of (s16 _ _ C.hD)) (AH (j:=2) rfl) ?_;refine tyL (SqL.of (s16 _ _ C.h2)) ?_;walk_at "w";refine Ao (SqT.of (s16 _ _ ht)) (show atI _ 1=_ from rfl) ?_;walk_at "w";obtain ⟨k1,k2,k3⟩:=id dk;refine ⟨b2,_,_,e - 1,nV (d.th.getD (e - 1) 0),rfl,rfl,s16 _ _ C.h2,by omega,by omega,Ht k1 (by rw [Aa1];exact k2),Qe (by omega),?_⟩;rw [<-CL];have g7:upd H3 b2 (HO.lst ((d.th.eraseIdx (e - 1)).map nV)) b2=_:=Af;have kp:∀ b o,H1 b=some o->b≠b2->upd H3 b2 (HO.lst ((d.th.eraseIdx (e - 1)).map nV)) b=some o:=λ b o q n=>by rw [Ai n];exact s16 _ _ q
      generalize upd H3 b2 (HO.lst ((d.th.eraseIdx (e - 1)).map nV))=H7 at g7 kp ⊢;have na:∀ j b q o,L j b->H q=some o->q≠b:=λ j b q o l e z=>by have:=(C.fr j b l).1;rw [<-z,e] at this;cases this
      have ht7:=kp _ _ ht (na _ _ _ _ C.l2 dt);have hD7:=kp _ _ C.hD (C.fr _ _ C.l2).2.symm;have h57:=kp _ _ C.h5 (C.ne C.l5 C.l2 (by decide));walk_at "w";refine AK ⟨by decide,by decide⟩ ?_;walk_at "w";refine AF (v:= .ref b5) (SqL.of hD7) (by rfl) ?_;refine tyL (SqL.of h57) ?_;walk_at "w";refine Ao (SqT.of ht7) (show atI _ 1=_ from rfl) ?_;walk_at "w";have wl:=ok.wl;refine ⟨b5,_,_,e - 1, .str (d.wa.getD (e - 1) ""),rfl,rfl,h57,by omega,by omega,Ht k1 (by rw [Aa1];omega),MJ (by omega),?_⟩;rw [<-CL];have g8:upd H7 b5 (HO.lst ((d.wa.eraseIdx (e - 1)).map V.str)) b5=_:=Af;have g78:upd H7 b5 (HO.lst ((d.wa.eraseIdx (e - 1)).map V.str)) b2=_:=(Ai (C.ne C.l2 C.l5 (by decide))).trans g7;have kp2:∀ b o,H1 b=some o->b≠b2->b≠b5->upd H7 b5 (HO.lst ((d.wa.eraseIdx (e - 1)).map V.str)) b=some o:=λ b o q n n5=>by rw [Ai n5];exact kp _ _ q n
      generalize upd H7 b5 (HO.lst ((d.wa.eraseIdx (e - 1)).map V.str))=H8 at g8 g78 kp2 ⊢;have s08:Same H H8:=λ b o q=>kp2 _ _ (s1 _ _ q) (na _ _ _ _ C.l2 q) (na _ _ _ _ C.l5 q);have rD:Rp H8 (FN H) 3 (.ref D) (dPl (Dd.go d (.te e))):=C.parts hD ok' rfl rfl (kp2 _ _ C.hD (C.fr _ _ C.l2).2.symm (C.fr _ _ C.l5).2.symm) g78 (kp2 _ _ C.h3 (C.ne C.l3 C.l2 (by decide)) (C.ne C.l3 C.l5 (by decide))) (C.r3.mono (λ q o z l=>kp2 _ _ z (C.ne l.1 C.l2 (by decide)) (C.ne l.1 C.l5 (by decide))) λ q l=>(C.fr _ _ l.1).1) (kp2 _ _ C.h4 (C.ne C.l4 C.l2 (by decide)) (C.ne C.l4 C.l5 (by decide))) (C.r4.mono (λ q o z l=>kp2 _ _ z (C.ne l.1 C.l2 (by decide)) (C.ne l.1 C.l5 (by decide))) λ q l=>(C.fr _ _ l.1).1) g8 (kp2 _ _ C.h6 (C.ne C.l6 C.l2 (by decide)) (C.ne C.l6 C.l5 (by decide)));walk_at "w";row_lines H8 xA;walk_at "w";row_lines HA xB;walk_at "w";row_lines HB xC;walk_at "w";rw [show decide ((2:Int)=2)=true from rfl];refine DI ?_;walk_at "w";row_lines HC xE;walk_at "w";refine Ao (SqT.of (sE _ _ (sC _ _ (sB _ _ (sA _ _ (s08 _ _ dt)))))) (show atI _ 1=_ from rfl) ?_;walk_at "w";row_lines HE xF;walk_at "w";row_lines HF xG;walk_at "w";intro pI nI;exact Gb (dd:= .te e) (r1:=[]) (r2:=[]) (q1:=[]) (q2:=[e]) k rfl rfl s08 rD sA gA nA sB gB nB sC gC sE gE nE sF gF nF sG gG nI
    | tp e=>
      have ht:=s1 _ _ dt;refine Ao (SqT.of ht) (show atI _ 0=_ from rfl) ?_;walk_at "w";row_lines H1 x2;walk_at "w";refine B3 (r:=false) g2 (by decide +kernel) ?_;walk_at "w";row_lines H2 x3;walk_at "w";refine B3 (r:=true) g3 (by decide +kernel) ?_;have s16:=s2.trans s3;walk_at "w";rw [show decide (("take_pick":Str)="take_end")=false by decide +kernel];refine B2 ?_;walk_at "w";refine AF (v:= .ref a4) (SqL.of (s16 _ _ C.hD)) (AH (j:=4) rfl) ?_;refine tyL (SqL.of (s16 _ _ C.h4)) ?_;walk_at "w";refine Ao (SqT.of (s16 _ _ ht)) (show atI _ 1=_ from rfl) ?_;walk_at "w";obtain ⟨k1,k2,k3⟩:=id dk;have l4:=C.r4.len;refine ⟨a4,_,_,e - 1,u4.getD (e - 1) .non,rfl,rfl,s16 _ _ C.h4,by omega,by omega,Ht k1 (by omega),Qs (by omega),?_⟩;have g7:upd H3 a4 (HO.lst (u4.eraseIdx (e - 1))) a4=_:=Af;have kp:∀ b o,H1 b=some o->b≠a4->upd H3 a4 (HO.lst (u4.eraseIdx (e - 1))) b=some o:=λ b o q n=>by rw [Ai n];exact s16 _ _ q
      generalize upd H3 a4 (HO.lst (u4.eraseIdx (e - 1)))=H7 at g7 kp ⊢;have na:∀ j b q o,L j b->H q=some o->q≠b:=λ j b q o l e z=>by have:=(C.fr j b l).1;rw [<-z,e] at this;cases this
      have ht7:=kp _ _ ht (na _ _ _ _ C.l4 dt);have hD7:=kp _ _ C.hD (C.fr _ _ C.l4).2.symm;have h67:=kp _ _ C.h6 (C.ne C.l6 C.l4 (by decide));walk_at "w";refine AK ⟨by decide,by decide⟩ ?_;walk_at "w";refine AF (v:= .ref b6) (SqL.of hD7) (by rfl) ?_;refine tyL (SqL.of h67) ?_;walk_at "w";refine Ao (SqT.of ht7) (show atI _ 1=_ from rfl) ?_;walk_at "w";have fl:=ok.fl;refine ⟨b6,_,_,e - 1, .str (d.we.getD (e - 1) ""),rfl,rfl,h67,by omega,by omega,Ht k1 (by rw [Aa1];omega),MJ (by omega),?_⟩;rw [<-CL];have g8:upd H7 b6 (HO.lst ((d.we.eraseIdx (e - 1)).map V.str)) b6=_:=Af;have g78:upd H7 b6 (HO.lst ((d.we.eraseIdx (e - 1)).map V.str)) a4=_:=(Ai (C.ne C.l4 C.l6 (by decide))).trans g7;have kp2:∀ b o,H1 b=some o->b≠a4->b≠b6->upd H7 b6 (HO.lst ((d.we.eraseIdx (e - 1)).map V.str)) b=some o:=λ b o q n n5=>by rw [Ai n5];exact kp _ _ q n
      generalize upd H7 b6 (HO.lst ((d.we.eraseIdx (e - 1)).map V.str))=H8 at g8 g78 kp2 ⊢;have s08:Same H H8:=λ b o q=>kp2 _ _ (s1 _ _ q) (na _ _ _ _ C.l4 q) (na _ _ _ _ C.l6 q);have lr:LLs H8 (FN H) (u4.eraseIdx (e - 1)) (d.td.eraseIdx (e - 1)):=(C.r4.mono (H':=H8) (F':=FN H) (λ q o z l=>kp2 _ _ z l.2 (C.ne l.1 C.l6 (by decide))) λ q l=>(C.fr _ _ l.1).1).erase _;have rD:Rp H8 (FN H) 3 (.ref D) (dPl (Dd.go d (.tp e))):=C.parts hD ok' rfl rfl (kp2 _ _ C.hD (C.fr _ _ C.l4).2.symm (C.fr _ _ C.l6).2.symm) (kp2 _ _ C.h2 (C.ne C.l2 C.l4 (by decide)) (C.ne C.l2 C.l6 (by decide))) (kp2 _ _ C.h3 (C.ne C.l3 C.l4 (by decide)) (C.ne C.l3 C.l6 (by decide))) (C.r3.mono (λ q o z l=>kp2 _ _ z (C.ne l.1 C.l4 (by decide)) (C.ne l.1 C.l6 (by decide))) λ q l=>(C.fr _ _ l.1).1) g78 lr (kp2 _ _ C.h5 (C.ne C.l5 C.l4 (by decide)) (C.ne C.l5 C.l6 (by decide))) g8;walk_at "w";row_lines H8 xA;walk_at "w";row_lines HA xB;walk_at "w";row_lines HB xC;walk_at "w";rw [show decide ((4:Int)=2)=false from rfl];refine B2 ?_;walk_at "w";refine Ao (SqT.of (sC _ _ (sB _ _ (sA _ _ (s08 _ _ dt))))) (show atI _ 1=_ from rfl) ?_;walk_at "w";row_lines HC xE;walk_at "w";row_lines HE xF;walk_at "w";row_lines HF xG;walk_at "w";intro pI nI;exact Gb (dd:= .tp e) (r1:=[]) (r2:=[]) (q1:=[e]) (q2:=[]) k rfl rfl s08 rD sA gA nA sB gB nB sC gC sE gE nE sF gF nF sG gG nI
    | co w' n z'=>
      have ht:=s1 _ _ dt;refine Ao (SqT.of ht) (show atI _ 0=_ from rfl) ?_;walk_at "w";row_lines H1 x2;walk_at "w";refine B3 (r:=false) g2 (by decide +kernel) ?_;walk_at "w";row_lines H2 x3;walk_at "w";refine B3 (r:=false) g3 (by decide +kernel) ?_;have s16:=s2.trans s3;walk_at "w";rw [show decide (("colour":Str)="colour")=true by decide +kernel];refine DI ?_;walk_at "w";refine Ao (SqT.of (s16 _ _ ht)) (show atI _ 3=_ from rfl) ?_;refine Hv ?_;walk_at "w";refine Ao (SqT.of (s16 _ _ ht)) (show atI _ 1=_ from rfl) ?_;walk_at "w";refine ⟨_,rfl,?_⟩;walk_at "w";obtain ⟨k1,k2,k3⟩:=id dk;obtain ⟨bq,cs,j,lj,gq,lc,hix,fin⟩:∃ bq,∃ cs:List Str,∃ j,L j bq/\H1 bq=some (.lst (cs.map V.str))/\cs.length=(if w'=true then d.td.length else d.th.length)/\atI [nV d.sh,nV d.tr, .ref b2, .ref a3, .ref a4, .ref b5, .ref b6] (5+if decide (Es w'="weft")=true then 1 else 0)=some (.ref bq)/\
          ∀ H8:Hp,(∀ b o,H1 b=some o->b≠bq->H8 b=some o)->H8 bq=some (.lst ((cs.set (n - 1) z').map V.str))->Rp H8 (FN H) 3 (.ref D) (dPl (Dd.go d (.co w' n z'))):=by
        cases w' with
        | true=>exact ⟨b6,d.we,6,C.l6,C.h6,ok.fl,by rw [show decide (Es true="weft")=true by decide +kernel];rfl,λ H8 kp g8=>C.parts hD ok' rfl rfl (kp _ _ C.hD (C.fr _ _ C.l6).2.symm) (kp _ _ C.h2 (C.ne C.l2 C.l6 (by decide))) (kp _ _ C.h3 (C.ne C.l3 C.l6 (by decide))) (C.r3.mono (λ q o z l=>kp _ _ z (C.ne l.1 C.l6 (by decide))) λ q l=>(C.fr _ _ l.1).1) (kp _ _ C.h4 (C.ne C.l4 C.l6 (by decide))) (C.r4.mono (λ q o z l=>kp _ _ z (C.ne l.1 C.l6 (by decide))) λ q l=>(C.fr _ _ l.1).1) (kp _ _ C.h5 (C.ne C.l5 C.l6 (by decide))) g8⟩
        | false=>exact ⟨b5,d.wa,5,C.l5,C.h5,ok.wl,by rw [show decide (Es false="weft")=false by decide +kernel];rfl,λ H8 kp g8=>C.parts hD ok' rfl rfl (kp _ _ C.hD (C.fr _ _ C.l5).2.symm) (kp _ _ C.h2 (C.ne C.l2 C.l5 (by decide))) (kp _ _ C.h3 (C.ne C.l3 C.l5 (by decide))) (C.r3.mono (λ q o z l=>kp _ _ z (C.ne l.1 C.l5 (by decide))) λ q l=>(C.fr _ _ l.1).1) (kp _ _ C.h4 (C.ne C.l4 C.l5 (by decide))) (C.r4.mono (λ q o z l=>kp _ _ z (C.ne l.1 C.l5 (by decide))) λ q l=>(C.fr _ _ l.1).1) g8 (kp _ _ C.h6 (C.ne C.l6 C.l5 (by decide)))⟩
      refine AF (v:= .ref bq) (SqL.of (s16 _ _ C.hD)) hix ?_;walk_at "w";refine Ao (SqT.of (s16 _ _ ht)) (show atI _ 2=_ from rfl) ?_;walk_at "w";refine ⟨bq,_,_,n - 1,rfl,rfl,s16 _ _ gq,Hz k1 (by rw [Aa1,lc];exact k2),?_⟩;rw [<-List.map_set];have g8:upd H3 bq (HO.lst ((cs.set (n - 1) z').map V.str)) bq=_:=Af;have kp:∀ b o,H1 b=some o->b≠bq->upd H3 bq (HO.lst ((cs.set (n - 1) z').map V.str)) b=some o:=λ b o q n=>by rw [Ai n];exact s16 _ _ q
      have rD:=fin _ kp g8;generalize upd H3 bq (HO.lst ((cs.set (n - 1) z').map V.str))=H8 at kp rD ⊢;have s08:Same H H8:=λ b o q=>kp _ _ (s1 _ _ q) λ z=>by have:=(C.fr j bq lj).1;rw [<-z,q] at this;cases this
      walk_at "w";row_lines H8 xA;walk_at "w";row_lines HA xB;walk_at "w";row_lines HB xC;walk_at "w";row_lines HC xE;walk_at "w";row_lines HE xF;walk_at "w";row_lines HF xG;walk_at "w";intro pI nI;exact Gb (dd:= .co w' n z') (r1:=[]) (r2:=[]) (q1:=[]) (q2:=[]) k rfl rfl s08 rD sA gA nA sB gB nB sC gC sE gE nE sF gF nF sG gG nI
theorem LF {a b:Str} {A B:Prop} (h:decide (a=b)=false) (k:B):if decide (a=b)=true then A else B:=by rw [h];exact k
theorem K1 {a b:Str} {A B:Prop} (h:decide (a=b)=true) (k:A):if decide (a=b)=true then A else B:=by rw [h];exact k
def Eg (c:Cs):Sp:=λ vs H Q _=>∃ x B lp d st t dd F,vs=[.ref x, .ref t]/\Q8 H F t dd/\HandAt c B H x lp d st/\DrOk d/\
  ((∃ e,dd=some e/\e.ok d/\st.length<=100/\Told c B H x lp (e.go d) (st++[(d,e.back d)]) (e.told d) Q)\/(∃ st0 d0 r,dd=none/\st=st0++[(d0,r)]/\Told c B H x lp d0 st0 r Q))
abbrev EU:Stmt:=top 65
theorem sc__law_done:FnScope ["_law_hand","_law_deed_here","_law_word"] ["_law_hand","_law_deed_here"] (Ah EU):=⟨rfl,rfl,rfl,by decide +kernel,rfl,by decide +kernel,by decide +kernel⟩
theorem KA (F:Fun K "_law_done" "_law_done" EU f fd) (T:Txt K mg c) (d_Hand_thread:AI P w K mg base c.Hand "thread" 10 ["self","end","shaft"] (Fc c aTh)) (d_Hand_tie:AI P w K mg base c.Hand "tie" 10 ["self","treadle","shafts"] (Fc c aTi)) (d_Hand_tread:AI P w K mg base c.Hand "tread" 10 ["self","pick","treadles"] (Fc c aTd)) (d_Hand_put_end:AI P w K mg base c.Hand "put_end" 9 ["self","end","shaft","colour"] (Fc c aPe)) (d_Hand_put_pick:AI P w K mg base c.Hand "put_pick" 9 ["self","pick","treadles","colour"] (Fc c aPp)) (d_Hand_take_end:AI P w K mg base c.Hand "take_end" 9 ["self","end"] (Fc c aTe)) (d_Hand_take_pick:AI P w K mg base c.Hand "take_pick" 9 ["self","pick"] (Fc c aTp)) (d_Hand_colour:AI P w K mg base c.Hand "colour" 10 ["self","side","number","colour"] (Fc c aCo)) (d_Hand_undo:AI P w K mg base c.Hand "undo" 2 ["self"] (FY c)):FnOk P w K mg base CX0 11 f fd ["_law_hand","_law_deed_here"] (Eg c):=by
  refine F.ok sc__law_done (λ vs H Q E h=> ?_) (λ cdv A outer s H vs Q E hr h=> ?_)
  · obtain ⟨x,B,lp,d,st,t,dd,F,rfl,_⟩:=h;rfl
  · obtain ⟨x,B,lp,d,st,t,dd,F',rfl,dt,hA,ok,hk⟩:=h;obtain ⟨dx,y,refs,hx,hl,D0,S0⟩:=hA.ex;refine ⟨_,(Ac (Av (i:=2) sc__law_done.nd rfl (Or.inl rfl) (Ar (AN (K:=K)) (pv 1) Ad (λ _ _=>rfl)))
      (Ac (AM (Au Bg (pv 2) Aq (AC _)) (Ag (Ak (AY (pv 0) d_Hand_thread hr (Aa (Ar (AN (K:=K)) (pv 1) Ad (λ _ _=>rfl)) (Aa (Ar (AN (K:=K)) (pv 1) Ad (λ _ _=>rfl)) Ab))))) Ay)
      (Ac (AM (Au Bg (pv 2) Aq (AC _)) (Ag (Ak (AY (pv 0) d_Hand_tie hr (Aa (Ar (AN (K:=K)) (pv 1) Ad (λ _ _=>rfl)) (Aa (Ar (AN (K:=K)) (pv 1) Ad (λ _ _=>rfl)) Ab))))) Ay)
      (Ac (AM (Au Bg (pv 2) Aq (AC _)) (Ag (Ak (AY (pv 0) d_Hand_tread hr (Aa (Ar (AN (K:=K)) (pv 1) Ad (λ _ _=>rfl)) (Aa (Ar (AN (K:=K)) (pv 1) Ad (λ _ _=>rfl)) Ab))))) Ay)
      (Ac (AM (Au Bg (pv 2) Aq (AC _)) (Ag (Ak (AY (pv 0) d_Hand_put_end (hr.mono (by decide)) (Aa (Ar (AN (K:=K)) (pv 1) Ad (λ _ _=>rfl)) (Aa (Ar (AN (K:=K)) (pv 1) Ad (λ _ _=>rfl)) (Aa (Ar (AN (K:=K)) (pv 1) Ad (λ _ _=>rfl)) Ab)))))) Ay)
      (Ac (AM (Au Bg (pv 2) Aq (AC _)) (Ag (Ak (AY (pv 0) d_Hand_put_pick (hr.mono (by decide)) (Aa (Ar (AN (K:=K)) (pv 1) Ad (λ _ _=>rfl)) (Aa (Ar (AN (K:=K)) (pv 1) Ad (λ _ _=>rfl)) (Aa (Ar (AN (K:=K)) (pv 1) Ad (λ _ _=>rfl)) Ab)))))) Ay)
      (Ac (AM (Au Bg (pv 2) Aq (AC _)) (Ag (Ak (AY (pv 0) d_Hand_take_end (hr.mono (by decide)) (Aa (Ar (AN (K:=K)) (pv 1) Ad (λ _ _=>rfl)) Ab)))) Ay)
      (Ac (AM (Au Bg (pv 2) Aq (AC _)) (Ag (Ak (AY (pv 0) d_Hand_take_pick (hr.mono (by decide)) (Aa (Ar (AN (K:=K)) (pv 1) Ad (λ _ _=>rfl)) Ab)))) Ay)
      (Ac (AM (Au Bg (pv 2) Aq (AC _)) (Ag (Ak (AY (pv 0) d_Hand_colour hr (Aa (Ar (AN (K:=K)) (pv 1) Ad (λ _ _=>rfl)) (Aa (Ar (AN (K:=K)) (pv 1) Ad (λ _ _=>rfl)) (Aa (Ar (AN (K:=K)) (pv 1) Ad (λ _ _=>rfl)) Ab)))))) Ay)
      (Ag (Ak (AG (pv 0) d_Hand_undo (hr.mono (by decide)))))))))))))),?_⟩
    walk_at "w";rcases hk with ⟨e,rfl,ek,ls,k⟩ | ⟨st0,d0,r,rfl,rfl,k⟩
    case inr=>
      refine Ao (SqT.of dt) (show atI _ 0=_ from rfl) ?_;walk_at "w"
      iterate 8 (refine LF (by decide +kernel) ?_;walk_at "w")
      refine ⟨_,_,_,rfl,hx,rfl,?_⟩;walk_at "w";exact ⟨x,B,lp,d,st0,d0,r,rfl,hA,k⟩
    cases e with
    | th e' s'=>
      refine Ao (SqT.of dt) (show atI _ 0=_ from rfl) ?_;walk_at "w";refine K1 (by decide +kernel) ?_;walk_at "w";refine ⟨_,_,_,rfl,hx,rfl,?_⟩;walk_at "w";refine Ao (SqT.of dt) (show atI _ 1=_ from rfl) ?_;walk_at "w";refine Ao (SqT.of dt) (show atI _ 2=_ from rfl) ?_;walk_at "w";exact ⟨x,B,lp,d,st,_,_,rfl,⟨e',s',rfl,rfl⟩,hA,ok,ek,ls,k⟩
    | ti e' l=>
      obtain ⟨al,_,gal,_,dt⟩:=dt;refine Ao (SqT.of dt) (show atI _ 0=_ from rfl) ?_;walk_at "w";refine LF (by decide +kernel) ?_;walk_at "w";refine K1 (by decide +kernel) ?_;walk_at "w";refine ⟨_,_,_,rfl,hx,rfl,?_⟩;walk_at "w";refine Ao (SqT.of dt) (show atI _ 1=_ from rfl) ?_;walk_at "w";refine Ao (SqT.of dt) (show atI _ 2=_ from rfl) ?_;walk_at "w";exact ⟨x,B,lp,d,st,_,_,rfl,⟨e',l,al,rfl,rfl,gal⟩,hA,ok,ek,ls,k⟩
    | td e' l=>
      obtain ⟨al,_,gal,_,dt⟩:=dt;refine Ao (SqT.of dt) (show atI _ 0=_ from rfl) ?_;walk_at "w"
      iterate 2 (refine LF (by decide +kernel) ?_;walk_at "w")
      refine K1 (by decide +kernel) ?_;walk_at "w";refine ⟨_,_,_,rfl,hx,rfl,?_⟩;walk_at "w";refine Ao (SqT.of dt) (show atI _ 1=_ from rfl) ?_;walk_at "w";refine Ao (SqT.of dt) (show atI _ 2=_ from rfl) ?_;walk_at "w";exact ⟨x,B,lp,d,st,_,_,rfl,⟨e',l,al,rfl,rfl,gal⟩,hA,ok,ek,ls,k⟩
    | co w' n z=>
      refine Ao (SqT.of dt) (show atI _ 0=_ from rfl) ?_;walk_at "w"
      iterate 7 (refine LF (by decide +kernel) ?_;walk_at "w")
      refine K1 (by decide +kernel) ?_;walk_at "w";refine ⟨_,_,_,rfl,hx,rfl,?_⟩;walk_at "w";refine Ao (SqT.of dt) (show atI _ 1=_ from rfl) ?_;walk_at "w";refine Ao (SqT.of dt) (show atI _ 2=_ from rfl) ?_;walk_at "w";refine Ao (SqT.of dt) (show atI _ 3=_ from rfl) ?_;walk_at "w";exact ⟨x,B,lp,d,st,_,_,rfl,⟨w',n,z,rfl,rfl⟩,hA,ok,ek,ls,k⟩
    | pe e' s' z=>
      refine Ao (SqT.of dt) (show atI _ 0=_ from rfl) ?_;walk_at "w"
      iterate 3 (refine LF (by decide +kernel) ?_;walk_at "w")
      refine K1 (by decide +kernel) ?_;walk_at "w";refine ⟨_,_,_,rfl,hx,rfl,?_⟩;walk_at "w";refine Ao (SqT.of dt) (show atI _ 1=_ from rfl) ?_;walk_at "w";refine Ao (SqT.of dt) (show atI _ 2=_ from rfl) ?_;walk_at "w";refine Ao (SqT.of dt) (show atI _ 3=_ from rfl) ?_;walk_at "w";exact ⟨x,B,lp,d,st,_,_,rfl,⟨e',s',z,rfl,rfl⟩,hA,ok,ek,ls,k⟩
    | pp e' l z=>
      obtain ⟨al,_,gal,_,dt⟩:=dt;refine Ao (SqT.of dt) (show atI _ 0=_ from rfl) ?_;walk_at "w"
      iterate 4 (refine LF (by decide +kernel) ?_;walk_at "w")
      refine K1 (by decide +kernel) ?_;walk_at "w";refine ⟨_,_,_,rfl,hx,rfl,?_⟩;walk_at "w";refine Ao (SqT.of dt) (show atI _ 1=_ from rfl) ?_;walk_at "w";refine Ao (SqT.of dt) (show atI _ 2=_ from rfl) ?_;walk_at "w";refine Ao (SqT.of dt) (show atI _ 3=_ from rfl) ?_;walk_at "w";exact ⟨x,B,lp,d,st,_,_,rfl,⟨e',l,z,al,rfl,rfl,gal⟩,hA,ok,ek,ls,k⟩
    | te e'=>
      refine Ao (SqT.of dt) (show atI _ 0=_ from rfl) ?_;walk_at "w"
      iterate 5 (refine LF (by decide +kernel) ?_;walk_at "w")
      refine K1 (by decide +kernel) ?_;walk_at "w";refine ⟨_,_,_,rfl,hx,rfl,?_⟩;walk_at "w";refine Ao (SqT.of dt) (show atI _ 1=_ from rfl) ?_;walk_at "w";exact ⟨x,B,lp,d,st,_,_,rfl,⟨e',rfl,rfl⟩,hA,ok,ek,ls,k⟩
    | tp e'=>
      refine Ao (SqT.of dt) (show atI _ 0=_ from rfl) ?_;walk_at "w"
      iterate 6 (refine LF (by decide +kernel) ?_;walk_at "w")
      refine K1 (by decide +kernel) ?_;walk_at "w";refine ⟨_,_,_,rfl,hx,rfl,?_⟩;walk_at "w";refine Ao (SqT.of dt) (show atI _ 1=_ from rfl) ?_;walk_at "w";exact ⟨x,B,lp,d,st,_,_,rfl,⟨e',rfl,rfl⟩,hA,ok,ek,ls,k⟩
def EO (c:Cs):Sp:=λ vs H Q _=>∃ x v B lp d st F,vs=[.ref x,v]/\HandAt c B H x lp d st/\DrOk d/\Rp H F 3 v (dPl d)/\∀ H',Same H H'->Q (.bl true) H'
abbrev Di:Stmt:=top 66
theorem Ic:FnScope ["_law_hand","_law_parts"] ["_law_hand","_law_parts"] (Ah Di):=⟨rfl,rfl,rfl,by decide +kernel,rfl,by decide +kernel,by decide +kernel⟩
theorem Ij (F:Fun K "_law_stands" "_law_stands" Di f fd) (T:Txt K mg c) (c__law_same:CallF P w K mg base "_law_same" (4+1) ["_law_found","_law_due"] (BW 4)) (d_Hand_draft:AI P w K mg base c.Hand "draft" 9 ["self"] (Dj c)) (d_Draft_told:AI P w K mg base c.Draft "told" 1 ["self"] (Co c)) (d_Hand_cloth:AI P w K mg base c.Hand "cloth" 7 ["self"] (Dg c)) (d_Cloth_told:AI P w K mg base c.Cloth "told" 1 ["self"] (Dq c)) (c__law_woven:CallF P w K mg base "_law_woven" 2 ["_law_parts"] Do):FnOk P w K mg base CX0 10 f fd ["_law_hand","_law_parts"] (EO c):=by
  refine F.ok Ic (λ vs H Q E h=> ?_) (λ cdv A outer s H vs Q E hr h=> ?_)
  · obtain ⟨x,v,B,lp,d,st,F,rfl,_⟩:=h;rfl
  · obtain ⟨x,v,B,lp,d,st,F',rfl,hA,ok,rv,k⟩:=h;obtain ⟨dx,y,refs,hx,hl,D0,S0⟩:=hA.ex;obtain ⟨m,a,a2,v3,v4,a5,a6,em,rfl,_,ha,e2,_,q3,q4,e5,_,e6,_⟩:=Ck rv;cases em;refine ⟨_,(Ac (AM (Ce (Bp (Ae c__law_same (hr.mono (by decide)) (Aa (AG (AG (pv 0) d_Hand_draft hr) d_Draft_told (hr.mono (by decide))) (Aa (As (BN (K:=K)) rfl (T.own _ (by decide)) AJ (Aa (pv 1) Ab)) Ab))))) (Ag (Ak Fo)) Ay)
      (Ag (Ak (Ae c__law_same (hr.mono (by decide)) (Aa (AG (AG (pv 0) d_Hand_cloth (hr.mono (by decide))) d_Cloth_told (hr.mono (by decide))) (Aa (AE (Aa (Am (BA (K:=K)) rfl (T.own _ (by decide)) boot_len (Aa (Ar (A6 (K:=K)) (pv 1) Ad (λ _ _=>rfl)) Ab)) (Aa (Ae c__law_woven (hr.mono (by decide)) (Aa (pv 1) Ab)) Ab))) Ab)))))),?_⟩
    walk_at "w";refine ⟨_,_,_,rfl,hx,rfl,?_⟩;walk_at "w";refine ⟨x,B,lp,d,st,rfl,hA,ok,λ H1 y1 s1 n1 D1=> ?_⟩;obtain ⟨dy,w1,w2,w3,w4,w5,hy1,_⟩:=id D1;walk_at "w";refine ⟨_,_,_,rfl,hy1,rfl,?_⟩;walk_at "w";refine ⟨y1,d,rfl,D1,λ H2 p2 s2 n2 r2=> ?_⟩;walk_at "w";have s02:=s1.trans s2;refine Bt (SqL.of (s02 _ _ ha)) λ p3 n3=> ?_;wrow_has H2 x3;have s03:=s02.trans s3;refine ⟨_,_,dDr d,rfl,(r2.any).same s3,HK g3 (.int _) (.int _) (Be (s03 _ _ e2) trivial (by have:=ok.h2;omega)) ((q3.any).same s03) ((q4.any).same s03) (Ji (s03 _ _ e5) trivial (by have:=ok.h2;have:=ok.wl;omega)) (Ji (s03 _ _ e6) trivial (by have:=ok.p2;have:=ok.fl;omega)),λ H4 s4=> ?_⟩;refine ⟨true,rfl,RK ?_⟩;have s04:=s03.trans s4;walk_at "w";refine ⟨_,_,_,rfl,s04 _ _ hx,rfl,?_⟩;walk_at "w";refine ⟨x,B,lp,d,st,rfl,hA.same s04,ok,λ H5 y5 s5 n5 C5=> ?_⟩;obtain ⟨dc,tc,hc5,_⟩:=id C5;refine ⟨_,_,_,rfl,hc5,rfl,?_⟩;walk_at "w";refine ⟨y5,_,_,rfl,C5,λ H6 p6 l6 s6 n6 nl6 g6 gl6=> ?_⟩;have s06:=s04.trans (s5.trans s6);walk_at "w";refine AF (v:= .ref a2) (SqL.of (s06 _ _ ha)) (AH (j:=2) rfl) ?_;walk_at "w";refine A9 (SqL.of (s06 _ _ e2)) ?_;rw [Aa1];walk_at "w";refine ⟨_,d,F',rfl,rv.same s06,ok,λ H7 p7 s7 n7 g7=> ?_⟩;walk_at "w";row_lines H7 x8;walk_at "w";have lw:(BV d).length<=100000:=by unfold BV;rw [Aa1];have:=ok.p2;omega
    refine ⟨_,_, .tup [dN d.th.length,dL (BV d)],rfl,B8 ((s7.trans s8) _ _ g6) (.int _) (Be ((s7.trans s8) _ _ gl6) trivial lw),B8 g8 (.int _) (Be (s8 _ _ g7) trivial lw),λ H9 s9=> ?_⟩;exact k H9 (s06.trans (s7.trans (s8.trans s9)))
def zf (x y z:Addr) (H:Hp):Hp:=λ b=>if b=x\/b=y\/b=z then none else H b
theorem Dc:Same (zf x y z H) H:=λ b o e=>by
  unfold zf at e;split at e
  · cases e
  · exact e
theorem C2 (h:H b=some o) (n1:b≠x) (n2:b≠y) (n3:b≠z):zf x y z H b=some o:=by
  unfold zf;rw [if_neg (by rintro (q | q | q) <;> contradiction)];exact h
theorem OK (e:zf x y z H b=some o):H b=some o/\b≠x/\b≠y/\b≠z:=by
  unfold zf at e;split at e
  · cases e
  · rename_i n
    exact ⟨e,λ q=>n (.inl q),λ q=>n (.inr (.inl q)),λ q=>n (.inr (.inr q))⟩
def But3 (x y z:Addr) (H H':Hp):Prop:=∀ b o,H b=some o->b≠x->b≠y->b≠z->H' b=some o
theorem But3.zf (h:But3 x y z H H'):Same (zf x y z H) (zf x y z H'):=λ b o e=>by
  obtain ⟨e,n1,n2,n3⟩:=OK e;exact C2 (h b o e n1 n2 n3) n1 n2 n3
theorem But3.of (s:Same H H'):But3 x y z H H':=λ b o e _ _ _=>s _ _ e
theorem K2 {d:Dt} {fs:List (Str × V)} {zs:List V} (r:Rp H F n v d) (hx:H x=some (.ins C dx fs)) (hy:H y=some (.lst ys)) (hz:H z=some (.lst zs)) (fy:¬ F y) (fz:¬ F z):Rp (zf x y z H) F n v d:=by
  induction r with
  | non=>exact .non
  | bl b=>exact .bl b
  | int i=>exact .int i
  | str z=>exact .str z
  | lst h f b l e ih=>exact .lst (C2 h (A3 h hx (by intro q;cases q)) (λ q=>fy (q▸f)) (λ q=>fz (q▸f))) f b l ih
  | tup h b l e ih=>exact .tup (C2 h (A3 h hx (by intro q;cases q)) (A3 h hy (by intro q;cases q)) (A3 h hz (by intro q;cases q))) b l ih
theorem RpL.same (r:RpL H F n vs ds) (s:Same H H'):RpL H' F n vs ds:=by
  induction r with
  | nil=>exact .nil
  | cons h t ih=>exact .cons (h.same s) ih
theorem RpL.len (r:RpL H F n vs ds):vs.length=ds.length:=by
  induction r with
  | nil=>rfl
  | cons h t ih=>rw [Ac6,Ac6,ih]
theorem RpL.snoc {d:Dt} (r:RpL H F n vs ds) (g:Rp H F n v d):RpL H F n (vs++[v]) (ds++[d]):=by
  induction r with
  | nil=>exact .cons g .nil
  | cons h t ih=>exact .cons h ih
theorem RpL.last {d:Dt} (r:RpL H F n vs (ds++[d])):∃ us u,vs=us++[u]/\RpL H F n us ds/\Rp H F n u d:=by
  induction ds generalizing vs with
  | nil=>
    obtain ⟨v,us,rfl,h,t⟩:=r.inv;cases t.inv0;exact ⟨[],v,rfl, .nil,h⟩
  | cons e ds ih=>
    obtain ⟨v,us,rfl,h,t⟩:=r.inv;obtain ⟨us,u,rfl,h1,h2⟩:=ih t;exact ⟨v::us,u,rfl, .cons h h1,h2⟩
theorem RpL.lst (r:RpL H F n vs ds) (h:H a=some (.lst vs)) (f:F a) (l:ds.length<=100000):Rp H F (n+1) (.ref a) (.lst ds):=by
  refine .lst h f (by rw [r.len];exact l) r.len ?_;clear h f l
  induction r with
  | nil=>intro i v d e;simp at e
  | cons h t ih=>
    intro i v d e1 e2;cases i with
    | zero=>cases e1;cases e2;exact h
    | succ i=>exact ih i v d e1 e2
def dEn (e:Dr × Bk):Dt:= .tup [dPl e.1,dBk e.2]
def Nu:Option Dd->Str
  | some (.th _ _)=>"thread"
  | some (.ti _ _)=>"tie"
  | some (.td _ _)=>"tread"
  | some (.co _ _ _)=>"colour"
  | some (.pe _ _ _)=>"put_end"
  | some (.pp _ _ _)=>"put_pick"
  | some (.te _)=>"take_end"
  | some (.tp _)=>"take_pick"
  | none=>"undo"
theorem MW (dd:Option Dd):decide (Nu dd="undo")=dd.isNone:=by
  cases dd with
  | none=>decide +kernel
  | some e=>cases e <;> first | exact (by decide +kernel:decide (("thread":Str)="undo")=false) | exact (by decide +kernel:decide (("tie":Str)="undo")=false) | exact (by decide +kernel:decide (("tread":Str)="undo")=false) | exact (by decide +kernel:decide (("colour":Str)="undo")=false) | exact (by decide +kernel:decide (("put_end":Str)="undo")=false) | exact (by decide +kernel:decide (("put_pick":Str)="undo")=false) | exact (by decide +kernel:decide (("take_end":Str)="undo")=false) | exact (by decide +kernel:decide (("take_pick":Str)="undo")=false)
theorem ML {t:Addr} {dd:Option Dd} (h:Q8 H F t dd):∃ us,H t=some (.tup (.str (Nu dd)::us)):=by
  cases dd with
  | none=>exact ⟨_,h⟩
  | some e=>
    cases e with
    | ti k l=>obtain ⟨a,_,_,_,h⟩:=h;exact ⟨_,h⟩
    | td k l=>obtain ⟨a,_,_,_,h⟩:=h;exact ⟨_,h⟩
    | pp k l z=>obtain ⟨a,_,_,_,h⟩:=h;exact ⟨_,h⟩
    | _=>exact ⟨_,h⟩
theorem Mv (h:ns.length<=100):SmD (dL ns):= .lst (by rw [Aa1];exact h) λ d hd=>by
  obtain ⟨n,_,rfl⟩:=Ac3.mp hd;exact .int _
theorem Vb {ns:List Str} (h:ns.length<=100):SmD (dS ns):= .lst (by rw [Aa1];exact h) λ d hd=>by
  obtain ⟨n,_,rfl⟩:=Ac3.mp hd;exact .str _
theorem RF (h:ls.length<=100) (g:∀ l∈ls,l.length<=100):SmD (dLL ls):= .lst (by rw [Aa1];exact h) λ d hd=>by
  obtain ⟨n,hn,rfl⟩:=Ac3.mp hd;exact Mv (g n hn)
theorem YC {d:Dr} (ok:DrOk d):SmD (dDr d):=by
  have:=ok.h2;have:=ok.p2;have:=ok.wl;have:=ok.fl;have:=ok.il;have:=ok.t2;have:=ok.s2;refine .tup (by show 7<=100;decide) λ x hx=> ?_;simp only [Ab2,Ac7,or_false] at hx;rcases hx with rfl | rfl | rfl | rfl | rfl | rfl | rfl
  · exact .int _
  · exact .int _
  · exact Mv (by omega)
  · exact RF (by omega) λ l hl=>by have:=(ok.ir l hl).len;omega
  · exact RF (by omega) λ l hl=>by have:=(ok.pr l hl).len;omega
  · exact Vb (by omega)
  · exact Vb (by omega)
theorem V0 {r:Bk} (h1:r.1.length<=100) (h2:r.2.length<=100):SmD (dBk r):=by
  refine .tup (by show 2<=100;decide) λ x hx=> ?_;simp only [Ab2,Ac7,or_false] at hx;rcases hx with rfl | rfl
  · exact Mv h1
  · exact Mv h2
theorem Wy {d:Dr} (ok:DrOk d) {dd:Option Dd} (h:∀ e,dd=some e->e.ok d):SmD (dDd dd):=by
  have t2:=ok.t2;have s2:=ok.s2;have ne:∀ {x:Dt} {l:List Dt},x∈l->x∈l:=λ q=>q;cases dd with
  | none=>exact .tup (by show 1<=100;decide) λ x hx=>by simp only [Ab2,Ac7,or_false] at hx;subst hx;exact .str _
  | some e=>
    have ek:=h e rfl;cases e with
    | ti k l=>
      refine .tup (by show 3<=100;decide) λ x hx=> ?_;simp only [Ab2,Ac7,or_false] at hx;rcases hx with rfl | rfl | rfl
      · exact .str _
      · exact .int _
      · exact Mv (by have:=ek.2.2.len;omega)
    | td k l=>
      refine .tup (by show 3<=100;decide) λ x hx=> ?_;simp only [Ab2,Ac7,or_false] at hx;rcases hx with rfl | rfl | rfl
      · exact .str _
      · exact .int _
      · exact Mv (by have:=ek.2.2.len;omega)
    | pp k l z=>
      refine .tup (by show 4<=100;decide) λ x hx=> ?_;simp only [Ab2,Ac7,or_false] at hx;rcases hx with rfl | rfl | rfl | rfl
      · exact .str _
      · exact .int _
      · exact Mv (by have:=ek.2.2.1.len;omega)
      · exact .str _
    | _=>
      refine .tup (by first | (show 2<=100;decide) | (show 3<=100;decide) | (show 4<=100;decide)) λ x hx=> ?_;simp only [Ab2,Ac7,or_false] at hx
      repeat (first | exact hx.elim (λ q=>q▸ .int _) | (rcases hx with rfl | hx;first | exact .str _ | exact .int _) | (subst hx;first | exact .str _ | exact .int _))
theorem EB {d:Dr} (ok:DrOk d) (e:Dd):(e.told d).1.length<=60/\(e.told d).2.length<=60:=by
  have l:∀ ns,(CC (GR d) ns).length<=60:=λ ns=>Ac5 (GG _ _) (by rw [Aa1];exact ok.p2);cases e with
  | th e s=>exact ⟨Ad3 _,by rw [Kt];split <;> simp⟩
  | ti t k=>exact ⟨l _,Ad3 _⟩
  | td t k=>exact ⟨l _,Ad3 _⟩
  | _=>exact ⟨by simp [Dd.told],by simp [Dd.told]⟩
theorem O6 {d:Dr} (ok:DrOk d) (e:Dd):(e.back d).1.length<=60/\(e.back d).2.length<=60:=by
  cases e with
  | pe _ _ _=>exact ⟨Ad3 _,Ad3 _⟩
  | pp _ _ _=>exact ⟨Ad3 _,Ad3 _⟩
  | te _=>exact ⟨Ad3 _,by simp [Dd.back]⟩
  | tp _=>exact ⟨by simp [Dd.back],Ad3 _⟩
  | th e s=>exact EB ok (.th e s)
  | ti t k=>exact EB ok (.ti t k)
  | td t k=>exact EB ok (.td t k)
  | co _ _ _=>exact ⟨Ad3 _,Ad3 _⟩
theorem Tg (ds:List Dt):eqD (.lst ds) (.lst [])=ds.isEmpty:=by
  cases ds with
  | nil=>rfl
  | cons d ds=>rfl
structure Trn (c:Cs) (H:Hp) (x lp lq P:Addr) (d:Dr) (st:List (Dr × Bk)):Prop where
  ha:∃ B,HandAt c B H x lp d st/\B lq=none
  ok:DrOk d
  oks:∀ e∈st,DrOk e.1/\e.2.1.length<=60/\e.2.2.length<=60
  pa:Rp (zf x lp lq H) FT 3 (.ref P) (dPl d)
  qs:∃ qs,H lq=some (.lst qs)/\RpL (zf x lp lq H) FT 4 qs (st.map dEn)
theorem Trn.same {c:Cs} {lq P:Addr} {d:Dr} {st:List (Dr × Bk)} (t:Trn c H x lp lq P d st) (s:Same H H'):Trn c H' x lp lq P d st:=
  let ⟨B,h,b⟩:=t.ha;let ⟨qs,g,r⟩:=t.qs;have z:=(But3.of (x:=x) (y:=lp) (z:=lq) s).zf
  ⟨⟨B,h.same s,b⟩,t.ok,t.oks,t.pa.same z,⟨qs,s _ _ g,r.same z⟩⟩
theorem KH {k:Nat} {H0:Hp} (a:Ap F k H H') (s:Same H0 H) (n:∀ b xs,F b->H0 b=some (.lst xs)->False):Same H0 H':=λ b o e=>by
  rcases a b o (s _ _ e) with z | ⟨f,xs,j,rfl,_,_⟩
  · exact z
  · exact (n b xs f e).elim
def Nx (d:Dr) (st:List (Dr × Bk)) (dd:Option Dd) (d':Dr) (st':List (Dr × Bk)) (r:Bk):Prop:=
  (∃ e,dd=some e/\e.ok d/\d'=e.go d/\st'=st++[(d,e.back d)]/\r=e.told d)\/(dd=none/\st=st'++[(d',r)])
theorem HandAt.wr {c:Cs} {d:Dr} {st:List (Dr × Bk)} (h:HandAt c B H x lp d st) (bq:B q=none) (n1:q≠x) (n2:q≠lp):HandAt c B (upd H q o) x lp d st:=
  let ⟨dx,y,refs,h1,h2,h3,h4⟩:=h.ex
  ⟨⟨dx,y,refs,by rw [Ai n1.symm];exact h1,by rw [Ai n2.symm];exact h2,h3,h4⟩,λ b o' e=>by
    have n:b≠q:=λ z=>by rw [z,bq] at e;cases e
    rw [Ai n];exact h.sB _ _ e,h.bx,h.bl⟩
theorem RY {c:Cs} {R:Addr->Hp->Prop} {d:Dr} (D0:DrAt c.Draft H y d) (ok:DrOk d) (h:∀ H' x lp B,Same H H'->H x=none->H lp=none->(∀ b o,H b=some o->(∀ us,o≠ .tup us)->B b=none)->HandAt c B H' x lp d []->R x H'):
    ∀ x dx,H x=none->H dx=none->dx≠x->Cb c [.ref x, .ref y] (upd (upd H dx (.own x)) x (.ins c.Hand dx [])) (λ v H2=>v= .non/\R x H2) E0:=by
  intro x dx hx hdx ne;have s0:=Ip (o:=HO.ins c.Hand dx []) (u:= .own x) hx hdx;exact ⟨x,dx,y,d,rfl,Af,D0.same s0,ok,λ H' B lp kp hl hB hA=>⟨rfl,h H' x lp B (λ b o e=>kp b o (s0 b o e) (Ax e hx)) hx (s0.free hl) (λ b o e n=>hB b o (s0 _ _ e) n) hA⟩⟩
theorem Rc {c:Cs} {t:Addr} {d d2:Dr} {st st2:List (Dr × Bk)} {dd:Option Dd} {r:Bk} {E:XK} (dt:Q8 H F t dd) (hA:HandAt c B H x lp d st) (ok:DrOk d) (ls:st.length<=100) (n:Nx d st dd d2 st2 r) (k:Told c B H x lp d2 st2 r Q):Eg c [.ref x, .ref t] H Q E:=by
  refine ⟨x,B,lp,d,st,t,dd,F,rfl,dt,hA,ok,?_⟩;rcases n with ⟨e,rfl,ek,rfl,rfl,rfl⟩ | ⟨rfl,rfl⟩
  · exact .inl ⟨e,rfl,ek,ls,k⟩
  · exact .inr ⟨_,_,_,rfl,rfl,k⟩
theorem Nx.ok {d d2:Dr} {st st2:List (Dr × Bk)} {dd:Option Dd} {r:Bk} (n:Nx d st dd d2 st2 r) (ok:DrOk d) (oks:∀ e∈st,DrOk e.1/\e.2.1.length<=60/\e.2.2.length<=60):DrOk d2/\(∀ e∈st2,DrOk e.1/\e.2.1.length<=60/\e.2.2.length<=60)/\r.1.length<=60/\r.2.length<=60/\st2.length<=st.length+1:=by
  rcases n with ⟨e,rfl,ek,rfl,rfl,rfl⟩ | ⟨rfl,rfl⟩
  · refine ⟨Dd.go_ok ok e ek,λ z hz=> ?_,(EB ok e).1,(EB ok e).2,by rw [Ac0];exact Aa7 _⟩;rcases List.mem_append.mp hz with q | q
    · exact oks z q
    · cases List.mem_singleton.mp q;exact ⟨ok,O6 ok e⟩
  · have h:=oks (d2,r) (Ac8 _ Ad1);exact ⟨h.1,λ z hz=>oks z (List.mem_append_left _ hz),h.2.1,h.2.2,by rw [Ac0];omega⟩
theorem HandAt.keep {c:Cs} {d:Dr} {st:List (Dr × Bk)} (h:HandAt c B H x lp d st) (kx:∀ o,H x=some o->H' x=some o) (kl:∀ o,H lp=some o->H' lp=some o) (s:Same B H'):HandAt c B H' x lp d st:=
  let ⟨dx,y,refs,h1,h2,h3,h4⟩:=h.ex;⟨⟨dx,y,refs,kx _ h1,kl _ h2,h3,h4⟩,s,h.bx,h.bl⟩
theorem RW {r:Bk} (g:H p=some (.tup [.ref l1, .ref l2])) (g1:H l1=some (.lst (r.1.map nV))) (f1:F l1) (g2:H l2=some (.lst (r.2.map nV))) (f2:F l2) (b1:r.1.length<=60) (b2:r.2.length<=60):Rp H F (n+2) (.ref p) (dBk r):=B8 g (Be g1 f1 (by omega)) (Be g2 f2 (by omega))
abbrev Ol:Stmt:=top 67
theorem sc_law:FnScope ["_law_script","_law_parts","_law_first","_law_draft_here","_law_hand","_law_other","_law_kept","_law_past","_law_cell","_law_deed_here","_law_due","_law_after","_law_back","_law_handed","_law_found"] ["_law_script"] (Ah Ol):=⟨rfl,rfl,rfl,by decide +kernel,rfl,by decide +kernel,by decide +kernel⟩
theorem TB (F:Fun K "law" "law" Ol f fd) (T:Txt K mg c) (c__law_draft:CallF P w K mg base "_law_draft" 2 ["_law_script","_law_most"] (Fn K)) (c__law_copied:CallF P w K mg base "_law_copied" (4+1) ["_law_thing"] (BE 4)) (c__law_made:CallF P w K mg base "_law_made" 8 ["_law_parts"] (FS c)) (m_Hand:GX P w K mg base "Hand" c.Hand 9 ["self","draft"] (Cb c)) (d_Hand_draft:AI P w K mg base c.Hand "draft" 9 ["self"] (Dj c)) (d_Hand_cloth:AI P w K mg base c.Hand "cloth" 7 ["self"] (Dg c)) (c__law_deed:CallF P w K mg base "_law_deed" 2 ["_law_parts","_law_cell"] Gd) (c__law_behind:CallF P w K mg base "_law_behind" 6 ["_law_parts","_law_deed_here"] EZ) (c__law_done:CallF P w K mg base "_law_done" 11 ["_law_hand","_law_deed_here"] (Eg c)) (c__law_same:CallF P w K mg base "_law_same" (4+1) ["_law_found","_law_due"] (BW 4)) (c__law_spoilt:CallF P w K mg base "_law_spoilt" (4+1) ["_law_told"] (BG 4)) (c__law_stands:CallF P w K mg base "_law_stands" 10 ["_law_hand","_law_parts"] (EO c)) (d_Draft_told:AI P w K mg base c.Draft "told" 1 ["self"] (Co c)) (d_Cloth_told:AI P w K mg base c.Cloth "told" 1 ["self"] (Dq c)) (c_woven:CallF P w K mg base "woven" 6 ["draft"] (IV c)) (c__law_woven:CallF P w K mg base "_law_woven" 2 ["_law_parts"] Do):FnOk P w K mg base CX0 12 f fd ["_law_script"] (M6 K):=by
  refine F.ok sc_law (λ vs H Q E h=> ?_) (λ cdv A outer s H vs Q E hr h=> ?_)
  · obtain ⟨a,ns,rfl,_⟩:=h;rfl
  · obtain ⟨a,ns,rfl,sa,hl,k⟩:=h;have hu:=hr.units0;have hu1:=hr.units1;refine ⟨_,(Ac (Av (i:=1) sc_law.nd rfl (Or.inl rfl) (As (BD (K:=K)) rfl (T.own _ (by decide)) AA (Aa (Ae c__law_draft (hr.mono (by decide)) (Aa (Cr (R9 (K:=K)) (pv 0) Da (C7 Ad)) (Aa Ad Ab))) Ab)))
      (Ac (Av (i:=2) sc_law.nd rfl (Or.inl rfl) (Ae c__law_copied (hr.mono (by decide)) (Aa (pv 1) Ab)))
      (Ac (Av (i:=3) sc_law.nd rfl (Or.inl rfl) (Ae c__law_made (hr.mono (by decide)) (Aa (Ae c__law_copied (hr.mono (by decide)) (Aa (pv 1) Ab)) Ab)))
      (Ac (Av (i:=4) sc_law.nd rfl (Or.inl rfl) (EA m_Hand (hr.mono (by decide)) (Aa (pv 3) Ab)))
      (Ac (Av (i:=5) sc_law.nd rfl (Or.inl rfl) (EA m_Hand (hr.mono (by decide)) (Aa (pv 3) Ab)))
      (Ac (Av (i:=6) sc_law.nd rfl (Or.inl rfl) (AB (Aa (AG (pv 4) d_Hand_draft (hr.mono (by decide))) (Aa (AG (pv 4) d_Hand_cloth (hr.mono (by decide))) Ab))))
      (Ac (Av (i:=7) sc_law.nd rfl (Or.inl rfl) (AB Ab))
      (Ac (EL PassesOwn.never rfl (BJ (K:=K) (pv 0)) (AV (i:=8) sc_law.nd rfl (Or.inl rfl)) (Ac (Av (i:=9) sc_law.nd rfl (Or.inl rfl) (Ae c__law_deed (hr.mono (by decide)) (Aa (pv 1) (Aa (pv 8) Ab))))
      (Ac (AM (PW.pt (HR (Au Bg (Ar (AN (K:=K)) (pv 9) Ad (λ _ _=>rfl)) Aq (AC _)) (F5 (Au (Tp hr.units) (pv 7) (AB Ab) (AC _))))) (Ag (Av (i:=9) sc_law.nd rfl (Or.inl rfl) (AE (Aa Aq (Aa Aq (Aa Ad (Aa Aq Ab))))))) Ay)
      (Ac (AM (Au Bg (Ar (AN (K:=K)) (pv 9) Ad (λ _ _=>rfl)) Aq (AC _)) (Ag (Gk (MG (K:=K) PySem.F.plainAttrs_list PySem.F.slot_list_pop PySem.F.type_list_pop PN (pv 7)) (Mi (K:=K) rfl (A7 (AV (i:=1) sc_law.nd rfl (Or.inl rfl)) (A7 (AV (i:=10) sc_law.nd rfl (Or.inl rfl)) F4))))) (Ac (Gk (Ae c__law_behind (hr.mono (by decide)) (Aa (pv 1) (Aa (pv 9) Ab))) (Mi (K:=K) rfl (A7 (AV (i:=11) sc_law.nd rfl (Or.inl rfl)) (A7 (AV (i:=10) sc_law.nd rfl (Or.inl rfl)) (A7 (AV (i:=12) sc_law.nd rfl (Or.inl rfl)) F4)))))
      (Ac (AD (C6 (K:=K) PySem.F.plainAttrs_list PySem.F.slot_list_append PySem.F.type_list_append Bw (pv 7) (Aa (AE (Aa (pv 1) (Aa (pv 12) Ab))) Ab)))
      (Ag (Av (i:=1) sc_law.nd rfl (Or.inl rfl) (pv 11))))))
      (Ac (Av (i:=13) sc_law.nd rfl (Or.inl rfl) (Ae c__law_copied (hr.mono (by decide)) (Aa (pv 9) Ab)))
      (Ac (Av (i:=14) sc_law.nd rfl (Or.inl rfl) (Ae c__law_done hr (Aa (pv 4) (Aa (pv 13) Ab))))
      (Ac (AM (PW.pt (Kd (Ce (Bp (Ae c__law_same (hr.mono (by decide)) (Aa (pv 14) (Aa (pv 10) Ab))))) (GK (Ce (Bp (Ae c__law_same (hr.mono (by decide)) (Aa (pv 13) (Aa (pv 9) Ab)))))))) (Ag (Ak Fo)) Ay)
      (Ac (AD (Ae c__law_spoilt (hr.mono (by decide)) (Aa (pv 14) Ab)))
      (Ac (AD (Ae c__law_spoilt (hr.mono (by decide)) (Aa (pv 13) Ab)))
      (Ac (AM (Ce (Bp (Ae c__law_stands (hr.mono (by decide)) (Aa (pv 4) (Aa (pv 1) Ab))))) (Ag (Ak Fo)) Ay)
      (Ag (AD (Ae c__law_spoilt (hr.mono (by decide)) (Aa (AG (AG (pv 4) d_Hand_draft (hr.mono (by decide))) d_Draft_told (hr.mono (by decide))) Ab))))))))))))))
      (Ac (AM (Au (Kl hr.units) (AG (AG (pv 4) d_Hand_cloth (hr.mono (by decide))) d_Cloth_told (hr.mono (by decide))) (AG (Ae c_woven (hr.mono (by decide)) (Aa (Ae c__law_made (hr.mono (by decide)) (Aa (Ae c__law_copied (hr.mono (by decide)) (Aa (pv 1) Ab)) Ab)) Ab)) d_Cloth_told (hr.mono (by decide))) (AC _)) (Ag (Ak Fo)) Ay)
      (Ac (AM (PW.pt (Kd (Au (Kl hr.units) (AG (pv 3) d_Draft_told (hr.mono (by decide))) (As (BN (K:=K)) rfl (T.own _ (by decide)) AJ (Aa (pv 2) Ab)) (AC _)) (GK (Au (Kl hr.units) (AG (Ar (A6 (K:=K)) (pv 6) Ad (λ _ _=>rfl)) d_Draft_told (hr.mono (by decide))) (As (BN (K:=K)) rfl (T.own _ (by decide)) AJ (Aa (pv 2) Ab)) (AC _))))) (Ag (Ak Fo)) Ay)
      (Ac (AM (Au (Kl hr.units) (AG (Ar (A6 (K:=K)) (pv 6) Ad (λ _ _=>rfl)) d_Cloth_told (hr.mono (by decide))) (AE (Aa (Am (BA (K:=K)) rfl (T.own _ (by decide)) boot_len (Aa (Ar (A6 (K:=K)) (pv 2) Ad (λ _ _=>rfl)) Ab)) (Aa (Ae c__law_woven (hr.mono (by decide)) (Aa (pv 2) Ab)) Ab))) (AC _)) (Ag (Ak Fo)) Ay)
      (Ag (Ak (Ec (Ae c__law_stands (hr.mono (by decide)) (Aa (pv 5) (Aa (pv 2) Ab))) (E2 (Ae c__law_stands (hr.mono (by decide)) (Aa (pv 4) (Aa (pv 1) Ab)))))))))))))))))),?_⟩
    walk_at "w";refine PH sa λ p0 n0=> ?_;wrow_has H x0;rw [ME (by decide)] at g0;walk_at "w";refine ⟨p0,ns.take 9,8,rfl,?_,?_,by decide,by decide,λ H1 p1 d s1 n1 r1 ok=> ?_⟩
    · rw [List.map_take];exact SqL.of g0
    · rw [Af6];omega
    have s01:=s0.trans s1;obtain ⟨m,q1,a2,v3,v4,a5,a6,em,eq1,ht,e2,q3,q4,e5,e6⟩:=SX r1;cases em;cases eq1;walk_at "w";refine Bi (SqT.of ht) λ P nP=> ?_;have sP:=Aj (o:=HO.lst [nV d.sh,nV d.tr, .ref a2,v3,v4, .ref a5, .ref a6]) nP;have gP:upd H1 P (HO.lst [nV d.sh,nV d.tr, .ref a2,v3,v4, .ref a5, .ref a6]) P=_:=Af;generalize upd H1 P (HO.lst [nV d.sh,nV d.tr, .ref a2,v3,v4, .ref a5, .ref a6])=H2 at sP gP ⊢;have s02:=s01.trans sP;have h2:=ok.h2;have p2:=ok.p2;have wl:=ok.wl;have fl:=ok.fl;have rP:Rp H2 FT 3 (.ref P) (dPl d):=Nk gP trivial (.int _) (.int _) (Be (sP _ _ e2) trivial (by omega)) ((q3.any).same sP) ((q4.any).same sP) (Ji (sP _ _ e5) trivial (by omega)) (Ji (sP _ _ e6) trivial (by omega));walk_at "w";refine ⟨_,_,rfl,rP,λ H3 v3' s3 r3=> ?_⟩;obtain ⟨_,fq,_,_,_,_,_,_,ev,_,_⟩:=Ck r3;cases ev;walk_at "w";refine ⟨_,_,rfl,rP.same s3,λ H4 v4' s4 r4=> ?_⟩;walk_at "w";refine ⟨_,d,_,rfl,r4,ok,λ H5 y0 s5' n5 D5=> ?_⟩;walk_at "w";refine RY (R:=λ x H'=>A5 4 (.ref x) _ H' _) D5 ok λ H6 x lp B6 s6 nx nlp oB hA=> ?_;walk_at "w";refine RY (R:=λ x H'=>A5 5 (.ref x) _ H' _) (D5.same s6) ok λ H7 x2 lp2 B7 s7 nx2 nlp2 oB2 hA2=> ?_;obtain ⟨dx,yh,refs,hx6,hl6,_,_⟩:=hA.ex;walk_at "w";refine ⟨_,_,_,rfl,s7 _ _ hx6,rfl,?_⟩;walk_at "w";refine ⟨x,B6,lp,d,[],rfl,hA.same s7,ok,λ H8 y8 s8 n8 D8=> ?_⟩;walk_at "w";refine ⟨_,_,_,rfl,s8 _ _ (s7 _ _ hx6),rfl,?_⟩;walk_at "w";refine ⟨x,B6,lp,d,[],rfl,(hA.same s7).same s8,ok,λ H9 y9 s9 n9 C9=> ?_⟩;walk_at "w";row_lines H9 xk;walk_at "w";row_lines Hk xq;have s5:=s02.trans (s3.trans (s4.trans s5'));have s6q:=s7.trans (s8.trans (s9.trans (sk.trans sq)));have s5q:=s6.trans s6q;have nx0:H x=none:=s5.free nx;have nlp0:H lp=none:=s5.free nlp;have nlq0:H pq=none:=(s5.trans (s6.trans (s7.trans (s8.trans (s9.trans sk))))).free nq;have hxq:=s6q _ _ hx6;have hlq:=s6q _ _ hl6;have nlx:lp≠x:=A3 hl6 hx6 (by intro z;cases z);have nqx:pq≠x:=λ z=>by rw [z,(s7.trans (s8.trans (s9.trans sk))) _ _ hx6] at nq;cases nq
    have nql:pq≠lp:=λ z=>by rw [z,(s7.trans (s8.trans (s9.trans sk))) _ _ hl6] at nq;cases nq
    have sZ0:Same H (zf x lp pq Hq):=λ b o e=>C2 ((s5.trans s5q) _ _ e) (Ax e nx0) (Ax e nlp0) (Ax e nlq0);have sZ5:Same H5 (zf x lp pq Hq):=λ b o e=>C2 (s5q _ _ e) (Ax e nx) (Ax e nlp) (Ax e ((s6.trans (s7.trans (s8.trans (s9.trans sk)))).free nq));have Bq:B6 pq=none:=by
      cases e:B6 pq with
      | none=>rfl
      | some o=>rw [(s7.trans (s8.trans (s9.trans sk))) _ _ (hA.sB _ _ e)] at nq;cases nq
    have T0:Trn c Hq x lp pq P d []:=⟨⟨B6,hA.same s6q,Bq⟩,ok,λ e h=>by (cases h),((rP.same (s3.trans s4)).same s5').same sZ5,[],gq, .nil⟩;walk_at "w";refine ⟨a,rfl,⟨_,(s5.trans s5q).seq sa⟩,FL (H0:=zf x lp pq Hq) (E8 (sZ0.seq sa)) (λ i σ H'=>∃ Pp d' st y8 y9' yA yB yC yD yE,σ=[some (.ref a),some (.ref Pp),some (.ref fq),some (.ref y0),some (.ref x),some (.ref x2),some (.ref pk),some (.ref pq),y8,y9',yA,yB,yC,yD,yE]/\Same (zf x lp pq Hq) H'/\Trn c H' x lp pq Pp d' st/\st.length<=i) ⟨P,d,[],_,_,_,_,_,_,_,rfl,Dc,T0,Aa7 _⟩ (λ i σ H' ⟨_,_,_,_,_,_,_,_,_,_,_,s,_⟩=>s) ?_ ?_⟩
    · rintro i σ G H' hi ⟨Pp,d',st,y8',y9',yA,yB,yC,yD,yE,rfl,sG,T1,li⟩ s';replace T1:=T1.same s';have sH:=sG.trans s';have hi':i<ns.length:=by simpa using hi
      rw [CO hi];walk_at "w";have okd:=T1.ok;refine ⟨_,d',FT,_,rfl,T1.pa.same Dc,okd,λ H1 t1 dd s1' n1' rd1 dk1=> ?_⟩;have T2:=T1.same s1';have sH1:=sH.trans s1';walk_at "v";refine ifJ (λ σ' G=>∃ t dd,σ'=[some (.ref a),some (.ref Pp),some (.ref fq),some (.ref y0),some (.ref x),some (.ref x2),some (.ref pk),some (.ref pq),some (.int (ns.getD i 0)),some (.ref t),yA,yB,yC,yD,yE]/\Same H1 G/\Rp G (FN H') 2 (.ref t) (dDd dd)/\(∀ e,dd=some e->e.ok d')/\(dd=none->st≠[])) ?_ (λ key=> ?_)
      case refine_2=>
        obtain ⟨_,ett,dt1⟩:=M5 rd1;cases ett;obtain ⟨us,gw⟩:=ML dt1;walk_at "w";refine Ao (v:= .str (Nu dd)) (SqT.of gw) (AH (j:=0) rfl) ?_;walk_at "w";rw [MW];cases dd with
        | some e=>exact B2 (B2 (BM (key _ _ ⟨t1,some e,rfl,Same.refl _,rd1,dk1,λ z=>by cases z⟩)))
        | none=>
          refine DI ?_;walk_at "w";row_lines H1 x9;walk_at "w";obtain ⟨qs,gqs,rqs⟩:=(T2.same s9).qs;have l63:st.length<=63:=by omega
          refine ⟨5, .lst (st.map dEn), .lst [],by decide,(rqs.same Dc).lst gqs trivial (by rw [Aa1];omega), .lst g9 trivial (by simp) rfl (λ i v d e=>by simp at e),rfl,?_⟩;rw [if_neg (by decide),Tg];walk_at "w";cases st with
          | nil=>
            refine DI ?_;walk_at "w";row_lines H9 xA;refine E6 ?_;exact key _ _ ⟨pA,some (.co false 1 "z"),rfl,s9.trans sA,M8 gA (.str _) (.str _) (.int _) (.str _),λ e h=>by cases h;exact ⟨Aa7 _,okd.h1,⟨by decide +kernel,by decide +kernel⟩⟩,λ z=>by cases z⟩
          | cons e0 st=>exact B2 (BM (key _ _ ⟨t1,none,rfl,s9,rd1.same s9,dk1,λ _ z=>by cases z⟩))
      clear rd1 dk1 dd;rintro _ H2 ⟨t,dd,rfl,s2,rd,dk,dn⟩;replace T2:=T2.same s2;have sH2:=sH1.trans s2;have f1:Same H' H2:=s1'.trans s2;obtain ⟨B,hA',bq⟩:=T2.ha;obtain ⟨dx',yh',refs',hx',hl',_,_⟩:=hA'.ex;obtain ⟨qs,gqs,rqs⟩:=T2.qs;obtain ⟨B0,hA0,_⟩:=T1.ha;obtain ⟨_,_,_,hx0,hl0,_,_⟩:=hA0.ex;obtain ⟨_,gq0,_⟩:=T1.qs;have fl0:¬ FN H' lp:=λ z=>by have z:H' lp=none:=z;rw [hl0] at z;cases z
      have fq0:¬ FN H' pq:=λ z=>by have z:H' pq=none:=z;rw [gq0] at z;cases z
      have rdz:=K2 rd hx' hl' gqs fl0 fq0;walk_at "v";refine ifJ (λ σ' G=>∃ Pp' d2 st2 vu r yB' yC' qs2,σ'=[some (.ref a),some (.ref Pp'),some (.ref fq),some (.ref y0),some (.ref x),some (.ref x2),some (.ref pk),some (.ref pq),some (.int (ns.getD i 0)),some (.ref t),some vu,yB',yC',yD,yE]/\But3 x lp pq H2 G/\HandAt c B G x lp d' st/\Rp (zf x lp pq G) FT 3 (.ref Pp') (dPl d2)/\G pq=some (.lst qs2)/\RpL (zf x lp pq G) FT 4 qs2 (st2.map dEn)/\Rp (zf x lp pq G) FT 3 vu (dBk r)/\Nx d' st dd d2 st2 r) ?_ (λ key=> ?_)
      case refine_2=>
        obtain ⟨_,ett,dt⟩:=M5 rd;cases ett;obtain ⟨us,gw⟩:=ML dt;walk_at "w";refine Ao (v:= .str (Nu dd)) (SqT.of gw) (AH (j:=0) rfl) ?_;walk_at "w";rw [MW];cases dd with
        | none=>
          refine DI ?_;rcases List.eq_nil_or_concat st with z | ⟨st0,e0,z⟩
          · exact absurd z (dn rfl)
          rw [List.concat_eq_append] at z;subst z;rw [Ae0] at rqs;obtain ⟨q0,u0,rfl,r0,ru⟩:=rqs.last;obtain ⟨te,vs,rfl,ge,rl⟩:=HI ru;obtain ⟨w0,_,rfl,rw0,rl⟩:=rl.inv;obtain ⟨w1,_,rfl,rw1,rl⟩:=rl.inv;cases rl.inv0;walk_at "w";refine tyL (SqL.of gqs) ?_;refine ⟨pq,_, .ref te,rfl,rfl,gqs,by simp,?_⟩;rw [List.dropLast_concat];have b3:But3 x lp pq H2 (upd H2 pq (HO.lst q0)):=λ b o e _ _ n=>by rw [Ai n];exact e
          have hA3:HandAt c B (upd H2 pq (HO.lst q0)) x lp d' (st0++[e0]):=hA'.wr bq nqx nql;have g3:upd H2 pq (HO.lst q0) pq=_:=Af;generalize upd H2 pq (HO.lst q0)=H3 at b3 hA3 g3 ⊢;have zz:=b3.zf;refine HH (SqT.of (Dc _ _ (zz _ _ ge))) rfl ?_;obtain ⟨_,P3,_,_,_,_,_,_,ev,_⟩:=Ck rw0;cases ev;refine Io (E6 (Io (E6 (M3 ?_))));exact key _ _ ⟨P3,e0.1,st0,w1,e0.2,_,_,q0,rfl,b3,hA3,rw0.same zz,g3,r0.same zz,rw1.same zz, .inr ⟨rfl,rfl⟩⟩
        | some e=>
          refine B2 ?_;have ek:=dk e rfl;walk_at "w";refine ⟨_,_,d',e,FT,rfl,T2.pa.same Dc,okd,rd.any,ek,λ H3 p3 s3 n3 r3=> ?_⟩;obtain ⟨tb,vs,ev,ge,rl⟩:=HI r3;cases ev;obtain ⟨w0,_,rfl,rw0,rl⟩:=rl.inv;obtain ⟨w1,_,rfl,rw1,rl⟩:=rl.inv;obtain ⟨w2,_,rfl,rw2,rl⟩:=rl.inv;cases rl.inv0;refine HH (SqT.of ge) rfl ?_;walk_at "w";refine tyL (SqL.of (s3 _ _ gqs)) ?_;walk_at "w";row_lines H3 x4;have s24:=s3.trans s4;walk_at "w";have lq:=rqs.len;rw [Aa1] at lq;refine DW (s24 _ _ gqs) (by omega) ?_;have hx4:=s24 _ _ hx';have hl4:=s24 _ _ hl';have gq4:=s24 _ _ gqs;have fl2:¬ FN H2 lp:=λ z=>by have z:H2 lp=none:=z;rw [hl'] at z;cases z
          have fq2:¬ FN H2 pq:=λ z=>by have z:H2 pq=none:=z;rw [gqs] at z;cases z
          have z0:=K2 (rw0.same s4) hx4 hl4 gq4 fl2 fq2;have z1:=K2 (rw1.same s4) hx4 hl4 gq4 fl2 fq2;have z2:=K2 (rw2.same s4) hx4 hl4 gq4 fl2 fq2;have zp:=T2.pa.same (But3.of (x:=x) (y:=lp) (z:=pq) s24).zf;have zq:=rqs.same (But3.of (x:=x) (y:=lp) (z:=pq) s24).zf;have z4:zf x lp pq H4 p4=some (.tup [.ref Pp,w2]):=C2 g4 (A3 g4 hx4 (by intro q;cases q)) (A3 g4 hl4 (by intro q;cases q)) (A3 g4 gq4 (by intro q;cases q));have b3:But3 x lp pq H2 (upd H4 pq (HO.lst (qs++[.ref p4]))):=λ b o e _ _ n=>by rw [Ai n];exact s24 _ _ e
          have b4:Same (zf x lp pq H4) (zf x lp pq (upd H4 pq (HO.lst (qs++[.ref p4])))):=But3.zf λ b o e _ _ n=>by rw [Ai n];exact e
          have hA3:HandAt c B (upd H4 pq (HO.lst (qs++[.ref p4]))) x lp d' st:=(hA'.same s24).wr bq nqx nql;have g3:upd H4 pq (HO.lst (qs++[.ref p4])) pq=_:=Af;generalize upd H4 pq (HO.lst (qs++[.ref p4]))=H5' at b3 b4 hA3 g3 ⊢;obtain ⟨_,P3,_,_,_,_,_,_,ev,_⟩:=Ck rw0;cases ev;refine O1 (OF rfl (E6 ?_));refine key _ _ ⟨P3,e.go d',st++[(d',e.back d')],w1,e.told d',_,_,_,rfl,b3,hA3,(z0.any).same b4,g3,?_,(z1.any).same b4, .inl ⟨e,rfl,ek,rfl,rfl,rfl⟩⟩;rw [Ae0];exact (zq.snoc (B8 z4 zp (z2.any))).same b4
      rintro _ H3 ⟨Pp',d2,st2,vu,r,yB',yC',qs2,rfl,b3,hA3,rP3,gq3,rq3,ru3,nx3⟩;have rd3:=rdz.same b3.zf;walk_at "w";refine ⟨_,_,rfl,((rd3.any).same Dc).up (by decide),λ H4 vh s4 rh=> ?_⟩;obtain ⟨th,eth,dt4⟩:=M5 rh;subst eth;obtain ⟨ok2,oks2,lr1,lr2,ls2⟩:=nx3.ok okd T1.oks;have l63:st.length<=63:=by omega
      obtain ⟨dx3,yh3,refs3,hx3,hl3,_,_⟩:=hA3.ex;walk_at "w";refine Rc dt4 (hA3.same s4) okd (by omega) nx3 λ B1 Ha Hb p l1 l2 sB1 oB1 b2' hA5 np nl1 nl2 s56 gp gl1 gl2=> ?_;obtain ⟨dx5,yh5,refs5,hx5,hl5,_,_⟩:=hA5.ex;have z4a:Same (zf x lp pq H4) Ha:=λ b o e=>let ⟨e,n1,n2,_⟩:=OK e;b2' b o e n1 n2;have z3a:Same (zf x lp pq H3) Ha:=(But3.of (x:=x) (y:=lp) (z:=pq) s4).zf.trans z4a;have gqa:Ha pq=some (.lst qs2):=b2' _ _ (s4 _ _ gq3) nqx nql;have fl3:H3 lp≠none:=by rw [hl3];simp
      have fq3:H3 pq≠none:=by rw [gq3];simp
      have fx3:H3 x≠none:=by rw [hx3];simp
      have rha:=(K2 (PY rh) (s4 _ _ hx3) (s4 _ _ hl3) (s4 _ _ gq3) (λ z=>fl3 z.1) (λ z=>fq3 z.1)).same z4a;walk_at "w";refine ⟨_,_,dBk r,rfl,RW gp gl1 trivial gl2 trivial lr1 lr2,(ru3.same z3a).same s56,λ H7 s7=> ?_⟩;refine ⟨true,rfl,?_⟩;walk_at "w";refine ⟨_,_,dDd dd,rfl,((rha.any).same s56).same s7,((((rd3.any).same z3a).same s56).same s7).up (by decide),λ H8 s8=> ?_⟩;refine ⟨true,rfl,?_⟩;have sa8:=s56.trans (s7.trans s8);have sb8:=s7.trans s8;walk_at "w";refine ⟨_,λ b=>b=l1\/b=l2,0,rfl,Nst.of (RW (n:=1) (sb8 _ _ gp) (sb8 _ _ gl1) (.inl rfl) (sb8 _ _ gl2) (.inr rfl) lr1 lr2) (V0 (by omega) (by omega)),(show 0+cN 3<=10000000 by decide),?_,λ H9 ap9=> ?_⟩
      · rintro b (z | z)
        · rw [z,sb8 _ _ gl1];simp
        · rw [z,sb8 _ _ gl2];simp
      have sa9:Same Ha H9:=KH ap9 sa8 λ b xs f e=>by
        rcases f with z | z
        · rw [z,nl1] at e;cases e
        · rw [z,nl2] at e;cases e
      walk_at "w";refine ⟨_,_,0,rfl,Nst.of (rha.same sa9) (Wy okd dk),(show 0+cN 3<=10000000 by decide),?_,λ HA apA=> ?_⟩
      · rintro b ⟨f3,f4⟩;cases e:H4 b with
        | none=>exact absurd e f4
        | some o=>
          rw [sa9 _ _ (b2' _ _ e (λ z=>fx3 (z▸f3)) (λ z=>fl3 (z▸f3)))];simp
      have bA:But3 x lp pq H3 HA:=λ b o e n1 n2 n3=>by
        rcases apA b o (sa9 _ _ (b2' _ _ (s4 _ _ e) n1 n2)) with z | ⟨f,_⟩
        · exact z
        · have:=f.1;have this:H3 b=none:=this;rw [e] at this;cases this
      have gqA:HA pq=some (.lst qs2):=apA.out (sa9 _ _ gqa) λ z=>fq3 z.1;have sBA:Same B1 HA:=KH apA (hA5.sB.trans sa9) λ b xs f e=>by
        have f3:H3 b=none:=f.1;have bb:B b=none:=by
          cases q:B b with
          | none=>rfl
          | some o=>rw [hA3.sB _ _ q] at f3;cases f3
        cases q:H4 b with
        | none=>exact f.2 q
        | some o=>
          have qa:=b2' _ _ q (λ z=>fx3 (z▸f3)) (λ z=>fl3 (z▸f3));rw [hA5.sB _ _ e] at qa;cases qa;rw [oB1 b _ bb q (λ us z=>by cases z)] at e;cases e
      have hA6:HandAt c B1 HA x lp d2 st2:=hA5.keep (λ o e=>apA.out (sa9 _ _ e) λ z=>fx3 z.1) (λ o e=>apA.out (sa9 _ _ e) λ z=>fl3 z.1) sBA;have T3:Trn c HA x lp pq Pp' d2 st2:=⟨⟨B1,hA6,oB1 pq _ bq (s4 _ _ gq3) (λ us z=>by cases z)⟩,ok2,oks2,rP3.same bA.zf,qs2,gqA,rq3.same bA.zf⟩;clear rha sBA;walk_at "w";refine ⟨x,_,B1,lp,d2,st2,FT,rfl,hA6,ok2,T3.pa.same Dc,λ HB sB=> ?_⟩;refine ⟨true,rfl,?_⟩;obtain ⟨dx6,yh6,refs6,hx6',_,_,_⟩:=hA6.ex;walk_at "w";refine ⟨_,_,_,rfl,sB _ _ hx6',rfl,?_⟩;walk_at "w";refine ⟨x,B1,lp,d2,st2,rfl,hA6.same sB,ok2,λ HC yC sC nC DC=> ?_⟩;obtain ⟨dyC,_,_,_,_,_,hyC,_⟩:=id DC;refine ⟨_,_,_,rfl,hyC,rfl,?_⟩;walk_at "w";refine ⟨yC,d2,rfl,DC,λ HD pD sD nD rD=> ?_⟩;walk_at "w";refine ⟨_,_,0,rfl,Nst.of (PY rD) (YC ok2),(show 0+cN 3<=10000000 by decide),λ b f=>f.2,λ HE apE=> ?_⟩;have sCE:Same HC HE:=KH apE sD λ b xs f e=>by
        have f:HC b=none:=f.1;rw [f] at e;cases e
      walk_at "w";have sAE:=sB.trans (sC.trans sCE);refine ⟨Pp',d2,st2,_,_,_,_,_,_,_,rfl,λ b o e=> ?_,T3.same sAE,by omega⟩;obtain ⟨_,n1,n2,n3⟩:=OK e;exact sAE _ _ (bA _ _ (b3 _ _ (sH2 _ _ e) n1 n2 n3) n1 n2 n3)
    · rintro σ H' ⟨Pp,d',st,y8',y9',yA,yB,yC,yD,yE,rfl,sH,T1,li⟩;obtain ⟨B,hA',bq⟩:=T1.ha;obtain ⟨dx',yh',refs',hx',hl',_,_⟩:=hA'.ex;have okd:=T1.ok;have rPp:=T1.pa.same Dc;walk_at "w";refine ⟨_,_,_,rfl,hx',rfl,?_⟩;walk_at "w";refine ⟨x,B,lp,d',st,rfl,hA',okd,λ G1 y1 t1 m1 C1=> ?_⟩;obtain ⟨_,_,hc1,_⟩:=id C1;refine ⟨_,_,_,rfl,hc1,rfl,?_⟩;walk_at "w";refine ⟨y1,_,_,rfl,C1,λ G2 p2' l2' t2 m2 ml2 g2 gl2=> ?_⟩;have t02:=t1.trans t2;walk_at "w";refine ⟨_,_,rfl,rPp.same t02,λ G3 v3'' t3 r3'=> ?_⟩;walk_at "w";refine ⟨_,d',_,rfl,r3',okd,λ G4 y4 t4 m4 D4=> ?_⟩;walk_at "w";refine ⟨y4,d',rfl,D4,okd,λ G5 y5 t5 m5 C5=> ?_⟩;obtain ⟨_,_,hc5,_⟩:=id C5;refine ⟨_,_,_,rfl,hc5,rfl,?_⟩;walk_at "w";refine ⟨y5,_,_,rfl,C5,λ G6 p6 l6 t6 m6 ml6 g6 gl6=> ?_⟩;have t26:=t3.trans (t4.trans (t5.trans t6));have lw:(BV d').length<=100000:=by unfold BV;rw [Aa1];have:=okd.p2;omega
      refine ⟨2, .tup [dN d'.th.length,dL (BV d')], .tup [dN d'.th.length,dL (BV d')],by decide,B8 (t26 _ _ g2) (.int _) (Be (t26 _ _ gl2) trivial lw),B8 g6 (.int _) (Be gl6 trivial lw),rfl,?_⟩;rw [if_pos rfl,CT];have t06:=t02.trans t26;have sZ6:=sH.trans t06;have D6:=D5.same (sZ5.trans sZ6);obtain ⟨dy0,_,_,_,_,_,hy0,_⟩:=id D6;have rf:=r3.same ((s4.trans s5').trans (sZ5.trans sZ6));obtain ⟨_,_,f2,u3,u4,f5,f6,em6,ev,_,gf,gf2,_,rf3,rf4,gf5,_,gf6,_⟩:=Ck rf;cases ev;cases em6;have rft:∀ (G:Hp) (q:Addr),Same G6 G->G q=some (.tup [nV d.sh,nV d.tr, .ref f2,u3,u4, .ref f5, .ref f6])->Rp G FT 3 (.ref q) (dDr d):=λ G q s g=>HK g (.int _) (.int _) (Be (s _ _ gf2) trivial (by omega)) ((rf3.any).same s) ((rf4.any).same s) (Ji (s _ _ gf5) trivial (by omega)) (Ji (s _ _ gf6) trivial (by omega));walk_at "w";refine ⟨_,_,_,rfl,hy0,rfl,?_⟩;walk_at "w";refine ⟨y0,d,rfl,D6,λ G7 p7 t7 m7 r7=> ?_⟩;walk_at "w";refine Bt (SqL.of (t7 _ _ gf)) λ p8 m8=> ?_;have t8:=Aj (o:=HO.tup [nV d.sh,nV d.tr, .ref f2,u3,u4, .ref f5, .ref f6]) m8;have g8:upd G7 p8 (HO.tup [nV d.sh,nV d.tr, .ref f2,u3,u4, .ref f5, .ref f6]) p8=_:=Af;generalize upd G7 p8 (HO.tup [nV d.sh,nV d.tr, .ref f2,u3,u4, .ref f5, .ref f6])=G8 at t8 g8 ⊢;refine ⟨3,dDr d,dDr d,by decide,(r7.any).same t8,rft _ _ (t7.trans t8) g8,rfl,?_⟩;rw [if_pos rfl,CT];have t68:=t7.trans t8;have pkx:pk≠x:=λ z=>by rw [z,(s7.trans (s8.trans s9)) _ _ hx6] at nk;cases nk
      have pkl:pk≠lp:=λ z=>by rw [z,(s7.trans (s8.trans s9)) _ _ hl6] at nk;cases nk
      have pkq:pk≠pq:=λ z=>by rw [<-z,gk] at nq;cases nq
      have gk6:=sZ6 _ _ (C2 (sq _ _ gk) pkx pkl pkq);have ny8:H7 y8=none:=n8;obtain ⟨_,_,_,_,_,_,hD8,_⟩:=id D8;have D86:DrAt c.Draft G6 y8 d:=(D8.same (s9.trans (sk.trans sq))).tups (λ o e=>sZ6 _ _ (C2 e (λ z=>by rw [z,s7 _ _ hx6] at ny8;cases ny8) (λ z=>by rw [z,s7 _ _ hl6] at ny8;cases ny8) (λ z=>by rw [<-z,(s9.trans sk) _ _ hD8] at nq;cases nq))) λ q us e=>sZ6 _ _ (C2 e (A3 e hxq (by intro z;cases z)) (A3 e hlq (by intro z;cases z)) (A3 e gq (by intro z;cases z)));obtain ⟨dy8,_,_,_,_,_,hy8,_⟩:=id (D86.same t68);walk_at "w";refine AF (v:= .ref y8) (SqL.of (t68 _ _ gk6)) (AH (j:=0) rfl) ?_;refine ⟨_,_,_,rfl,hy8,rfl,?_⟩;walk_at "w";refine ⟨y8,d,rfl,D86.same t68,λ G9 p9 t9 m9 r9=> ?_⟩;walk_at "w";refine Bt (SqL.of (t9 _ _ (t68 _ _ gf))) λ pA mA=> ?_;have tA:=Aj (o:=HO.tup [nV d.sh,nV d.tr, .ref f2,u3,u4, .ref f5, .ref f6]) mA;have gA:upd G9 pA (HO.tup [nV d.sh,nV d.tr, .ref f2,u3,u4, .ref f5, .ref f6]) pA=_:=Af;generalize upd G9 pA (HO.tup [nV d.sh,nV d.tr, .ref f2,u3,u4, .ref f5, .ref f6])=GA at tA gA ⊢;have t6A:=t68.trans (t9.trans tA);refine ⟨3,dDr d,dDr d,by decide,(r9.any).same tA,rft _ _ t6A gA,rfl,?_⟩;rw [if_pos rfl,CT];have ny9:H8 y9=none:=n9;obtain ⟨dc9,tc9,hc9,ht9⟩:=id C9;have C96:NT c.Cloth GA y9 d.th.length (BV d):=⟨dc9,tc9,t6A _ _ (sZ6 _ _ (C2 ((sk.trans sq) _ _ hc9) (λ z=>by rw [z,(s7.trans s8) _ _ hx6] at ny9;cases ny9) (λ z=>by rw [z,(s7.trans s8) _ _ hl6] at ny9;cases ny9) (λ z=>by rw [<-z,sk _ _ hc9] at nq;cases nq))),t6A _ _ (sZ6 _ _ (C2 ((sk.trans sq) _ _ ht9) (A3 ((sk.trans sq) _ _ ht9) hxq (by intro z;cases z)) (A3 ((sk.trans sq) _ _ ht9) hlq (by intro z;cases z)) (A3 ((sk.trans sq) _ _ ht9) gq (by intro z;cases z))))⟩;obtain ⟨_,_,hc96,_⟩:=id C96;walk_at "w";refine AF (v:= .ref y9) (SqL.of (t6A _ _ gk6)) (AH (j:=1) rfl) ?_;refine ⟨_,_,_,rfl,hc96,rfl,?_⟩;walk_at "w";refine ⟨y9,_,_,rfl,C96,λ GB pB lB tB mB mlB gB glB=> ?_⟩;have t6B:=t6A.trans tB;walk_at "w";refine AF (v:= .ref f2) (SqL.of (t6B _ _ gf)) (AH (j:=2) rfl) ?_;walk_at "w";refine A9 (SqL.of (t6B _ _ gf2)) ?_;rw [Aa1];walk_at "w";refine ⟨_,d,_,rfl,rf.same t6B,ok,λ GC pC tC mC gC=> ?_⟩;walk_at "w";row_lines GC xE;have lwd:(BV d).length<=100000:=by unfold BV;rw [Aa1];omega
      refine ⟨2, .tup [dN d.th.length,dL (BV d)], .tup [dN d.th.length,dL (BV d)],by decide,B8 ((tC.trans sE) _ _ gB) (.int _) (Be ((tC.trans sE) _ _ glB) trivial lwd),B8 gE (.int _) (Be (sE _ _ gC) trivial lwd),rfl,?_⟩;rw [if_pos rfl,CT];have t6E:=t6B.trans (tC.trans sE);have h2E:HandAt c B7 HE x2 lp2 d []:=(hA2.keep (H':=Hq) (λ o e=>(s8.trans (s9.trans (sk.trans sq))) _ _ e) (λ o e=>(s8.trans (s9.trans (sk.trans sq))) _ _ e) (hA2.sB.trans (s8.trans (s9.trans (sk.trans sq))))).keep (λ o e=>t6E _ _ (sZ6 _ _ (C2 e (λ z=>by rw [z,hx6] at nx2;cases nx2) (λ z=>by rw [z,hl6] at nx2;cases nx2) (λ z=>by obtain ⟨_,_,_,q,_⟩:=hA2.ex;rw [<-z,(s8.trans (s9.trans sk)) _ _ q] at nq;cases nq)))) (λ o e=>t6E _ _ (sZ6 _ _ (C2 e (λ z=>by rw [z,hx6] at nlp2;cases nlp2) (λ z=>by rw [z,hl6] at nlp2;cases nlp2) (λ z=>by obtain ⟨_,_,_,_,q,_⟩:=hA2.ex;rw [<-z,(s8.trans (s9.trans sk)) _ _ q] at nq;cases nq)))) λ b o e=>by
        refine t6E _ _ (sZ6 _ _ (C2 ((s8.trans (s9.trans (sk.trans sq))) _ _ (hA2.sB _ _ e)) (λ z=> ?_) (λ z=> ?_) (λ z=> ?_)))
        · rw [z,oB2 x _ hx6 (λ us q=>by cases q)] at e;cases e
        · rw [z,oB2 lp _ hl6 (λ us q=>by cases q)] at e;cases e
        · rw [<-z,(s8.trans (s9.trans sk)) _ _ (hA2.sB _ _ e)] at nq;cases nq
      walk_at "w";refine ⟨x2,_,B7,lp2,d,[],_,rfl,h2E,ok,rf.same t6E,λ GF tF=> ?_⟩;walk_at "w";have tF':=t06.trans (t6E.trans tF);exact ⟨x,_,B,lp,d',st,FT,rfl,hA'.same tF',okd,rPp.same tF',λ G _=>k G⟩
end
end K32
namespace K32
open PySem L2 PySem.Spec PyProof.Rows
theorem all_mk {l:PySem.W.OpenLaw} {K:PySem.W.Frag} {fa:Addr} (X:K.In h) (G:h.Ns mainGlobals mg) (hfa:mg "law"=some (.ref fa))
    {C_Draft C_Cloth C_Hand C_PARTS f0 f1 f2 f3 f4 f5 f6 f7 f8 f9 f10 f11 f12 f13 f14 f15 f16 f17 f18 f19 f20 f21 f22 f23 f24 f25 f26 f27 f28 f29 f30 f31 f32 f33 f34 f35 f36 f37 f38 f39 f40 f41 f42 f43 f44 f45 f46 f47 f48 f49 f50 f51 f52 f53 f54 f55 f56 f57 f58 f59 f60 f61 f62 f63:Addr} {d0 d1 d2 d3 d4 d5 d6 d7 d8 d9 d10 d11 d12 d13 d14 d15 d16 d17 d18 d19 d20 d21 d22 d23 d24 d25 d26 d27 d28 d29 d30 d31 d32 d33 d34 d35 d36 d37 d38 d39 d40 d41 d42 d43 d44 d45 d46 d47 d48 d49 d50 d51 d52 d53 d54 d55 d56 d57 d58 d59 d60 d61 d62 d63:FuncData}
    {u_PARTS_0 u_PARTS_1 u_PARTS_2 u_PARTS_3 u_PARTS_4 u_PARTS_5 u_PARTS_6:Tok} {n_PARTS:Nat} {od_PARTS:Option Addr} {sl_PARTS:Array (Option Value)}
    (T0:(∀ H:Hp,SqT K H C_PARTS [.str "shafts", .str "treadles", .str "threading", .str "ties", .str "treading", .str "warp", .str "weft"])->Txt K mg ⟨C_Draft,C_Cloth,C_Hand,C_PARTS⟩)
    (D0:DefAt K mg "_law_same" C8 ["_law_found","_law_due"] f0 d0)
    (D1:DefAt K mg "bit_of" HS ["number"] f1 d1)
    (D2:DefAt K mg "mask_of" Gi ["numbers"] f2 d2)
    (D3:DefAt K mg "mask_to" Gs ["most"] f3 d3)
    (D4:DefAt K mg "has_number" En ["mask","number"] f4 d4)
    (D5:DefAt K mg "numbers_of" DT ["mask"] f5 d5)
    (D6:DefAt K mg "union_of" Fy ["masks"] f6 d6)
    (D7:DefAt K mg "is_whole" Fu ["thing"] f7 d7)
    (D8:DefAt K mg "is_among" Fp ["thing","least","most"] f8 d8)
    (D9:DefAt K mg "need_cloth" DN ["ends","rows"] f9 d9)
    (j10:Mk K C_Cloth f10)
    (D10:FnA K "__init__" "Cloth.__init__" Ca ["self","ends","rows"] f10 d10)
    (j11:Meth K C_Cloth "told" f11)
    (D11:FnA K "told" "Cloth.told" Ej ["self"] f11 d11)
    (D12:DefAt K mg "is_colour" EW ["thing"] f12 d12)
    (D13:DefAt K mg "need" Mc ["holds","words"] f13 d13)
    (D14:DefAt K mg "is_list" GH ["thing","least","most"] f14 d14)
    (D15:DefAt K mg "is_rising" EH ["thing","most"] f15 d15)
    (D16:DefAt K mg "are_rising" Ek ["thing","most"] f16 d16)
    (D17:DefAt K mg "are_colours" Dm ["thing","many"] f17 d17)
    (D18:DefAt K mg "need_draft" Ed ["shafts","treadles","threading","ties","treading","warp","weft"] f18 d18)
    (j19:Mk K C_Draft f19)
    (D19:FnA K "__init__" "Draft.__init__" Cg ["self","shafts","treadles","threading","ties","treading","warp","weft"] f19 d19)
    (j20:Meth K C_Draft "told" f20)
    (D20:FnA K "told" "Draft.told" Ee ["self"] f20 d20)
    (j21:Meth K C_Draft "ends" f21)
    (D21:FnA K "ends" "Draft.ends" Ep ["self"] f21 d21)
    (D22:DefAt K mg "lift_by" Gj ["ties","treadles"] f22 d22)
    (D23:DefAt K mg "lifts_of" FA ["draft"] f23 d23)
    (D24:DefAt K mg "ends_through" C0 ["threading","shaft"] f24 d24)
    (D25:DefAt K mg "shaft_ends" Eh ["threading","shafts"] f25 d25)
    (D26:DefAt K mg "row_by" IU ["carried","lift"] f26 d26)
    (D27:DefAt K mg "woven" Kq ["draft"] f27 d27)
    (D28:DefAt K mg "_law_mixed" El ["_law_cell","_law_k"] f28 d28)
    (D29:DefAt K mg "_law_cells" DL ["_law_script","_law_first"] f29 d29)
    (D30:DefAt K mg "_law_numbers" CN ["_law_mask","_law_most"] f30 d30)
    (D31:DefAt K mg "_law_copied" Cm ["_law_thing"] f31 d31)
    (D32:DefAt K mg "_law_draft" Eo ["_law_script","_law_most"] f32 d32)
    (D33:DefAt K mg "changed_draft" Cv ["draft","changes"] f33 d33)
    (D34:DefAt K mg "_law_spoilt" Cj ["_law_told"] f34 d34)
    (D35:DefAt K mg "need_place" DM ["thing","most"] f35 d35)
    (D36:DefAt K mg "lists_of" Fx ["tuples"] f36 d36)
    (D37:DefAt K mg "replaced_at" Df ["members","place","thing"] f37 d37)
    (D38:DefAt K mg "put_at" Ig ["members","place","thing"] f38 d38)
    (D39:DefAt K mg "taken_at" Fw ["members","place"] f39 d39)
    (D40:DefAt K mg "other_places" CW ["members","later"] f40 d40)
    (j41:Mk K C_Hand f41)
    (D41:FnA K "__init__" "Hand.__init__" Ct ["self","draft"] f41 d41)
    (j42:Meth K C_Hand "draft" f42)
    (D42:FnA K "draft" "Hand.draft" DQ ["self"] f42 d42)
    (j43:Meth K C_Hand "cloth" f43)
    (D43:FnA K "cloth" "Hand.cloth" Ei ["self"] f43 d43)
    (j44:Meth K C_Hand "bring" f44)
    (D44:FnA K "bring" "Hand.bring" Eb ["self","later","picks","ends"] f44 d44)
    (j45:Meth K C_Hand "alter" f45)
    (D45:FnA K "alter" "Hand.alter" DS ["self","changes"] f45 d45)
    (j46:Meth K C_Hand "thread" f46)
    (D46:FnA K "thread" "Hand.thread" Ds ["self","end","shaft"] f46 d46)
    (j47:Meth K C_Draft "picks" f47)
    (D47:FnA K "picks" "Draft.picks" Dp ["self"] f47 d47)
    (j48:Meth K C_Hand "tie" f48)
    (D48:FnA K "tie" "Hand.tie" Fs ["self","treadle","shafts"] f48 d48)
    (j49:Meth K C_Hand "tread" f49)
    (D49:FnA K "tread" "Hand.tread" Ef ["self","pick","treadles"] f49 d49)
    (j50:Meth K C_Hand "colour" f50)
    (D50:FnA K "colour" "Hand.colour" Dh ["self","side","number","colour"] f50 d50)
    (j51:Meth K C_Hand "put_end" f51)
    (D51:FnA K "put_end" "Hand.put_end" CS ["self","end","shaft","colour"] f51 d51)
    (j52:Meth K C_Hand "put_pick" f52)
    (D52:FnA K "put_pick" "Hand.put_pick" CA ["self","pick","treadles","colour"] f52 d52)
    (j53:Meth K C_Hand "take_end" f53)
    (D53:FnA K "take_end" "Hand.take_end" Cz ["self","end"] f53 d53)
    (j54:Meth K C_Hand "take_pick" f54)
    (D54:FnA K "take_pick" "Hand.take_pick" Cf ["self","pick"] f54 d54)
    (j55:Meth K C_Hand "undo" f55)
    (D55:FnA K "undo" "Hand.undo" Ex ["self"] f55 d55)
    (D56:DefAt K mg "_law_made" EY ["_law_parts"] f56 d56)
    (D57:DefAt K mg "_law_lifts" DP ["_law_parts"] f57 d57)
    (D58:DefAt K mg "_law_woven" Ea ["_law_parts"] f58 d58)
    (D59:DefAt K mg "_law_deed" EK ["_law_parts","_law_cell"] f59 d59)
    (D60:DefAt K mg "_law_behind" Dv ["_law_parts","_law_deed_here"] f60 d60)
    (D61:DefAt K mg "_law_done" EU ["_law_hand","_law_deed_here"] f61 d61)
    (D62:DefAt K mg "_law_stands" Di ["_law_hand","_law_parts"] f62 d62)
    (D63:DefAt K mg "law" Ol ["_law_script"] f63 d63)
    (lk_PARTS:K.lookup C_PARTS=some ⟨.type "tuple",od_PARTS, .seq #[.str "shafts" u_PARTS_0, .str "treadles" u_PARTS_1, .str "threading" u_PARTS_2, .str "ties" u_PARTS_3, .str "treading" u_PARTS_4, .str "warp" u_PARTS_5, .str "weft" u_PARTS_6] n_PARTS,sl_PARTS⟩)
    (hlb:∀ (s:Shared) (u:Value),BindsTo s d63 ⟨[u],[]⟩ [("_law_script",u)])
    : ∃ fd:FuncData,(∀ (s:Shared) (v:Value),BindsTo s fd ⟨[v],[]⟩ [("_law_script",v)])/\∀ base:Heap,K.In base->base.Ns mainGlobals mg->FnOk l.prog w K mg base CX0 12 fa fd ["_law_script"] (M6 K):=by
  cases hfa.symm.trans D63.at';have T:=T0 (λ H=> .inr ⟨_,_,_,lk_PARTS,rfl,rfl,by simp [sizeLine_eq], .cons ⟨_,rfl⟩ (.cons ⟨_,rfl⟩ (.cons ⟨_,rfl⟩ (.cons ⟨_,rfl⟩ (.cons ⟨_,rfl⟩ (.cons ⟨_,rfl⟩ (.cons ⟨_,rfl⟩ (.nil)))))))⟩);exact ⟨_,hlb,λ base _ _=>by
    have c_bit_of:=D1.call (NV (P:=l.prog) (w:=w) (base:=base) D1.fn T);have c_mask_of:=D2.call (LW (P:=l.prog) (w:=w) (base:=base) D2.fn T c_bit_of);have c_mask_to:=D3.call (Ml (P:=l.prog) (w:=w) (base:=base) D3.fn T);have c_has_number:=D4.call (Ja (P:=l.prog) (w:=w) (base:=base) D4.fn T c_bit_of);have c_numbers_of:=D5.call (Je (P:=l.prog) (w:=w) (base:=base) D5.fn T c_has_number);have c_union_of:=D6.call (LM (P:=l.prog) (w:=w) (base:=base) D6.fn T);have c_is_whole:=D7.call (Lf (P:=l.prog) (w:=w) (base:=base) D7.fn T);have c_is_among:=D8.call (LC (P:=l.prog) (w:=w) (base:=base) D8.fn T c_is_whole);have c_need_cloth:=D9.call (Jj (P:=l.prog) (w:=w) (base:=base) D9.fn T c_is_among c_mask_to);have m_Cloth:GX l.prog w K mg base "Cloth" C_Cloth 4 ["self","ends","rows"] _:=⟨_,_,T.g_Cloth,j10,FV (P:=l.prog) (w:=w) (base:=base) D10.fn T c_need_cloth,D10.bi⟩;have d_Cloth_told:AI l.prog w K mg base C_Cloth "told" 1 ["self"] _:=⟨_,_,T.kd_Cloth.cl,j11,JF (P:=l.prog) (w:=w) (base:=base) D11.fn T,D11.bi⟩;have c_is_colour:=D12.call (Kw (P:=l.prog) (w:=w) (base:=base) D12.fn T);have c_need:=D13.call (Rt (P:=l.prog) (w:=w) (base:=base) D13.fn T);have c_is_list:=D14.call (Mx (P:=l.prog) (w:=w) (base:=base) D14.fn T c_is_among);have c_is_rising:=D15.call (KU (P:=l.prog) (w:=w) (base:=base) D15.fn T c_is_among);have c_are_rising:=D16.call (Jy (P:=l.prog) (w:=w) (base:=base) D16.fn T c_is_rising);have c_are_colours:=D17.call (HU (P:=l.prog) (w:=w) (base:=base) D17.fn T c_is_list c_is_colour);have c_need_draft:=D18.call (Jz (P:=l.prog) (w:=w) (base:=base) D18.fn T c_need c_is_among c_is_list c_are_rising c_are_colours);have m_Draft:GX l.prog w K mg base "Draft" C_Draft 6 ["self","shafts","treadles","threading","ties","treading","warp","weft"] _:=⟨_,_,T.g_Draft,j19,FW (P:=l.prog) (w:=w) (base:=base) D19.fn T c_need_draft,D19.bi⟩;have d_Draft_told:AI l.prog w K mg base C_Draft "told" 1 ["self"] _:=⟨_,_,T.kd_Draft.cl,j20,JJ (P:=l.prog) (w:=w) (base:=base) D20.fn T,D20.bi⟩;have d_Draft_ends:AI l.prog w K mg base C_Draft "ends" 1 ["self"] _:=⟨_,_,T.kd_Draft.cl,j21,Jl (P:=l.prog) (w:=w) (base:=base) D21.fn T,D21.bi⟩;have c_lift_by:=D22.call (L4 (P:=l.prog) (w:=w) (base:=base) D22.fn T c_union_of);have c_lifts_of:=D23.call (LA (P:=l.prog) (w:=w) (base:=base) D23.fn T c_mask_of c_lift_by);have c_ends_through:=D24.call (Hr (P:=l.prog) (w:=w) (base:=base) D24.fn T c_mask_of);have c_shaft_ends:=D25.call (Jq (P:=l.prog) (w:=w) (base:=base) D25.fn T c_ends_through);have c_row_by:=D26.call (NP (P:=l.prog) (w:=w) (base:=base) D26.fn T c_numbers_of c_union_of);have c_woven:=D27.call (PB (P:=l.prog) (w:=w) (base:=base) D27.fn T c_shaft_ends d_Draft_ends c_row_by c_lifts_of m_Cloth);have c__law_mixed:=D28.call (IZ (P:=l.prog) (w:=w) (base:=base) D28.fn T);have c__law_cells:=D29.call (JM (P:=l.prog) (w:=w) (base:=base) D29.fn T);have c__law_numbers:=D30.call (Hh (P:=l.prog) (w:=w) (base:=base) D30.fn T);have c__law_draft:=D32.call (Jm (P:=l.prog) (w:=w) (base:=base) D32.fn T c__law_mixed c__law_cells c__law_numbers);have c_changed_draft:=D33.call (GO (P:=l.prog) (w:=w) (base:=base) D33.fn T d_Draft_told m_Draft);have c_need_place:=D35.call (Jd (P:=l.prog) (w:=w) (base:=base) D35.fn T c_is_among);have c_lists_of:=D36.call (LO (P:=l.prog) (w:=w) (base:=base) D36.fn T);have c_replaced_at:=D37.call (Ih (P:=l.prog) (w:=w) (base:=base) D37.fn T);have c_put_at:=D38.call (NX (P:=l.prog) (w:=w) (base:=base) D38.fn T);have c_taken_at:=D39.call (Lo (P:=l.prog) (w:=w) (base:=base) D39.fn T);have c_other_places:=D40.call (Ho (P:=l.prog) (w:=w) (base:=base) D40.fn T);have m_Hand:GX l.prog w K mg base "Hand" C_Hand 9 ["self","draft"] _:=⟨_,_,T.g_Hand,j41,GI (P:=l.prog) (w:=w) (base:=base) D41.fn T c_changed_draft,D41.bi⟩;have d_Hand_draft:AI l.prog w K mg base C_Hand "draft" 9 ["self"] _:=⟨_,_,T.kd_Hand.cl,j42,Jx (P:=l.prog) (w:=w) (base:=base) D42.fn T c_changed_draft,D42.bi⟩;have d_Hand_cloth:AI l.prog w K mg base C_Hand "cloth" 7 ["self"] _:=⟨_,_,T.kd_Hand.cl,j43,Ju (P:=l.prog) (w:=w) (base:=base) D43.fn T c_woven,D43.bi⟩;have d_Hand_bring:AI l.prog w K mg base C_Hand "bring" 1 ["self","later","picks","ends"] _:=⟨_,_,T.kd_Hand.cl,j44,Js (P:=l.prog) (w:=w) (base:=base) D44.fn T,D44.bi⟩;have d_Hand_alter:AI l.prog w K mg base C_Hand "alter" 9 ["self","changes"] _:=⟨_,_,T.kd_Hand.cl,j45,IY (P:=l.prog) (w:=w) (base:=base) D45.fn T c_changed_draft c_other_places c_lifts_of d_Hand_bring,D45.bi⟩;have d_Hand_thread:AI l.prog w K mg base C_Hand "thread" 10 ["self","end","shaft"] _:=⟨_,_,T.kd_Hand.cl,j46,Ia (P:=l.prog) (w:=w) (base:=base) D46.fn T c_need_place d_Draft_ends d_Hand_alter c_replaced_at,D46.bi⟩;have d_Draft_picks:AI l.prog w K mg base C_Draft "picks" 1 ["self"] _:=⟨_,_,T.kd_Draft.cl,j47,Iq (P:=l.prog) (w:=w) (base:=base) D47.fn T,D47.bi⟩;have d_Hand_tie:AI l.prog w K mg base C_Hand "tie" 10 ["self","treadle","shafts"] _:=⟨_,_,T.kd_Hand.cl,j48,LS (P:=l.prog) (w:=w) (base:=base) D48.fn T c_need_place c_lists_of d_Hand_alter c_replaced_at,D48.bi⟩;have d_Hand_tread:AI l.prog w K mg base C_Hand "tread" 10 ["self","pick","treadles"] _:=⟨_,_,T.kd_Hand.cl,j49,Jn (P:=l.prog) (w:=w) (base:=base) D49.fn T c_need_place d_Draft_picks c_lists_of d_Hand_alter c_replaced_at,D49.bi⟩;have d_Hand_colour:AI l.prog w K mg base C_Hand "colour" 10 ["self","side","number","colour"] _:=⟨_,_,T.kd_Hand.cl,j50,IW (P:=l.prog) (w:=w) (base:=base) D50.fn T c_need_place d_Hand_alter c_replaced_at,D50.bi⟩;have d_Hand_put_end:AI l.prog w K mg base C_Hand "put_end" 9 ["self","end","shaft","colour"] _:=⟨_,_,T.kd_Hand.cl,j51,Hf (P:=l.prog) (w:=w) (base:=base) D51.fn T c_need_place d_Draft_ends c_put_at c_changed_draft d_Hand_bring,D51.bi⟩;have d_Hand_put_pick:AI l.prog w K mg base C_Hand "put_pick" 9 ["self","pick","treadles","colour"] _:=⟨_,_,T.kd_Hand.cl,j52,Gx (P:=l.prog) (w:=w) (base:=base) D52.fn T c_need_place d_Draft_picks c_lists_of c_put_at c_changed_draft d_Hand_bring,D52.bi⟩;have d_Hand_take_end:AI l.prog w K mg base C_Hand "take_end" 9 ["self","end"] _:=⟨_,_,T.kd_Hand.cl,j53,Gr (P:=l.prog) (w:=w) (base:=base) D53.fn T c_need_place d_Draft_ends c_taken_at c_changed_draft d_Hand_bring,D53.bi⟩;have d_Hand_take_pick:AI l.prog w K mg base C_Hand "take_pick" 9 ["self","pick"] _:=⟨_,_,T.kd_Hand.cl,j54,Ga (P:=l.prog) (w:=w) (base:=base) D54.fn T c_need_place d_Draft_picks c_lists_of c_taken_at c_changed_draft d_Hand_bring,D54.bi⟩;have d_Hand_undo:AI l.prog w K mg base C_Hand "undo" 2 ["self"] _:=⟨_,_,T.kd_Hand.cl,j55,Kr (P:=l.prog) (w:=w) (base:=base) D55.fn T d_Hand_bring,D55.bi⟩;have c__law_made:=D56.call (KJ (P:=l.prog) (w:=w) (base:=base) D56.fn T m_Draft);have c__law_lifts:=D57.call (Jf (P:=l.prog) (w:=w) (base:=base) D57.fn T);have c__law_woven:=D58.call (Jp (P:=l.prog) (w:=w) (base:=base) D58.fn T c__law_lifts);have c__law_deed:=D59.call (KQ (P:=l.prog) (w:=w) (base:=base) D59.fn T c__law_numbers);have c__law_behind:=D60.call (Im (P:=l.prog) (w:=w) (base:=base) D60.fn T (D31.call (CP (P:=l.prog) (w:=w) (base:=base) D31 T 4)) c__law_lifts);have c__law_done:=D61.call (KA (P:=l.prog) (w:=w) (base:=base) D61.fn T d_Hand_thread d_Hand_tie d_Hand_tread d_Hand_put_end d_Hand_put_pick d_Hand_take_end d_Hand_take_pick d_Hand_colour d_Hand_undo);have c__law_stands:=D62.call (Ij (P:=l.prog) (w:=w) (base:=base) D62.fn T (D0.call (DR (P:=l.prog) (w:=w) (base:=base) D0 T 4)) d_Hand_draft d_Draft_told d_Hand_cloth d_Cloth_told c__law_woven);exact TB D63.fn T c__law_draft (D31.call (CP (P:=l.prog) (w:=w) (base:=base) D31 T 4)) c__law_made m_Hand d_Hand_draft d_Hand_cloth c__law_deed c__law_behind c__law_done (D0.call (DR (P:=l.prog) (w:=w) (base:=base) D0 T 4)) (D34.call (ER (P:=l.prog) (w:=w) (base:=base) D34 T 4)) c__law_stands d_Draft_told d_Cloth_told c_woven c__law_woven
    ⟩
theorem walk {l:PySem.W.OpenLaw} {q:Program} {loose:List Str} {YP:World->Heap->Prop} {d:DefRec} {K:Params->PySem.W.Frag} (hn:l.most=some 63) (hdf:d.params.defaults=[])
    (hY:∀ (w:World) (h:Heap),YP w h->(K w.params).In h)
    (F:∀ (w:World) (mg:Str->Option Value) (fa:Addr) (h:Heap),(K w.params).In h->h.Ns mainGlobals mg->mg d.name=some (.ref fa)->
      ∃ fd:FuncData,(∀ (s:Shared) (v:Value),BindsTo s fd ⟨[v],[]⟩ [("_law_script",v)])/\∀ base:Heap,(K w.params).In base->base.Ns mainGlobals mg->FnOk l.prog w (K w.params) mg base CX0 12 fa fd ["_law_script"] (M6 (K w.params))):
    PySem.W.WalkO q loose XP YP l.row.toRowW d [] (λ f vs=>PySem.call f vs):=
  L2.walk_of (n:=63) (k:=12) (x:="_law_script") (CX:=λ _=>CX0) (sp:=λ w=>M6 (K w.params)) hn (by decide) hdf ⟨rfl,by decide,by decide⟩ hY F (λ _ _ a ns hl _ hS=>⟨a,ns,rfl,hS,hl,λ _=>rfl⟩) λ _ _ _ _ _ z=>z
end K32
end
open PySem PySem.W PyProof.Rows
set_option maxRecDepth 100000 in
set_option maxHeartbeats 0 in
theorem PySem.Challenge.cw_loomwright_k32_whole_woven_afresh_holds : PySem.Challenge.rw_loomwright_k32_whole_woven_afresh.Holds := by
  w_on
  refine PySem.W.holds_law K32.wsaid λ said=> ?_;refine PySem.W.holds_open (q:=K32.view) (loose:=[]) (Xt:=K32.Xt) (XP:=PySem.W.XL K32.view []) (Yf:=(PySem.W.kHook K32.frag K32.addrs K32.addrs_eq).obs) (Ya:=(PySem.W.kHook K32.frag K32.addrs K32.addrs_eq).val) (YP:=(PySem.W.kHook K32.frag K32.addrs K32.addrs_eq).says) (N:=K32.fuel) K32.left (PySem.W.kHook K32.frag K32.addrs K32.addrs_eq).of (PySem.W.kHook K32.frag K32.addrs K32.addrs_eq).keeps (λ s e=>PySem.W.xl_of s (Bool.and_eq_true_iff.mp e).1) PySem.W.XL.keeps (by rfl) (by rfl) (by rfl) (λ s e=>PySem.W.recFacts_of (Bool.and_eq_true_iff.mp e).2) (by rfl) (by first | assumption | decide +kernel) (by first | k_qdec | decide +kernel) ⟨rfl,rfl,rfl,rfl,rfl,by decide +kernel⟩ ?hw ?hc
  (case hw=>w_witness2)
  k_fill
  refine K32.walk (l:=PySem.Challenge.rw_loomwright_k32_whole_woven_afresh) rfl rfl (λ w h Y=>PySem.W.kIn_of Y) ?F
  case F=>
    intro w mg fa h KX G hmg;refine' K32.all_mk KX G hmg ?T ?_ ?_ ?_ ?_ ?_ ?_ ?_ ?_ ?_ ?_ ?_ ?_ ?_ ?_ ?_ ?_ ?_ ?_ ?_ ?_ ?_ ?_ ?_ ?_ ?_ ?_ ?_ ?_ ?_ ?_ ?_ ?_ ?_ ?_ ?_ ?_ ?_ ?_ ?_ ?_ ?_ ?_ ?_ ?_ ?_ ?_ ?_ ?_ ?_ ?_ ?_ ?_ ?_ ?_ ?_ ?_ ?_ ?_ ?_ ?_ ?_ ?_ ?_ ?_ ?_ ?_ ?_ ?_ ?_ ?_ ?_ ?_ ?_ ?_ ?_ ?_ ?_ ?_ ?_ ?_ ?_ ?_ ?_ ?_ ?_ ?_
    case T=>
      intros
      constructor
      all_goals try dsimp only
      all_goals try ((with_reducible refine' PySem.W.mg_of KX G ?_);k_is)
      all_goals first
        | ((with_reducible refine' L2.own_cons (PySem.W.mg_none_of KX G ?_) ?_) <;> (repeat' first | (with_reducible exact L2.own_nil) | (with_reducible refine' L2.own_cons (PySem.W.mg_none_of KX G ?_) ?_) | k_is))
        | ((with_reducible first | refine' L2.ci_mk (PySem.W.mg_of KX G ?_) | refine' L2.cs_mk (PySem.W.mg_of KX G ?_)) <;> first | k_is | skip)
        | with_reducible assumption
        | (refine' ⟨⟨?_,?_,?_,?_⟩,?_,?_,?_,?_⟩ <;> k_is)
        | ((with_reducible refine' L2.exc_mk ?_ ?_ ?_ ?_ ?_ ?_ ?_ ?_) <;> k_is)
        | (refine' ⟨?_,?_,?_⟩ <;> first | k_is | kernel_rfl)
        | (unfold L2.NoAttr;k_is)
        | k_is | k_exc | kts_exm | kit_is
    all_goals first
      | (refine' L2.def_mk (PySem.W.mg_of KX G ?_) (L2.fun_mk ?_ ?_ ?_) ?_ <;> first | k_is | exact L2.arg1 λ _=>rfl | exact L2.arg2 λ _ _=>rfl | exact L2.arg3 λ _ _ _=>rfl | exact L2.arg4 λ _ _ _ _=>rfl | exact L2.arg5 λ _ _ _ _ _=>rfl | exact L2.arg6 λ _ _ _ _ _ _=>rfl | exact L2.arg7 λ _ _ _ _ _ _ _=>rfl | exact L2.arg8 λ _ _ _ _ _ _ _ _=>rfl | exact L2.arg9 λ _ _ _ _ _ _ _ _ _=>rfl | skip)
      | (refine' L2.fnA_mk (L2.fun_mk ?_ ?_ ?_) ?_ <;> first | k_is | exact L2.arg1 λ _=>rfl | exact L2.arg2 λ _ _=>rfl | exact L2.arg3 λ _ _ _=>rfl | exact L2.arg4 λ _ _ _ _=>rfl | exact L2.arg5 λ _ _ _ _ _=>rfl | exact L2.arg6 λ _ _ _ _ _ _=>rfl | exact L2.arg7 λ _ _ _ _ _ _ _=>rfl | exact L2.arg8 λ _ _ _ _ _ _ _ _=>rfl | exact L2.arg9 λ _ _ _ _ _ _ _ _ _=>rfl | skip)
      | (refine' ⟨?_,?_,?_,?_⟩;all_goals first | k_is | kernel_rfl | skip)
      | (refine' ⟨?_,?_,?_⟩;all_goals first | k_is | kernel_rfl | skip)
      | k_is
      | exact λ s u=> .of_eq rfl
      | rfl | kernel_rfl | exact Ad1 | decide | skip
